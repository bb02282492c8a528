import PyProof.Rows.All
import Wide.All
import OpenK.AllK
import Wide.FinOn
import Lean
import PyProof.EqAt
import PyProof.EqKinds
import PyProof.TupleCall
import PyProof.CompFree
import PyProof.StrWalks
import PyProof.EnumMake
import PyProof.Draws
import PyProof.Rows.SetFrom
import PyProof.WalksMore
import PyProof.DictKinds
import KE.KRevIter
import KE.KSortTup
import PyProof.ListMulAny
import PyProof.FactsAll.tuple
import KE.KDictList
import PyProof.NeKinds
import KE.KIsAll
import PyProof.ConsumeWalk
import PyProof.StationsW
import PyProof.PassesOwn
import OpenK.KOwn
import KE.KTryMore
import PyProof.ExcAttrAll.ValueError
import PyProof.Rows.FStr
import PyProof.FString
import PySem.Challenge.RW_loaders_k08_arrows
set_option Elab.async false
set_option linter.all false
set_option maxRecDepth 100000
set_option maxHeartbeats 0
set_option hygiene false
local macro_rules
| `(#[0])=>`((by omega))
| `(#[5])=>`((hr.mono (by decide)))
| `(#[3])=>`((PXd.w qAf))
| `(#[7])=>`((toW (cst (.int 0))))
| `(#[41])=>`((s.heap.push { cls:=.type "set",dict:=none,data:=.set #[] 0 (.fresh 0 0 led) }))
| `(#[11])=>`((fun _ _=>rfl))
| `(#[13])=>`((toW (cst (.int 1))))
| `(#[17])=>`((x == ("__debug__":Str)))
| `(#[20])=>`((by push_cast only [okb]))
| `(#[9])=>`((model X.prog X.w))
| `(#[47])=>`((PySem.W.fnOf x x (qCi st) (qBp st) (qAd st) .none kV doc pm an cdv ct))
| `(#[14])=>`((fun h=>nomatch h))
| `(#[29])=>`((qAc (var 0) (qAc (var 1) qA2)))
| `(#[19])=>`((by decide +kernel))
| `(#[10])=>`((Nat.le_refl _))
| `(#[12])=>`((by and_intros))
| `(#[45])=>`(((Pst.bind p).mono fun w B1 H1 g1 p1 v hw=>?_))
| `(#[2])=>`((wdD ls))
| `(#[30])=>`((Nat.le_of_ble_eq_true rfl))
| `(#[49])=>`((qB5 X M s3 (upd H2 l (.lst [])) s3.heap.objs.size fp x scope cl))
| `(#[22])=>`((false,eval e X.env))
| `(#[50])=>`((qAl (qBa T) #[5] rfl (qAa (qAb 0) (qAa (qBk qA1 (qAb 1) #[3]) (qAa #[3] qAh))) rfl))
| `(#[4])=>`((by decide))
| `(#[23])=>`((toW (cst (.int 2))))
| `(#[33])=>`((x == ("__classdict__":Str)))
| `(#[57])=>`(((s.heap.push (seqObj "list" #[] 0)).update s.heap.objs.size (Obj.mapSeq (·++vs.toArray))))
| `(#[48])=>`((.tup [.str k,.str n,a,.tup (fs.map D.str),.tup rs]))
| `(#[15])=>`((ss.map D.str))
| `(#[28])=>`((qA4 (qAb 0) #[3] #[11]))
| `(#[51])=>`((.ListComp elt [⟨.Name x px,iter,ifs,0⟩] scope pos))
| `(#[21])=>`((toW (cst .non)))
| `(#[42])=>`((qB5 X M s₀ H₀ C fp x scope cl))
| `(#[62])=>`((qAc (var 0) (qAc (qAn ixW (var 1) #[7]) (qAc (var 4) (qAc (var 5) (qAc (qAn qCp (var 2) (qAg (qAq (qBg (var 1)) qB4) qBt)) qA2))))))
| `(#[26])=>`((starEach [] X.env))
| `(#[18])=>`((model prog w))
| `(#[56])=>`((qAl (qCr T) #[5] rfl (qAa (qAb 0) (qAa #[3] (qAa #[3] qAh))) rfl))
| `(#[63])=>`((((sIx items.size 0 lo:Nat):Int) == 0 && (1:Int) == 1 && (sIx items.size items.size hi - sIx items.size 0 lo) == items.size))
| `(#[31])=>`((.lst (ns.map D.int)))
| `(#[43])=>`((backTo pos (starEach es X.env)))
| `(#[8])=>`((Addr×Obj))
| `(#[59])=>`(([e].length + ([]:List Keyword).length + (if ([]:List Keyword).isEmpty then 0 else 1) < 30))
| `(#[44])=>`((qAa (qAb 0) (qAa (qAb 1) qAh)))
| `(#[60])=>`((k == NameKind.free && X.env.scope.kind == .function && X.env.kindOf y == some .cell))
| `(#[46])=>`((.Call (.Name x p) (e::es) [] pos))
| `(#[64])=>`((qAn ixW (var 4) (qAn qCp (qAg (qAc (qAn eqW (qAn ixW (var 4) #[7]) (toW (cst (.str "read")))) qA2) qYf) #[13])))
| `(#[34])=>`((by push_cast only [E]))
| `(#[1])=>`((var 0))
| `(#[53])=>`((qBw qB6 rfl T.b_len boot_len (qAa (qAb 0) qAh)))
| `(#[54])=>`(((Pst.bind p).mono fun ws B1 H1 g1 p1 vs hw=>?_))
| `(#[61])=>`((s.heap.push { cls:=.type "tuple_iterator",data:=.fields #[.ref l,.int 0 0] }))
| `(#[25])=>`((some (.ref a)))
| `(#[66])=>`((qA4 (qAb 2) (qAl (qBa T) #[5] rfl (qAa (qAb 0) (qAa (qBk qA1 (qAb 1) #[3]) (qAa (qBw qB6 rfl T.b_len boot_len (qAa (qAb 2) qAh)) qAh))) rfl) #[11]))
| `(#[6])=>`((by simp))
| `(#[67])=>`((thn (qCb hN hvi hd hcd pins s σ H (fun v H'=>v=.ref a∧H'=H) I ⟨_,ea,rfl,rfl⟩) fun iv s2 ⟨y,H2,I2,ry,ey,eH⟩=>Calls.spliced_nil ?_))
| `(#[35])=>`((relabel scope X.env))
| `(#[37])=>`((qA4 (qAb 1) #[3] #[11]))
| `(#[24])=>`((Grow.refl hs))
| `(#[38])=>`((.ref s.heap.objs.size))
| `(#[65])=>`(((s.heap.update a (Obj.mapSeq fun _=>(#[]:Array Value))).push (seqObj "tuple" vs.toArray 0)))
| `(#[68])=>`((wpAny_attempt (wpAny_callSpecial?_slot (name:=Str.ofString "__next__") it.typeIs PySem.F.slot_dict_keyiterator_next (wpAny_call_entry PySem.F.slot_dict_keyiterator_next it.typeIs PySem.F.entry_dict_keyiterator_next ?b (PySem.F.args_dict_keyiterator_next_1 _)))))
| `(#[32])=>`((Grow.refl g1.bh))
| `(#[27])=>`((.int (i:Int)))
| `(#[55])=>`((backToKw cpos (keywordEach [] X.env)))
| `(#[39])=>`((toW (cst (.int 4))))
| `(#[52])=>`((qBg (qP5 0 [("NoClass",false)])))
| `(#[36])=>`((fun z=>nomatch z))
| `(#[69])=>`((code_set_new_1 (.ref l) (E:=E) (Q₁:=fun obj s₁=>∃ led:Bool,obj=.ref s.heap.objs.size∧s₁={ s with heap:=s.heap.push { cls:=.type "set",dict:=none,data:=.set #[] 0 (.fresh 0 0 led) } }) fun led=>⟨led,rfl,rfl⟩))
| `(#[58])=>`((Nat.lt_of_lt_of_le (Heap.lt_size e) I.ok.above))
| `(#[40])=>`((show vs=[] from h))
| `(#[16])=>`((qA9 ls x))
set_option hygiene true
noncomputable section
namespace L2
open PySem PySem.Spec PyProof.Rows
abbrev Key:=Sum Int Str
def qQv:Key→Value→Bool
 | .inl k,v=>Value.isInt k v
 | .inr x,v=>Value.isStrOf x v
def keyH (w:World):Key→Int
 | .inl k=>hashInt k
 | .inr x=>hashStr w x
theorem qB1:∀ {k:Key} {v:Value},qQv k v=true→(∃ i t,k=Sum.inl i∧v=Value.int i t)∨(∃ x t,k=Sum.inr x∧v=Value.str x t)
 | .inl i,v,h=>by
  obtain ⟨t,e⟩:=Value.isInt_shape (k:=i) (v:=v) h
  exact .inl ⟨i,t,rfl,e⟩
 | .inr x,v,h=>by
  obtain ⟨t,e⟩:=Value.isStrOf_shape (x:=x) (v:=v) h
  exact .inr ⟨x,t,rfl,e⟩
theorem qWq (i:Int)(t:Tok):qQv (.inl i) (.int i t)=true:=by simp [qQv,Value.isInt]
theorem qWp (x:Str)(t:Tok):qQv (.inr x) (.str x t)=true:=by simp [qQv,Value.isStrOf]
theorem key_ll (a b:Int):decide ((Sum.inl a:Key)=Sum.inl b)=(a == b):=by
 by_cases e:a=b
 ·subst e;simp
 ·have h:¬ (Sum.inl a:Key)=Sum.inl b:=fun q=>e (Sum.inl.inj q)
  rw [decide_eq_false h]
  exact (beq_eq_false_iff_ne.mpr e).symm
theorem key_rr (a b:Str):decide ((Sum.inr a:Key)=Sum.inr b)=decide (a=b):=by
 by_cases e:a=b
 ·subst e;simp
 ·have h:¬ (Sum.inr a:Key)=Sum.inr b:=fun q=>e (Sum.inr.inj q)
  rw [decide_eq_false h,decide_eq_false e]
theorem key_lr (a:Int)(b:Str):decide ((Sum.inl a:Key)=Sum.inr b)=false:=decide_eq_false (fun q=>nomatch q)
theorem key_rl (a:Str)(b:Int):decide ((Sum.inr a:Key)=Sum.inl b)=false:=decide_eq_false (fun q=>nomatch q)
def qCc (prog:Program)(w:World):PySem.KeyKind prog w Key where
 is:=qQv
 hash:=keyH w
 inj:=fun v a b ha hb=>by
  rcases qB1 ha with ⟨i,t,rfl,rfl⟩ | ⟨x,t,rfl,rfl⟩
  ·rcases qB1 hb with ⟨j,u,rfl,e⟩ | ⟨y,u,rfl,e⟩
   ·injection e with e1 _;rw [e1]
   ·exact nomatch e
  ·rcases qB1 hb with ⟨j,u,rfl,e⟩ | ⟨y,u,rfl,e⟩
   ·exact nomatch e
   ·injection e with e1 _;rw [e1]
 byValue:=fun k v h=>by
  rcases qB1 h with ⟨i,t,rfl,rfl⟩ | ⟨x,t,rfl,rfl⟩ <;> rfl
 pyHash:=fun hv h=>by
  rcases qB1 hv with ⟨i,t,rfl,rfl⟩ | ⟨x,t,rfl,rfl⟩
  ·exact wpAny_pyHash_int h
  ·exact wpAny_pyHash_str h
 eqBool:=fun hu hv h=>by
  rcases qB1 hu with ⟨i,t,rfl,rfl⟩ | ⟨x,t,rfl,rfl⟩
  ·rcases qB1 hv with ⟨j,u,rfl,rfl⟩ | ⟨y,u,rfl,rfl⟩
   ·rw [key_ll] at h;exact wpAny_eqBool_int h
   ·rw [key_lr] at h;exact SeqAt.EqAt.int_str i t y u _ _ _ _ h
  ·rcases qB1 hv with ⟨j,u,rfl,rfl⟩ | ⟨y,u,rfl,rfl⟩
   ·rw [key_rl] at h;exact SeqAt.EqAt.str_int x t j u _ _ _ _ h
   ·rw [key_rr] at h;exact wpAny_eqBool_str h
 «strs»:=fun k x t v h=>by
  rcases qB1 h with ⟨i,u,rfl,e⟩ | ⟨y,u,rfl,e⟩
  ·exact nomatch e
  ·injection e with e1 _
   subst e1
   cases v <;> rfl
theorem qQo (prog:Program)(w:World)(i:Int)(t:Tok):(qCc prog w).is (.inl i) (.int i t)=true:=qWq i t
theorem qQn (prog:Program)(w:World)(x:Str)(t:Tok):(qCc prog w).is (.inr x) (.str x t)=true:=qWp x t
open PySem PySem.Spec PyProof.Rows
inductive V where
 | non | bl (b:Bool) | int (i:Int) | str (x:Str) | byt (b:Array UInt8) | flt (b:UInt64) | ref (a:Addr) | ty (n:String)
 deriving DecidableEq
def RelV:V→Value→Prop
 | .non,u=>u=Value.none
 | .bl b,u=>u=Value.bool b
 | .int i,u=>∃ t,u=Value.int i t
 | .str x,u=>∃ t,u=Value.str x t
 | .byt b,u=>∃ t,u=Value.bytes b t
 | .flt b,u=>∃ t,u=Value.float b t
 | .ref a,u=>u=Value.ref a
 | .ty n,u=>u=Value.type n
abbrev qBu:List V→List Value→Prop:=Paired RelV
theorem qBu.length {xs:List V}{us:List Value}(r:qBu xs us):xs.length=us.length:=Paired.length r
theorem qBu.get:∀ {xs:List V} {us:List Value} {i:Nat} {x:V},qBu xs us→xs[i]?=some x→∃ u,us[i]?=some u∧RelV x u
 | _,_,_,_,.nil,e=>by simp at e
 | _,_,0,_,.cons r _,e=>by simp at e;subst e;exact ⟨_,rfl,r⟩
 | _,_,i + 1,x,.cons _ t,e=>by
  obtain ⟨u,h1,h2⟩:=qBu.get (i:=i) (x:=x) t (by simpa using e)
  exact ⟨u,by simpa using h1,h2⟩
theorem qBu.set {x:V}{u:Value}(r:RelV x u):∀ {xs:List V} {us:List Value} (i:Nat),qBu xs us→qBu (xs.set i x) (us.set i u)
 | _,_,_,.nil=>.nil
 | _,_,0,.cons _ t=>.cons r t
 | _,_,i + 1,.cons q t=>.cons q (qBu.set r i t)
theorem qBu.append:∀ {xs ys:List V} {us ws:List Value},qBu xs us→qBu ys ws→qBu (xs++ys) (us++ws)
 | _,_,_,_,.nil,s=>s
 | _,_,_,_,.cons r t,s=>.cons r (qBu.append t s)
theorem qBu.take:∀ {xs:List V} {us:List Value} (n:Nat),qBu xs us→qBu (xs.take n) (us.take n)
 | _,_,0,_=>.nil
 | _,_,_ + 1,.nil=>.nil
 | _,_,n + 1,.cons r t=>.cons r (qBu.take n t)
theorem qBu.drop:∀ {xs:List V} {us:List Value} (n:Nat),qBu xs us→qBu (xs.drop n) (us.drop n)
 | _,_,0,r=>r
 | _,_,_ + 1,.nil=>.nil
 | _,_,n + 1,.cons _ t=>qBu.drop n t
def qYi:Option V→Option Value→Prop
 | some v,some u=>RelV v u
 | none,none=>True
 | _,_=>False
def KV {κ:Type}:List (κ×V)→List (κ×Value)→Prop:=Paired fun (p:κ×V) (q:κ×Value)=>p.1=q.1∧RelV p.2 q.2
def kV:Key→V
 | .inl i=>.int i
 | .inr x=>.str x
inductive HO where
 | lst (xs:List V)
 | tup (xs:List V)
 | dK (kvs:List (Key×V)) | dT (kvs:List (List Key×V))
 | set (S:Int→Bool) (n:Nat)
 | ins (C dx:Addr) (fs:List (Str×V))
 | own (x:Addr)
 | xd (fs:List (Str×V))
 | met (f x:Addr)
 | rng (lo hi:Int)
 | frz (o:Obj) (u:HO)
 | tab (q:Str)
 | ext (φ:Heap→Prop)
abbrev Hp:=Addr→Option HO
def upd (H:Hp)(a:Addr)(o:HO):Hp:=fun b=>if b=a then some o else H b
theorem qAu {H:Hp}{a:Addr}{o:HO}:upd H a o a=some o:=by unfold upd;rw [if_pos rfl]
theorem qAo {H:Hp}{a b:Addr}{o:HO}(h:b≠a):upd H a o b=H b:=by unfold upd;rw [if_neg h]
theorem ne_of {H:Hp}{a b:Addr}{o u:HO}(h:H a=some o)(h':H b=some u)(d:o≠u):a≠b:=by
 intro e;subst e;rw [h] at h';exact d (Option.some.inj h')
theorem qAm {H:Hp}{a b:Addr}{o:HO}(h:H a=some o)(h':H b=none):a≠b:=by
 intro e;subst e;rw [h] at h';cases h'
section
variable (P:Program)(w:World)
def qB7 (H:Hp)(h:Heap)(a:Addr):HO→Prop
 | .lst xs=>xs.length≤sizeLine∧∃ (its:List Value) (n:Nat),qBu xs its∧h.get? a=some { cls:=.type "list",data:=.seq its.toArray n }
 | .tup xs=>xs.length≤sizeLine∧∃ its:List Value,qBu xs its∧IsTup h a its.toArray
 | .dK kvs=>kvs.length≤sizeLine∧(a == sysModules)=false∧∃ vs,KV kvs vs∧h.DictOf (qCc P w) a vs
 | .dT kvs=>kvs.length≤sizeLine∧(a == sysModules)=false∧∃ xs:List (List Key×Addr×Value),
   Paired (fun (p:List Key×V) (q:List Key×Addr×Value)=>p.1=q.1∧H q.2.1=some (.tup (p.1.map kV))∧RelV p.2 q.2.2) kvs xs∧
   ∃ o es ep,h.get? a=some o∧o.ExactDict∧o.data=.dict es ep∧es.toList=xs.map (entryOfKey (tupleKind (qCc P w)))∧(xs.map (·.1)).Nodup
 | .set S n=>h.SetOf (intKind P w) a S n
 | .ins C dx fs=>H dx=some (.own a)∧fs.length≤1000∧dx≠a∧h.get? a=some (PySem.W.instObj C dx)∧
   ∃ mA,h.Ns1 dx mA∧(∀ f,qYi (fs.lookup f) (mA f))∧PySem.Within mA (fs.map (·.1))
 | .own _=>∃ o,h.get? a=some o
 | .xd fs=>∃ mA,h.Ns1 a mA∧∀ f,qYi (fs.lookup f) (mA f)
 | .rng lo hi=>∃ t u v,h.get? a=some { cls:=.type "range",data:=.fields #[.int lo t,.int hi u,.int 1 v] }
 | .frz o u=>h.get? a=some o∧qB7 H h a u
 | .tab q=>∃ ps:Array Value,h.get? a=some { cls:=.none,data:=.fields ps }∧TriplesOk ps.toList∧∀ pos v,codeAmong pos ps.toList=some v→∃ c oc vs t,v=.ref c∧H c=some (.frz oc (.own a))∧oc.data=.fields vs∧vs[1]?=some (.str q t)
 | .met f x=>h.get? a=some (PySem.W.methodObj (.ref f) (.ref x))
 | .ext φ=>φ h∧(∃ o,h.get? a=some o)∧∀ h1 h2:Heap,φ h1→(∀ o,h1.get? a=some o→h2.get? a=some o)→φ h2
def HOk (H:Hp)(h:Heap):Prop:=∀ a o,H a=some o→qB7 P w H h a o
end
section
variable {P:Program}{w:World}{H H':Hp}{h h':Heap}{a:Addr}{o:HO}
theorem qB7.lt (x:qB7 P w H h a o):a < h.objs.size:=by
 cases o with
 | lst xs=>obtain ⟨_,_,_,_,e⟩:=x;exact Heap.lt_size e
 | tup xs=>obtain ⟨_,_,_,p⟩:=x;exact p.lt
 | dK kvs=>obtain ⟨_,_,_,_,o,_,_,e,_⟩:=x;exact Heap.lt_size e
 | dT kvs=>obtain ⟨_,_,_,_,o,_,_,e,_⟩:=x;exact Heap.lt_size e
 | set S n=>obtain ⟨o,_,_,_,e,_⟩:=x;exact Heap.lt_size e
 | ins C dx fs=>obtain ⟨_,_,_,e,_⟩:=x;exact Heap.lt_size e
 | own y=>obtain ⟨_,e⟩:=x;exact Heap.lt_size e
 | xd fs=>obtain ⟨_,⟨_,_,_,e,_⟩,_⟩:=x;exact Heap.lt_size e
 | rng lo hi=>obtain ⟨_,_,_,e⟩:=x;exact Heap.lt_size e
 | frz ob u=>obtain ⟨e,_⟩:=x;exact Heap.lt_size e
 | tab q=>obtain ⟨_,e,_⟩:=x;exact Heap.lt_size e
 | met f y=>exact Heap.lt_size (show h.get? a=some _ from x)
 | ext φ=>obtain ⟨_,⟨_,e⟩,_⟩:=x;exact Heap.lt_size e
theorem Paired.mapP {α β:Type}{F G:α→β→Prop}:∀ {l₁:List α} {l₂:List β},Paired F l₁ l₂→(∀ a b,F a b→G a b)→Paired G l₁ l₂
 | _,_,.nil,_=>.nil
 | _,_,.cons r t,f=>.cons (f _ _ r) (Paired.mapP t f)
theorem qB7.stay (x:qB7 P w H h a o)(k:∀ b u,(b=a∨H b=some (.own a))→h.get? b=some u→h'.get? b=some u)
  (ho:∀ b,H b=some (.own a)→H' b=some (.own a)) (ht:∀ b xs,H b=some (.tup xs)→H' b=some (.tup xs)) (hz:∀ b u,H b=some (.frz u (.own a))→H' b=some (.frz u (.own a))):qB7 P w H' h' a o:=by
 induction o with
 | lst xs=>obtain ⟨z,its,n,r,e⟩:=x;exact ⟨z,its,n,r,k _ _ (.inl rfl) e⟩
 | tup xs=>obtain ⟨z,its,r,ob,e,c⟩:=x;exact ⟨z,its,r,ob,k _ _ (.inl rfl) e,c⟩
 | dK kvs=>obtain ⟨z,y,vs,r,ob,es,ep,e,c⟩:=x;exact ⟨z,y,vs,r,ob,es,ep,k _ _ (.inl rfl) e,c⟩
 | dT kvs=>
  obtain ⟨z,y,xs,r,ob,es,ep,e,c⟩:=x
  exact ⟨z,y,xs,Paired.mapP r fun p q z=>⟨z.1,ht _ _ z.2.1,z.2.2⟩,ob,es,ep,k _ _ (.inl rfl) e,c⟩
 | set S n=>obtain ⟨ob,es,ep,t,e,c⟩:=x;exact ⟨ob,es,ep,t,k _ _ (.inl rfl) e,c⟩
 | ins C dx fs=>
  obtain ⟨d,z,ne,e,mA,⟨od,es,ep,e2,c⟩,r⟩:=x
  exact ⟨ho _ d,z,ne,k _ _ (.inl rfl) e,mA,⟨od,es,ep,k _ _ (.inr d) e2,c⟩,r⟩
 | own y=>obtain ⟨ob,e⟩:=x;exact ⟨ob,k _ _ (.inl rfl) e⟩
 | xd fs=>obtain ⟨mA,⟨od,es,ep,e,c⟩,r⟩:=x;exact ⟨mA,⟨od,es,ep,k _ _ (.inl rfl) e,c⟩,r⟩
 | rng lo hi=>obtain ⟨t,u,v,e⟩:=x;exact ⟨t,u,v,k _ _ (.inl rfl) e⟩
 | frz ob u ih=>obtain ⟨e,q⟩:=x;exact ⟨k _ _ (.inl rfl) e,ih q⟩
 | tab q=>
  obtain ⟨ps,e,t,z⟩:=x
  refine ⟨ps,k _ _ (.inl rfl) e,t,fun pos v e=>?_⟩
  obtain ⟨c,oc,vs,tk,y1,y2,y3⟩:=z pos v e
  exact ⟨c,oc,vs,tk,y1,hz _ _ y2,y3⟩
 | met f y=>
  have e:h.get? a=some (PySem.W.methodObj (.ref f) (.ref y)):=x
  show h'.get? a=some (PySem.W.methodObj (.ref f) (.ref y))
  exact k a _ (.inl rfl) e
 | ext φ=>obtain ⟨p,⟨o,e⟩,st⟩:=x;exact ⟨st _ _ p fun o q=>k _ _ (.inl rfl) q,⟨o,k _ _ (.inl rfl) e⟩,st⟩
theorem HOk.lt (x:HOk P w H h)(e:H a=some o):a < h.objs.size:=(x a o e).lt
theorem HOk.fresh (x:HOk P w H h)(e:h.objs.size≤a):H a=none:=by
 cases q:H a with
 | none=>rfl
 | some u=>exact absurd (Nat.lt_of_lt_of_le (x.lt q) e) (Nat.lt_irrefl _)
theorem HOk.kept (x:HOk P w H h)(k:∀ b u,h.get? b=some u→h'.get? b=some u):HOk P w H h':=fun a o e=>
 (x a o e).stay (fun b u _ q=>k b u q) (fun _ q=>q) (fun _ _ q=>q) fun _ _ q=>q
theorem HOk.laid (x:HOk P w H h)(k:∀ b u,h.get? b=some u→h'.get? b=some u)(hp:h.objs.size≤a)(new:qB7 P w (upd H a o) h' a o):HOk P w (upd H a o) h':=fun b u e=>by
 have hn:=x.fresh hp
 by_cases hb:b=a
 ·subst hb;rw [qAu] at e;cases e;exact new
 ·rw [qAo hb] at e
  exact (x b u e).stay (fun c v _ q=>k c v q) (fun c q=>by rw [qAo (qAm q hn)];exact q) (fun c xs q=>by rw [qAo (qAm q hn)];exact q) fun c xs q=>by rw [qAo (qAm q hn)];exact q
end
def Rd (H:Hp)(a:Addr)(u:HO):Prop:=H a=some u∨∃ o,H a=some (.frz o u)
theorem Rd.of {H:Hp}{a:Addr}{u:HO}(h:H a=some u):Rd H a u:=.inl h
theorem Rd.ok {P:Program}{w:World}{H:Hp}{h:Heap}{a:Addr}{u:HO}(r:Rd H a u)(x:HOk P w H h):qB7 P w H h a u:=by
 rcases r with r | ⟨o,r⟩
 ·exact x a u r
 ·obtain ⟨_,q⟩:=x a _ r
  exact q
def Mut:Option HO→Prop
 | some (.lst _)=>True
 | some (.dK _)=>True
 | some (.dT _)=>True
 | some (.set _ _)=>True
 | some (.ins _ _ _)=>True
 | some (.ext _)=>True
 | _=>False
section
variable {P:Program}{w:World}{H:Hp}{h h':Heap}{x e:Addr}{o':HO}
theorem HOk.write (ok:HOk P w H h)(mu:Mut (H x))(he:e=x∨H e=some (.own x))(k:∀ b u,b≠e→h.get? b=some u→h'.get? b=some u)(heo:∃ u,h'.get? e=some u)
  (new:qB7 P w (upd H x o') h' x o'):HOk P w (upd H x o') h':=fun b u q=>by
 have nown:∀ c y,H c=some (.own y)→c≠x:=fun c y r z=>by subst z;rw [r] at mu;exact mu
 have ntup:∀ c xs,H c=some (.tup xs)→c≠x:=fun c xs r z=>by subst z;rw [r] at mu;exact mu
 have nfrz:∀ c u v,H c=some (.frz u v)→c≠x:=fun c u v r z=>by subst z;rw [r] at mu;exact mu
 by_cases hb:b=x
 ·subst hb;rw [qAu] at q;cases q;exact new
 ·rw [qAo hb] at q
  by_cases hbe:b=e
  ·have q':H b=some (.own x):=by
    rcases he with z | z
    ·exact absurd (hbe.trans z) hb
    ·rw [hbe];exact z
   rw [q] at q';cases q'
   obtain ⟨v,hv⟩:=heo
   exact ⟨v,by rw [hbe];exact hv⟩
  ·refine (ok b u q).stay (fun c v hc r=>k c v ?_ r) (fun c r=>by rw [qAo (nown c b r)];exact r) (fun c xs r=>by rw [qAo (ntup c xs r)];exact r) fun c v r=>by rw [qAo (nfrz c v _ r)];exact r
   rcases hc with rfl | hc
   ·exact hbe
   ·rintro rfl
    rcases he with z | z
    ·exact nown c b hc z
    ·rw [hc] at z;cases z;exact hb rfl
end
structure Un (fs ex:List Addr) (H H':Hp) (h h':Heap):Prop where
 keep:∀ b o,h.get? b=some o→H b=none→b∉fs→b∉ex→h'.get? b=some o
 slot:∀ b o,h.get? b=some o→H b=none→b∈fs→b∉ex→∃ sl,h'.get? b=some { o with slots:=sl }
 free:∀ b o,h.get? b=some o→H b=none→b∉ex→H' b=none
 there:∀ b o,h.get? b=some o→b∉ex→∃ o',h'.get? b=some o'
 tups:∀ b xs,H b=some (.tup xs)→H' b=some (.tup xs)
 frzs:∀ b o u,H b=some (.frz o u)→H' b=some (.frz o u)
 tbls:∀ b q,H b=some (.tab q)→H' b=some (.tab q)
section
variable {fs fs' ex ex':List Addr}{H H1 H2:Hp}{h h1 h2 h':Heap}{a x e:Addr}{o:HO}
theorem Un.any (u:Un fs ex H H1 h h1){b:Addr}{ob:Obj}(q:h.get? b=some ob)(n:H b=none)(hx:b∉ex):∃ sl,h1.get? b=some { ob with slots:=sl }:=by
 by_cases hb:b∈fs
 ·exact u.slot b ob q n hb hx
 ·exact ⟨ob.slots,u.keep b ob q n hb hx⟩
theorem Un.trans (a:Un fs ex H H1 h h1)(b:Un fs ex H1 H2 h1 h2):Un fs ex H H2 h h2 where
 keep:=fun c ob q n hc hx=>b.keep c ob (a.keep c ob q n hc hx) (a.free c ob q n hx) hc hx
 slot:=fun c ob q n hc hx=>by
  obtain ⟨sl,e1⟩:=a.slot c ob q n hc hx
  obtain ⟨sl',e2⟩:=b.slot c _ e1 (a.free c ob q n hx) hc hx
  exact ⟨sl',e2⟩
 free:=fun c ob q n hx=>by
  obtain ⟨o',e1⟩:=a.there c ob q hx
  exact b.free c o' e1 (a.free c ob q n hx) hx
 there:=fun c ob q hx=>by
  obtain ⟨o',e1⟩:=a.there c ob q hx
  exact b.there c o' e1 hx
 tups:=fun c xs q=>b.tups c xs (a.tups c xs q)
 frzs:=fun c ob xs q=>b.frzs c ob xs (a.frzs c ob xs q)
 tbls:=fun c ps q=>b.tbls c ps (a.tbls c ps q)
theorem Un.kept (k:∀ b u,h.get? b=some u→h'.get? b=some u):Un fs ex H H h h':=
 ⟨fun b ob q _ _ _=>k b ob q,fun b ob q _ _ _=>⟨ob.slots,k b ob q⟩,fun _ _ _ n _=>n,fun b ob q _=>⟨ob,k b ob q⟩,fun _ _ q=>q,fun _ _ _ q=>q,fun _ _ q=>q⟩
theorem Un.refl:Un fs ex H H h h:=Un.kept fun _ _ q=>q
theorem Un.laid (k:∀ b u,h.get? b=some u→h'.get? b=some u)(hp:h.objs.size≤a)(hn:H a=none):Un fs ex H (upd H a o) h h' where
 keep:=fun b u q _ _ _=>k b u q
 slot:=fun b u q _ _ _=>⟨u.slots,k b u q⟩
 free:=fun b u q n _=>by rw [qAo (Nat.ne_of_lt (Nat.lt_of_lt_of_le (Heap.lt_size q) hp))];exact n
 there:=fun b u q _=>⟨u,k b u q⟩
 tups:=fun b xs q=>by rw [qAo (qAm q hn)];exact q
 frzs:=fun b u xs q=>by rw [qAo (qAm q hn)];exact q
 tbls:=fun b ps q=>by rw [qAo (qAm q hn)];exact q
theorem Un.write (mu:Mut (H x))(he:e=x∨H e=some (.own x))(k:∀ b u,b≠e→h.get? b=some u→h'.get? b=some u)(heo:∃ u,h'.get? e=some u):Un fs ex H (upd H x o) h h':=by
 have hx:∀ b,H b=none→b≠x:=fun b n z=>by subst z;rw [n] at mu;exact mu
 have hb:∀ b,H b=none→b≠e:=fun b n z=>by
  subst z
  rcases he with r | r
  ·exact hx b n r
  ·rw [n] at r;cases r
 have hm:∀ b u,H b=some u→¬ Mut (some u)→b≠x:=fun b u q nm z=>by subst z;rw [q] at mu;exact nm mu
 refine ⟨fun b u q n _ _=>k b u (hb b n) q,fun b u q n _ _=>⟨u.slots,k b u (hb b n) q⟩,fun b u q n _=>by rw [qAo (hx b n)];exact n,fun b u q _=>?_,
  fun b xs q=>by rw [qAo (hm b _ q fun z=>z)];exact q,fun b u xs q=>by rw [qAo (hm b _ q fun z=>z)];exact q,fun b ps q=>by rw [qAo (hm b _ q fun z=>z)];exact q⟩
 by_cases hbe:b=e
 ·subst hbe;exact heo
 ·exact ⟨u,k b u hbe q⟩
theorem Un.mono (u:Un fs ex H H1 h h1)(hs:∀ b∈fs,b∈fs')(hx:∀ b∈ex,b∈ex'):Un fs' ex' H H1 h h1:=
 ⟨fun b ob q n hb he=>u.keep b ob q n (fun z=>hb (hs b z)) fun z=>he (hx b z),fun _ _ q n _ he=>u.any q n fun z=>he (hx _ z),fun b ob q n he=>u.free b ob q n fun z=>he (hx b z),fun b ob q he=>u.there b ob q fun z=>he (hx b z),u.tups,u.frzs,u.tbls⟩
end
def trk (h:Heap)(H:Hp):List Addr:=(List.range h.objs.size).filter fun a=>(H a).isSome
def qad (h:Heap)(H:Hp):Heap:=PySem.W.hideAll h (trk h H)
theorem qW2 (h:Heap)(H:Hp):(qad h H).objs.size=h.objs.size:=PySem.W.hideAll_size _ _
theorem qR8 {h:Heap}{H:Hp}{b:Addr}{o:Obj}(e:h.get? b=some o)(n:H b=none):(qad h H).get? b=some o:=
 PySem.W.hideAll_get _ e fun hm=>by
  have q:(H b).isSome=true:=(List.mem_filter.mp hm).2
  rw [n] at q;simp at q
theorem qdb {h:Heap}{H:Hp}{b:Addr}{o:Obj}(e:(qad h H).get? b=some o):h.get? b=some o∧H b=none:=by
 have e':h.get? b=some o:=PySem.W.of_hideAll (trk h H) e
 refine ⟨e',?_⟩
 cases q:H b with
 | none=>rfl
 | some x=>
  have hm:b∈trk h H:=List.mem_filter.mpr ⟨List.mem_range.mpr (Heap.lt_size e'),by simp [q]⟩
  have z:(qad h H).get? b=none:=PySem.W.hideAll_none (trk h H) hm
  rw [z] at e;cases e
def qeh (g h:Heap)(L:Addr):List #[8]:=(List.range h.objs.size).filterMap fun a=>if a=L∨(g.get? a).isSome=true then none else (h.get? a).map fun o=>(a,o)
def qE4 (g h:Heap)(L d:Addr):List #[8]:=(qeh g h L).filter fun p=>decide (p.1≠d)
open PySem PySem.Spec PyProof.Rows
def qC6:List Str:=["kinds","needed","ring_at","loader_read","read"]
def qYd (x:Str):Str:=x++".<locals>."++"<lambda>"
def qa0 (K:PySem.W.Frag)(H:Hp):Prop:=∀ x c P,x∈qC6→PySem.W.tabIn K x=some (c,P)→H P=some (.tab (qYd x))
structure Mod (K:PySem.W.Frag) (mg:Str→Option Value) (base:Heap):Prop where
 kin:K.In base
 glob:base.Ns mainGlobals mg
 blt:∃ mb,base.Ns builtinsNs mb∧∀ x:Str,x≠"__name__"→mb x=bootBuiltins x
 nolimit:base.NoLimit
 bm:∃ (bm:Addr) (ob:Obj),mg "__builtins__"=some (.ref bm)∧bm≠builtinsNs∧base.get? bm=some ob∧ob.cls=.type "module"∧ob.dict=some builtinsNs∧ob.data=.plain
 code:∀ x c P,x∈qC6→PySem.W.tabIn K x=some (c,P)→PySem.W.CodeHd base c P
structure Cx where
 prog:Program
 w:World
 K:PySem.W.Frag
 mg:Str→Option Value
 base:Heap
 A:Around
 N:List Str
 s₀:Shared
 H₀:Hp
 env:Env
 outer:List Env
 stack:List Env
 ex:List Addr
 fn:Str→Bool
 calm:Bool
 pn:List #[8]
 xe:Value→Shared→Prop
def frs (l:List Env):List Addr:=l.filterMap (·.frame)
abbrev Cx.fs (X:Cx):List Addr:=frs X.outer
def Vis (sc:Scope)(x:Str):Prop:=sc.names.lookup x=some .local∨sc.names.lookup x=some .cell∨sc.names.lookup x=some .free
def Loc (sc:Scope)(x:Str):Prop:=sc.names.lookup x=some .local∨sc.names.lookup x=some .cell
def Look (env:Env)(h:Heap)(m:Str→Option Value)(x:Str)(u:Value):Prop:=
 (env.kindOf x=some .local∧m x=some u)∨((env.kindOf x=some .cell∨env.kindOf x=some .free)∧∃ c,env.cells.lookup x=some c∧h.IsCell c (some u))
structure Cx.Ok (X:Cx):Prop where
 mod:Mod X.K X.mg X.base
 kind:X.env.scope.kind=.function
 glob:X.env.globals=mainGlobals
 blt:X.env.builtins=builtinsNs
 above:X.s₀.heap.objs.size≤X.env.locals
 inj:∀ x y c,X.env.cells.lookup x=some c→X.env.cells.lookup y=some c→x=y
 has:∀ x,(X.env.kindOf x=some .cell∨X.env.kindOf x=some .free)→∃ c,X.env.cells.lookup x=some c
 cab:∀ x c,X.fn x=true→X.env.cells.lookup x=some c→X.s₀.heap.objs.size≤c
 hd:X.calm=true→X.A.handled=none
 frames:X.A.frames=some X.stack
 stk:X.stack=X.outer∨(X.stack=X.env::X.outer∧X.env.frame=some X.env.locals)
 exf:∀ b∈X.ex,b≠X.env.locals∧∀ x c,X.env.cells.lookup x=some c→c≠b
 bs:∀ b o,X.base.get? b=some o→X.s₀.heap.get? b=some o∧X.H₀ b=none
 bsz:X.base.objs.size≤X.s₀.heap.objs.size
 noex:∀ b o,X.base.get? b=some o→b∉X.ex
 exfs:∀ b∈X.ex,b∉X.fs
 funs:X.s₀.heap.FunFrames X.base X.outer
 frf:∀ b∈X.fs,X.H₀ b=none
 tab:qa0 X.K X.H₀
structure Inv (X:Cx) (pins:List (Addr×Obj)) (σ:List (Option V)) (H:Hp) (s:Shared):Prop where
 ok:X.Ok
 os:s.os=X.s₀.os
 bare:AllBare s.gens
 base:Un X.fs X.ex X.H₀ H X.s₀.heap s.heap
 loc:∃ m,s.heap.Ns X.env.locals m∧∀ (i:Nat) (x:Str) (v:V),X.N[i]?=some x→σ[i]?=some (some v)→Vis X.env.scope x→∃ u,RelV v u∧Look X.env s.heap m x u
 cell:∀ x c,X.env.cells.lookup x=some c→∃ v,s.heap.IsCell c v
 free:H X.env.locals=none
 freeC:∀ x c,X.env.cells.lookup x=some c→H c=none
 pin:∀ p∈X.pn++pins,s.heap.get? p.1=some p.2∧H p.1=none∧p.1≠X.env.locals∧p.1∉X.fs∧∀ v,p.2.data≠.cell v
 hok:HOk X.prog X.w H s.heap
 len:σ.length=X.N.length
section
variable {X:Cx}{pins:List (Addr×Obj)}{σ:List (Option V)}{H H':Hp}{s:Shared}{h':Heap}
theorem Cx.Ok.nofr (ok:X.Ok){b:Addr}{o:Obj}(e:X.base.get? b=some o):b∉X.fs:=fun hb=>by
 have:=(ok.funs.mem hb).1
 rw [e] at this;cases this
theorem Inv.bs (I:Inv X pins σ H s):∀ b o,X.base.get? b=some o→s.heap.get? b=some o∧H b=none:=fun b o e=>
 ⟨I.base.keep b o (I.ok.bs b o e).1 (I.ok.bs b o e).2 (I.ok.nofr e) (I.ok.noex b o e),I.base.free b o (I.ok.bs b o e).1 (I.ok.bs b o e).2 (I.ok.noex b o e)⟩
theorem Inv.bk (I:Inv X pins σ H s):∀ b o,X.base.get? b=some o→s.heap.get? b=some o:=fun b o e=>(I.bs b o e).1
theorem Inv.mod (I:Inv X pins σ H s):Mod X.K X.mg X.base:=I.ok.mod
theorem Inv.kIn (I:Inv X pins σ H s):X.K.In s.heap:=I.ok.mod.kin.keeps I.bk
theorem Inv.nolimit (I:Inv X pins σ H s):s.heap.NoLimit:=I.ok.mod.nolimit.keeps I.bk
theorem Inv.fr (I:Inv X pins σ H s):∃ m,Fr X.base X.env.locals s.heap m:=
 let ⟨m,hn,_⟩:=I.loc
 ⟨m,hn,I.bk,Nat.le_trans I.ok.bsz I.ok.above⟩
theorem Inv.lt (I:Inv X pins σ H s):X.env.locals < s.heap.objs.size:=let ⟨_,hn,_⟩:=I.loc;hn.lt
theorem Inv.sz (I:Inv X pins σ H s):X.s₀.heap.objs.size≤s.heap.objs.size:=Nat.le_trans I.ok.above (Nat.le_of_lt I.lt)
theorem Inv.nofs (I:Inv X pins σ H s){a:Addr}(h:s.heap.objs.size≤a):a∉X.fs:=fun hb=>by
 obtain ⟨_,o,ho,_⟩:=I.ok.funs.mem hb
 exact absurd (Nat.lt_of_lt_of_le (Heap.lt_size ho) (Nat.le_trans I.sz h)) (Nat.lt_irrefl _)
theorem Inv.cne (I:Inv X pins σ H s):∀ x c,X.env.cells.lookup x=some c→c≠X.env.locals:=fun x c e z=>by
 obtain ⟨v,o,ho,hd⟩:=I.cell x c e
 obtain ⟨m,⟨o',es,ep,ho',hd',_⟩,_⟩:=I.loc
 rw [z,ho'] at ho;cases ho;rw [hd'] at hd;cases hd
theorem Inv.funs (I:Inv X pins σ H s):s.heap.FunFrames X.base X.outer:=by
 have all:∀ (l:List Env),(∀ b∈frs l,b∈X.fs)→X.s₀.heap.FunFrames X.base l→s.heap.FunFrames X.base l:=by
  intro l
  induction l with
  | nil=>intro _ _;trivial
  | cons env r ih=>
   intro hs hl
   obtain ⟨hk,⟨L,o,hf,hn,ho,hd⟩,hr⟩:=hl
   have hL:L∈X.fs:=hs L (by unfold frs;rw [List.filterMap_cons,hf];exact List.mem_cons_self)
   obtain ⟨sl,e⟩:=I.base.slot L o ho (I.ok.frf L hL) hL fun z=>I.ok.exfs L z hL
   exact ⟨hk,⟨L,_,hf,hn,e,hd⟩,ih (fun b hb=>hs b (by unfold frs;rw [List.filterMap_cons,hf];exact List.mem_cons_of_mem _ hb)) hr⟩
 exact all X.outer (fun _ hb=>hb) I.ok.funs
theorem Inv.stack (I:Inv X pins σ H s):s.heap.FunFrames X.base X.stack:=by
 rcases I.ok.stk with e | ⟨e,hf⟩
 ·rw [e];exact I.funs
 ·rw [e]
  obtain ⟨m,hn,_⟩:=I.loc
  refine .cons (by rw [I.ok.kind];decide) hf hn ?_ I.funs
  exact Heap.get?_none_of_le (Nat.le_trans I.ok.bsz I.ok.above)
theorem Inv.stkSub (I:Inv X pins σ H s):∀ b∈frs X.stack,b∈X.env.locals::X.fs:=fun b hb=>by
 rcases I.ok.stk with e | ⟨e,hf⟩
 ·rw [e] at hb;exact List.mem_cons_of_mem _ hb
 ·rw [e] at hb
  unfold frs at hb
  rw [List.filterMap_cons,hf] at hb
  exact hb
theorem Inv.stkFree (I:Inv X pins σ H s):∀ b∈frs X.stack,H b=none:=fun b hb=>by
 rcases List.mem_cons.mp (I.stkSub b hb) with e | hb
 ·rw [e];exact I.free
 ·obtain ⟨_,o,ho,_⟩:=I.ok.funs.mem hb
  exact I.base.free b o ho (I.ok.frf b hb) fun z=>I.ok.exfs b z hb
theorem Inv.step {g':Array GenState}{t':Nat}{d':Drawn}{ch:List Addr}(I:Inv X pins σ H s)
  (hch:∀ b∈ch,(b∈X.ex∨X.s₀.heap.objs.size≤b)∧b≠X.env.locals∧(∀ x c,X.env.cells.lookup x=some c→c≠b)∧∀ p∈X.pn++pins,p.1≠b)
  (keep:∀ b o,b≠X.env.locals→b∉X.fs→b∉ch→s.heap.get? b=some o→H b=none→h'.get? b=some o)
  (slot:∀ b o,b≠X.env.locals→b∈X.fs→b∉ch→s.heap.get? b=some o→H b=none→∃ sl,h'.get? b=some { o with slots:=sl }) (free:∀ b o,b∉ch→s.heap.get? b=some o→H b=none→H' b=none)
  (there:∀ b o,b∉ch→s.heap.get? b=some o→∃ o',h'.get? b=some o')
  (tups:∀ b xs,H b=some (.tup xs)→H' b=some (.tup xs)) (frzs:∀ b o u,H b=some (.frz o u)→H' b=some (.frz o u)) (tbls:∀ b q,H b=some (.tab q)→H' b=some (.tab q))
  (ns:∀ m,s.heap.Ns X.env.locals m→h'.Ns X.env.locals m) (hok:HOk X.prog X.w H' h') (hg:AllBare g') :
  Inv X pins σ H' { s with heap:=h',gens:=g',drawn:=d',toks:=t' }:=by
 have neL:∀ b o,X.s₀.heap.get? b=some o→b≠X.env.locals:=fun b o e=>Nat.ne_of_lt #[58]
 have neC:∀ b o,X.s₀.heap.get? b=some o→b∉X.ex→b∉ch:=fun b o e hx hb=>by
  rcases (hch b hb).1 with z | z
  ·exact hx z
  ·exact absurd (Nat.lt_of_lt_of_le (Heap.lt_size e) z) (Nat.lt_irrefl _)
 have cellK:∀ x c,X.env.cells.lookup x=some c→∀ v,s.heap.IsCell c v→h'.IsCell c v:=fun x c e v ⟨o,ho,hd⟩=>by
  have nch:c∉ch:=fun z=>(hch c z).2.2.1 x c e rfl
  by_cases hc:c∈X.fs
  ·obtain ⟨sl,q⟩:=slot c o (I.cne x c e) hc nch ho (I.freeC x c e)
   exact ⟨_,q,hd⟩
  ·exact ⟨o,keep c o (I.cne x c e) hc nch ho (I.freeC x c e),hd⟩
 refine ⟨I.ok,I.os,hg,⟨fun b o e n hb hx=>?_,fun b o e n hb hx=>?_,fun b o e n hx=>?_,fun b o e hx=>?_,fun b xs e=>tups b xs (I.base.tups b xs e),fun b o xs e=>frzs b o xs (I.base.frzs b o xs e),fun b ps e=>?_⟩,?_,fun x c e=>?_,?_,fun x c e=>?_,fun p hp=>?_,hok,I.len⟩
 ·exact keep b o (neL b o e) hb (neC b o e hx) (I.base.keep b o e n hb hx) (I.base.free b o e n hx)
 ·obtain ⟨sl,e1⟩:=I.base.slot b o e n hb hx
  obtain ⟨sl',e2⟩:=slot b _ (neL b o e) hb (neC b o e hx) e1 (I.base.free b o e n hx)
  exact ⟨sl',e2⟩
 ·obtain ⟨o',e1⟩:=I.base.there b o e hx
  exact free b o' (neC b o e hx) e1 (I.base.free b o e n hx)
 ·obtain ⟨o',e1⟩:=I.base.there b o e hx
  exact there b o' (neC b o e hx) e1
 ·exact tbls b ps (I.base.tbls b ps e)
 ·obtain ⟨m,hn,hl⟩:=I.loc
  refine ⟨m,ns m hn,fun i x v e1 e2 e3=>?_⟩
  obtain ⟨u,r,l⟩:=hl i x v e1 e2 e3
  refine ⟨u,r,?_⟩
  rcases l with l | ⟨k,c,e,z⟩
  ·exact .inl l
  ·exact .inr ⟨k,c,e,cellK x c e _ z⟩
 ·obtain ⟨v,z⟩:=I.cell x c e
  exact ⟨v,cellK x c e v z⟩
 ·obtain ⟨m,⟨o,_,_,ho,_⟩,_⟩:=I.loc
  exact free _ o (fun z=>(hch _ z).2.1 rfl) ho I.free
 ·obtain ⟨v,o,ho,hd⟩:=I.cell x c e
  exact free c o (fun z=>(hch c z).2.2.1 x c e rfl) ho (I.freeC x c e)
 ·obtain ⟨e,n,ne,nf,d⟩:=I.pin p hp
  have nch:p.1∉ch:=fun z=>(hch p.1 z).2.2.2 p hp rfl
  exact ⟨keep p.1 p.2 ne nf nch e n,free p.1 p.2 nch e n,ne,nf,d⟩
theorem Inv.un {t':Nat}(I:Inv X pins σ H s)(u:Un X.fs [] H H' s.heap h')(hok:HOk X.prog X.w H' h'):Inv X pins σ H' { s with heap:=h',toks:=t' }:=by
 obtain ⟨m,⟨o,es,ep,ho,r⟩,_⟩:=id I.loc
 obtain ⟨sl,hL⟩:=u.any ho I.free #[6]
 exact I.step (g':=s.gens) (d':=s.drawn) (ch:=[]) (fun _ z=>nomatch z) (fun b o _ hb _ e n=>u.keep b o e n hb #[6]) (fun b o _ hb _ e n=>u.slot b o e n hb #[6]) (fun b o _ e n=>u.free b o e n #[6]) (fun b o _ e=>u.there b o e #[6]) u.tups u.frzs u.tbls (fun m' hm=>by
  obtain ⟨o',es',ep',ho',r'⟩:=hm
  rw [ho] at ho';cases ho'
  exact ⟨_,es',ep',hL,r'⟩) hok I.bare
theorem Inv.call {g':Array GenState}{t':Nat}{d':Drawn}{ch:List Addr}(I:Inv X pins σ H s)(u:Un (frs X.stack) ch H H' s.heap h')(hok:HOk X.prog X.w H' h')(hg:AllBare g')
  (hch:∀ b∈ch,(b∈X.ex∨X.s₀.heap.objs.size≤b)∧b≠X.env.locals∧(∀ x c,X.env.cells.lookup x=some c→c≠b)∧∀ p∈X.pn++pins,p.1≠b) :
  Inv X pins σ H' { s with heap:=h',gens:=g',drawn:=d',toks:=t' }:=by
 obtain ⟨m,⟨o,es,ep,ho,r⟩,_⟩:=id I.loc
 obtain ⟨sl,hL⟩:=u.any ho I.free fun z=>(hch _ z).2.1 rfl
 exact I.step (ch:=ch) hch (fun b o hL hb hc e n=>u.keep b o e n (fun z=>(List.mem_cons.mp (I.stkSub b z)).elim hL hb) hc) (fun b o _ _ hc e n=>u.any e n hc) (fun b o hc e n=>u.free b o e n hc) (fun b o hc e=>u.there b o e hc) u.tups u.frzs u.tbls (fun m' hm=>by
  obtain ⟨o',es',ep',ho',r'⟩:=hm
  rw [ho] at ho';cases ho'
  exact ⟨_,es',ep',hL,r'⟩) hok hg
theorem Inv.turned {t':Nat}{it:Addr}(I:Inv X pins σ H s)(k:∀ b o,b≠it→s.heap.get? b=some o→h'.get? b=some o)(hn:H it=none)(hL:it≠X.env.locals)
  (h1:it∈X.ex∨X.s₀.heap.objs.size≤it) (h2:∀ x c,X.env.cells.lookup x=some c→c≠it) (h3:∀ p∈X.pn++pins,p.1≠it):Inv X pins σ H { s with heap:=h',toks:=t' }:=by
 have nit:∀ b u,H b=some u→b≠it:=fun b u e z=>by rw [z,hn] at e;cases e
 refine I.step (g':=s.gens) (d':=s.drawn) (ch:=[it]) (fun b hb=>?_) (fun b o _ _ hc e _=>k b o (fun z=>hc (by simp [z])) e) (fun b o _ _ hc e _=>⟨o.slots,k b o (fun z=>hc (by simp [z])) e⟩) (fun _ _ _ _ n=>n)
  (fun b o hc e=>⟨o,k b o (fun z=>hc (by simp [z])) e⟩) (fun _ _ e=>e) (fun _ _ _ e=>e) (fun b ps e=>e) (fun m hm=>?_) (fun b u e=>?_) I.bare
 ·have e:b=it:=by simpa using hb
  subst e
  exact ⟨h1,hL,h2,h3⟩
 ·obtain ⟨o,es,ep,ho,r⟩:=hm
  exact ⟨o,es,ep,k _ o (Ne.symm hL) ho,r⟩
 ·refine (I.hok b u e).stay (fun c v hc q=>k c v ?_ q) (fun _ q=>q) (fun _ _ q=>q) fun _ _ q=>q
  rcases hc with z | z
  ·rw [z];exact nit b u e
  ·exact nit c _ z
theorem Inv.tok (I:Inv X pins σ H s)(t:Nat):Inv X pins σ H { s with toks:=t }:=I.un (h':=s.heap) (t':=t) Un.refl I.hok
theorem Inv.kept {t':Nat}(I:Inv X pins σ H s)(k:∀ b u,s.heap.get? b=some u→h'.get? b=some u):Inv X pins σ H { s with heap:=h',toks:=t' }:=I.un (Un.kept k) (I.hok.kept k)
theorem Inv.laid {a:Addr}{o:HO}{t':Nat}(I:Inv X pins σ H s)(k:∀ b u,s.heap.get? b=some u→h'.get? b=some u)(hp:s.heap.objs.size≤a)(new:qB7 X.prog X.w (upd H a o) h' a o) :
  Inv X pins σ (upd H a o) { s with heap:=h',toks:=t' }:=I.un (Un.laid k hp (I.hok.fresh hp)) (I.hok.laid k hp new)
theorem Inv.write {x e:Addr}{o:HO}{t':Nat}(I:Inv X pins σ H s)(mu:Mut (H x))(he:e=x∨H e=some (.own x))(k:∀ b u,b≠e→s.heap.get? b=some u→h'.get? b=some u)(heo:∃ u,h'.get? e=some u)
  (new:qB7 X.prog X.w (upd H x o) h' x o):Inv X pins σ (upd H x o) { s with heap:=h',toks:=t' }:=I.un (Un.write mu he k heo) (I.hok.write mu he k heo new)
theorem Inv.pins_of {pins':List #[8]}(I:Inv X pins σ H s)(h:∀ p∈pins',s.heap.get? p.1=some p.2∧H p.1=none∧p.1≠X.env.locals∧p.1∉X.fs∧∀ v,p.2.data≠.cell v):Inv X pins' σ H s:=
 ⟨I.ok,I.os,I.bare,I.base,I.loc,I.cell,I.free,I.freeC,fun p hp=>(List.mem_append.mp hp).elim (fun z=>I.pin p (List.mem_append_left _ z)) (h p),I.hok,I.len⟩
theorem qR1 {N:List Str}(hN:N.Nodup){i j:Nat}{x:Str}(a:N[i]?=some x)(b:N[j]?=some x):i=j:=by
 obtain ⟨h1,e1⟩:=List.getElem?_eq_some_iff.mp a
 obtain ⟨h2,e2⟩:=List.getElem?_eq_some_iff.mp b
 exact (List.getElem_inj hN).mp (e1.trans e2.symm)
theorem qNh {M:Model}{A:Around}{E:Value→Shared→Prop}{i:Nat}{x:Str}{v:V}{u:Value}{Q:Unit→Shared→Prop}(I:Inv X pins σ H s)(hN:X.N.Nodup)(hi:X.N[i]?=some x)(hx:Loc X.env.scope x)(r:RelV v u)
  (h:∀ s',Inv X pins (σ.set i (some v)) H s'→(∃ a,Heap.SameBut a s.heap s'.heap∧(a=X.env.locals∨X.env.cells.lookup x=some a))→Q () s') (hf:X.fn x=true∨X.env.scope.names.lookup x=some .local:=by first | exact .inl rfl | exact .inr rfl | assumption):wpAny M A (storeName X.env x u) Q E s:=by
 obtain ⟨m,hn,hl⟩:=id I.loc
 have hcls:(X.env.scope.kind == .class || (X.env.scope.kind == .module && X.env.locals != X.env.globals))=false:=by rw [I.ok.kind];rfl
 have hiσ:i < σ.length:=by rw [I.len];exact (List.getElem?_eq_some_iff.mp hi).1
 have cne:=I.cne
 have tracked:∀ {a:Addr} {h':Heap},(∃ o,s.heap.get? a=some o∧H a=none)→Heap.SameBut a s.heap h'→HOk X.prog X.w H h':=fun {a h'} ha hs b ob e=>by
  obtain ⟨_,_,hfree⟩:=ha
  refine (I.hok b ob e).stay (fun c w' hc q=>(hs.2 c ?_).trans q) (fun _ q=>q) (fun _ _ q=>q) fun _ _ q=>q
  rintro rfl
  rcases hc with rfl | hc
  ·rw [hfree] at e;cases e
  ·rw [hfree] at hc;cases hc
 rcases hx with hk | hk
 ·refine wpAny_storeName_local hk hn (fun h' hn' hs=>?_) hcls
  obtain ⟨oL,_,_,hoL,_⟩:=id hn
  refine h _ ⟨I.ok,I.os,I.bare,⟨fun b o e n hb hx=>?_,fun b o e n hb hx=>?_,I.base.free,fun b o e hx=>?_,I.base.tups,I.base.frzs,I.base.tbls⟩,⟨_,hn',fun j y v' e1 e2 e3=>?_⟩,fun y c e=>?_,I.free,I.freeC,fun p hp=>?_,tracked ⟨oL,hoL,I.free⟩ hs,by simpa using I.len⟩ ⟨_,hs,.inl rfl⟩
  ·exact (hs.2 b (Nat.ne_of_lt #[58])).trans (I.base.keep b o e n hb hx)
  ·obtain ⟨sl,e1⟩:=I.base.slot b o e n hb hx
   exact ⟨sl,(hs.2 b (Nat.ne_of_lt #[58])).trans e1⟩
  ·obtain ⟨o',e1⟩:=I.base.there b o e hx
   exact ⟨o',(hs.2 b (Nat.ne_of_lt #[58])).trans e1⟩
  ·by_cases hj:j=i
   ·subst hj
    rw [hi] at e1;cases e1
    rw [List.getElem?_set_self hiσ] at e2
    cases e2
    exact ⟨u,r,.inl ⟨hk,by simp⟩⟩
   ·rw [List.getElem?_set_ne (Ne.symm hj)] at e2
    obtain ⟨u',r',q⟩:=hl j y v' e1 e2 e3
    refine ⟨u',r',?_⟩
    rcases q with ⟨k,e⟩ | ⟨k,c,e,z⟩
    ·refine .inl ⟨k,?_⟩
     have:y≠x:=fun e=>hj (qR1 hN e1 (e ▸ hi))
     simp [this,e]
    ·exact .inr ⟨k,c,e,z.sameBut hs (cne y c e)⟩
  ·obtain ⟨w',z⟩:=I.cell y c e
   exact ⟨w',z.sameBut hs (cne y c e)⟩
  ·obtain ⟨e,n,ne,nf,d⟩:=I.pin p hp
   exact ⟨(hs.2 p.1 ne).trans e,n,ne,nf,d⟩
 ·have hfn:X.fn x=true:=by
   rcases hf with z | z
   ·exact z
   ·rw [z] at hk;cases hk
  obtain ⟨c,hc⟩:=I.ok.has x (.inl hk)
  obtain ⟨w',z⟩:=I.cell x c hc
  refine wpAny_storeName_cell I.ok.kind hk hc z (fun h' hc' hs=>?_)
  obtain ⟨oc,hoc,hocd⟩:=id z
  refine h { s with heap:=h' } ⟨I.ok,I.os,I.bare,⟨fun b o e n hb hx=>?_,fun b o e n hb hx=>?_,I.base.free,fun b o e hx=>?_,I.base.tups,I.base.frzs,I.base.tbls⟩,⟨m,hn.sameBut hs (Ne.symm (cne x c hc)),fun j y v' e1 e2 e3=>?_⟩,fun y c' e=>?_,I.free,I.freeC,fun p hp=>?_,tracked ⟨oc,hoc,I.freeC x c hc⟩ hs,by simpa using I.len⟩ ⟨c,hs,.inr hc⟩
  ·exact (hs.2 b (Nat.ne_of_lt (Nat.lt_of_lt_of_le (Heap.lt_size e) (I.ok.cab x c hfn hc)))).trans (I.base.keep b o e n hb hx)
  ·obtain ⟨sl,e1⟩:=I.base.slot b o e n hb hx
   exact ⟨sl,(hs.2 b (Nat.ne_of_lt (Nat.lt_of_lt_of_le (Heap.lt_size e) (I.ok.cab x c hfn hc)))).trans e1⟩
  ·obtain ⟨o',e1⟩:=I.base.there b o e hx
   exact ⟨o',(hs.2 b (Nat.ne_of_lt (Nat.lt_of_lt_of_le (Heap.lt_size e) (I.ok.cab x c hfn hc)))).trans e1⟩
  ·by_cases hj:j=i
   ·subst hj
    rw [hi] at e1;cases e1
    rw [List.getElem?_set_self hiσ] at e2
    cases e2
    exact ⟨u,r,.inr ⟨.inl hk,c,hc,hc'⟩⟩
   ·rw [List.getElem?_set_ne (Ne.symm hj)] at e2
    obtain ⟨u',r',q⟩:=hl j y v' e1 e2 e3
    refine ⟨u',r',?_⟩
    rcases q with q | ⟨k,c',e,z'⟩
    ·exact .inl q
    ·refine .inr ⟨k,c',e,z'.sameBut hs ?_⟩
     rintro rfl
     exact hj (qR1 hN e1 (I.ok.inj _ _ _ e hc ▸ hi))
  ·by_cases hcc:c'=c
   ·subst hcc;exact ⟨_,hc'⟩
   ·obtain ⟨w2,z2⟩:=I.cell y c' e
    exact ⟨w2,z2.sameBut hs hcc⟩
  ·obtain ⟨e,n,ne,nf,d⟩:=I.pin p hp
   refine ⟨(hs.2 p.1 ?_).trans e,n,ne,nf,d⟩
   intro q
   rw [q,hoc] at e
   have q':oc=p.2:=Option.some.inj e
   exact d w' (by rw [←q'];exact hocd)
theorem qIj {M:Model}{A:Around}{E:Value→Shared→Prop}{i:Nat}{x:Str}{v:V}{u:Value}{Q:Unit→Shared→Prop}(I:Inv X pins σ H s)(hN:X.N.Nodup)(hi:X.N[i]?=some x)(hx:Loc X.env.scope x)(r:RelV v u)
  (h:∀ s',Inv X pins (σ.set i (some v)) H s'→Q () s') (hf:X.fn x=true∨X.env.scope.names.lookup x=some .local:=by first | exact .inl rfl | exact .inr rfl | assumption):wpAny M A (storeName X.env x u) Q E s:=
 qNh I hN hi hx r (fun s' I' _=>h s' I') hf
theorem Inv.call' {s':Shared}{ch:List Addr}(I:Inv X pins σ H s)(ho:s'.os=s.os)(u:Un (frs X.stack) ch H H' s.heap s'.heap)(hok:HOk X.prog X.w H' s'.heap)(hg:AllBare s'.gens)
  (hch:∀ b∈ch,(b∈X.ex∨X.s₀.heap.objs.size≤b)∧b≠X.env.locals∧(∀ x c,X.env.cells.lookup x=some c→c≠b)∧∀ p∈X.pn++pins,p.1≠b):Inv X pins σ H' s':=by
 obtain ⟨h',g',d',t',o'⟩:=s'
 have e:o'=s.os:=ho
 subst e
 exact I.call (g':=g') (t':=t') (d':=d') u hok hg hch
end
abbrev XK:=Value→Option Addr→Hp→Prop
abbrev St:=List (Option V)
abbrev VK:=V→Hp→Prop
abbrev TE:=St→Hp→VK→Prop
abbrev TT:=St→Hp→(Bool→Hp→Prop)→Prop
abbrev TA:=St→Hp→(List V→Hp→Prop)→Prop
structure Ends where
 nx:St→Hp→Prop
 rt:VK
 bk:St→Hp→Prop:=fun _ _=>False
 ct:St→Hp→Prop:=fun _ _=>False
abbrev TS:=Ends→St→Hp→Prop
def EP (X:Cx)(pins:List #[8])(σ:St)(Q:VK)(u:Value)(s':Shared):Prop:=∃ v H',Inv X pins σ H' s'∧RelV v u∧Q v H'
def TP (X:Cx)(pins:List #[8])(σ:St)(Q:Bool→Hp→Prop)(b:Bool)(s':Shared):Prop:=∃ H',Inv X pins σ H' s'∧Q b H'
def AP (X:Cx)(pins:List #[8])(σ:St)(Q:List V→Hp→Prop)(us:List Value)(s':Shared):Prop:=∃ vs H',Inv X pins σ H' s'∧qBu vs us∧Q vs H'
def SP (X:Cx)(pins:List #[8])(D:Ends)(f:Flow)(s':Shared):Prop:=
 match f with
 | .next=>∃ σ' H',Inv X pins σ' H' s'∧D.nx σ' H'
 | .brk=>∃ σ' H',Inv X pins σ' H' s'∧D.bk σ' H'
 | .cont=>∃ σ' H',Inv X pins σ' H' s'∧D.ct σ' H'
 | .ret u=>∃ v σ' H',Inv X pins σ' H' s'∧RelV v u∧D.rt v H'
def PE (X:Cx)(e:Expr)(t:TE):Prop:=
 ∀ (pins:List #[8]) (s:Shared) (σ:St) (H:Hp) (Q:VK),Inv X pins σ H s→t σ H Q→wpAny #[9] X.A (eval e X.env) (EP X pins σ Q) X.xe s
def PT (X:Cx)(e:Expr)(t:TT):Prop:=
 ∀ (pins:List #[8]) (s:Shared) (σ:St) (H:Hp) (Q:Bool→Hp→Prop),Inv X pins σ H s→t σ H Q→wpAny #[9] X.A (isTrue e X.env (eval e X.env)) (TP X pins σ Q) X.xe s
def PW (X:Cx)(e:Expr)(t:TT):Prop:=
 ∀ (whole:Sem Value) (pins:List #[8]) (s:Shared) (σ:St) (H:Hp) (Q:Bool→Hp→Prop),Inv X pins σ H s→t σ H Q→wpAny #[9] X.A (isTrue e X.env whole) (TP X pins σ Q) X.xe s
theorem PW.pt {X:Cx}{e:Expr}{t:TT}(h:PW X e t):PT X e t:=h _
def PA (X:Cx)(es:List Expr)(t:TA):Prop:=
 ∀ (pos:Pos) (pins:List #[8]) (s:Shared) (σ:St) (H:Hp) (Q:List V→Hp→Prop),Inv X pins σ H s→t σ H Q→wpAny #[9] X.A (spliced #[43]) (AP X pins σ Q) X.xe s
def PS (X:Cx)(st:Stmt)(t:TS):Prop:=
 ∀ (pins:List #[8]) (s:Shared) (σ:St) (H:Hp) (D:Ends),Inv X pins σ H s→t D σ H→wpAny #[9] X.A (exec st X.env) (SP X pins D) X.xe s
def PSs (X:Cx)(st:List Stmt)(t:TS):Prop:=
 ∀ (pins:List #[8]) (s:Shared) (σ:St) (H:Hp) (D:Ends),Inv X pins σ H s→t D σ H→wpAny #[9] X.A (execs st X.env) (SP X pins D) X.xe s
theorem thn {α:Type}{t:Sem α}{Q Q':α→Shared→Prop}{M:Model}{A:Around}{E:Value→Shared→Prop}{s:Shared}(h:wpAny M A t Q E s)(hQ:∀ a s,Q a s→Q' a s):wpAny M A t Q' E s:=wpAny_mono h hQ fun _ _ x=>x
open PySem PySem.Spec PyProof.Rows
section
variable {X:Cx}
def tVar (i:Nat):TE:=fun σ H Q=>∃ v,σ[i]?=some (some v)∧Q v H
def tC (v:V):TE:=fun _ H Q=>Q v H
theorem qCb {i:Nat}{x:Str}{pos:Pos}(hN:X.N[i]?=some x)(hv:Vis X.env.scope x)(hd:#[17]=false:=by decide)(hcd:#[33]=false:=by decide):PE X (.Name x pos) (tVar i):=by
 intro pins s σ H Q I h
 obtain ⟨v,e,h⟩:=h
 obtain ⟨m,hn,hl⟩:=I.loc
 obtain ⟨u,r,l⟩:=hl i x v hN e hv
 have fin:EP X pins σ Q u s:=⟨v,H,I,r,h⟩
 rcases l with ⟨hk,hm⟩ | ⟨hk,c,hc,hcell⟩
 ·exact wpAny_Name (wpAny_loadName_local I.ok.kind hk hn hm fin) hd
 ·rcases hk with hk | hk
  ·exact wpAny_Name (wpAny_loadName_cell I.ok.kind hk hc hcell fin) hd
  ·exact wpAny_Name (wpAny_loadName_free I.ok.kind hk hc hcell fin hcd) hd
theorem pe_int {i j pos}:PE X (.Constant (.int i) j pos) (tC (.int i)):=fun _ _ _ H _ I h=>wpAny_Constant_int ⟨.int i,H,I.tok _,⟨_,rfl⟩,h⟩
theorem qc7 {b j pos}:PE X (.Constant (.bool b) j pos) (tC (.bl b)):=fun _ _ _ H _ I h=>Constant_bool ⟨.bl b,H,I,rfl,h⟩
theorem pe_non {j pos}:PE X (.Constant .none j pos) (tC .non):=fun _ _ _ H _ I h=>Constant_none ⟨.non,H,I,rfl,h⟩
theorem qbe {x j pos}:PE X (.Constant (.str x) j pos) (tC (.str x)):=fun _ _ _ H _ I h=>Calls.Constant_str ⟨.str x,H,I.tok _,⟨_,rfl⟩,h⟩
def Gl (X:Cx)(x:Str):Prop:=X.env.kindOf x=some .globalImplicit
theorem qF0 {E:Value→Shared→Prop}{pins:List #[8]}{s:Shared}{σ:St}{H:Hp}{x:Str}{u:Value}{pos:Pos}{Q:Value→Shared→Prop}(I:Inv X pins σ H s)(hg:Gl X x)(hm:X.mg x=some u)(h:Q u s)
  (hd:#[17]=false:=by decide):wpAny #[9] X.A (eval (.Name x pos) X.env) Q E s:=
 Calls.Name_function_global I.ok.kind hg (Calls.loadGlobal_global (by rw [I.ok.glob];exact I.mod.glob.keeps I.bk) hm h) hd
theorem qFg {E:Value→Shared→Prop}{pins:List #[8]}{s:Shared}{σ:St}{H:Hp}{x:Str}{u:Value}{pos:Pos}{Q:Value→Shared→Prop}(I:Inv X pins σ H s)(hg:Gl X x)(hm:X.mg x=none)(hv:bootBuiltins x=some u)(h:Q u s)
  (hn:x≠"__name__":=by decide) (hd:#[17]=false:=by decide):wpAny #[9] X.A (eval (.Name x pos) X.env) Q E s:=by
 obtain ⟨mb,h1,h2⟩:=I.mod.blt
 exact Calls.Name_function_global I.ok.kind hg (Calls.loadGlobal_builtin (by rw [I.ok.glob];exact I.mod.glob.keeps I.bk) hm (by rw [I.ok.blt];exact h1.keeps I.bk) ((h2 x hn).trans hv) h) hd
theorem qQm {x:Str}{v:V}{u:Value}{pos:Pos}(hg:Gl X x)(hm:X.mg x=some u)(r:RelV v u)(hd:#[17]=false:=by decide):PE X (.Name x pos) (tC v):=
 fun _ _ _ H _ I h=>qF0 I hg hm ⟨v,H,I,r,h⟩ hd
theorem qVz {x:Str}{v:V}{u:Value}{pos:Pos}(hg:Gl X x)(hm:X.mg x=none)(hv:bootBuiltins x=some u)(r:RelV v u)(hn:x≠"__name__":=by decide)(hd:#[17]=false:=by decide):PE X (.Name x pos) (tC v):=
 fun _ _ _ H _ I h=>qFg I hg hm hv ⟨v,H,I,r,h⟩ hn hd
variable {a b:Expr}{ta tb:TE}{pos:Pos}
def PC (X:Cx)(op:CmpOp)(a b:Expr)(t:TE):Prop:=
 ∀ (pins:List #[8]) (s:Shared) (σ:St) (H:Hp) (Q:VK),Inv X pins σ H s→t σ H Q→
  wpAny #[9] X.A (eval a X.env) (fun v s₁=>wpAny #[9] X.A (eval b X.env) (fun u s₂=>wpAny #[9] X.A (compareOp op v u) (EP X pins σ Q) X.xe s₂) X.xe s₁) X.xe s
theorem qZv (b:Expr){op:CmpOp}(h:op≠.In)(h2:op≠.NotIn):behindInMarks op b=false:=by
 have e1:(op == CmpOp.In)=false:=by cases op <;> first | rfl | exact absurd rfl h
 have e2:(op == CmpOp.NotIn)=false:=by cases op <;> first | rfl | exact absurd rfl h2
 cases b <;> simp [behindInMarks,e1,e2]
def tB (t:TE):TT:=fun σ H Q=>t σ H fun x H1=>∃ c,x=.bl c∧Q c H1
theorem qbd {op:CmpOp}{t:TE}(h:PC X op a b t)(h1:behindInMarks op b=false:=by first | exact qZv _ #[4] #[4] | rfl):PT X (.Compare a [op] [b] pos) (tB t):=by
 intro pins s σ H Q I hw
 refine wpAny_isTrue_Compare1 (thn (h pins s σ H _ I hw) fun v s1 h1=>thn h1 fun u s2 h2=>thn h2 fun c s3 ⟨x,H1,I1,r1,q1⟩=>?_) h1
 obtain ⟨d,rfl,q⟩:=q1
 cases r1
 exact wpAny_truthy_bool ⟨H1,I1,q⟩
variable {tA tB':TT}{qE4:List Expr}
def tAnd (t u:TT):TT:=fun σ H Q=>t σ H fun c H1=>if c=true then u σ H1 Q else Q false H1
def tOr (t u:TT):TT:=fun σ H Q=>t σ H fun c H1=>if c=true then Q true H1 else u σ H1 Q
def tNot (t:TT):TT:=fun σ H Q=>t σ H fun c H1=>Q (!c) H1
theorem qcq (ha:PT X a tA):PW X (.BoolOp .And [a] pos) tA:=by
 intro wh pins s σ H Q I h
 refine isTrue_and (thn (ha pins s σ H Q I h) fun c s1 e=>?_)
 cases c with
 | true=>exact isTrue_and_nil e
 | false=>exact e
theorem pw_or1 (ha:PT X a tA):PW X (.BoolOp .Or [a] pos) tA:=by
 intro wh pins s σ H Q I h
 refine isTrue_or (thn (ha pins s σ H Q I h) fun c s1 e=>?_)
 cases c with
 | false=>exact isTrue_or_nil e
 | true=>exact e
theorem pw_and (ha:PT X a tA)(hb:PW X (.BoolOp .And (b::qE4) pos) tB'):PW X (.BoolOp .And (a::b::qE4) pos) (tAnd tA tB'):=by
 intro wh pins s σ H Q I h
 refine isTrue_and (thn (ha pins s σ H _ I h) fun c s1 ⟨H1,I1,q1⟩=>?_)
 cases c with
 | true=>exact hb wh pins s1 σ H1 Q I1 q1
 | false=>exact ⟨H1,I1,q1⟩
theorem pw_or (ha:PT X a tA)(hb:PW X (.BoolOp .Or (b::qE4) pos) tB'):PW X (.BoolOp .Or (a::b::qE4) pos) (tOr tA tB'):=by
 intro wh pins s σ H Q I h
 refine isTrue_or (thn (ha pins s σ H _ I h) fun c s1 ⟨H1,I1,q1⟩=>?_)
 cases c with
 | true=>exact ⟨H1,I1,q1⟩
 | false=>exact hb wh pins s1 σ H1 Q I1 q1
theorem pt_not (ha:PT X a tA):PT X (.UnaryOp .Not a pos) (tNot tA):=by
 intro pins s σ H Q I h
 exact isTrue_not (ha pins s σ H (fun c H1=>Q (!c) H1) I h)
def tAndV (ta tb:TE):TE:=fun σ H Q=>ta σ H fun x H1=>∃ c,x=.bl c∧if c=true then tb σ H1 Q else Q (.bl false) H1
def tOrV (ta tb:TE):TE:=fun σ H Q=>ta σ H fun x H1=>∃ c,x=.bl c∧if c=true then Q (.bl true) H1 else tb σ H1 Q
theorem pe_one {op}{t:TE}(h:PE X a t):PE X (.BoolOp op [a] pos) t:=fun pins s σ H Q I hw=>BoolOp_one (h pins s σ H Q I hw)
theorem pe_and (ha:PE X a ta)(hb:PE X (.BoolOp .And (b::qE4) pos) tb):PE X (.BoolOp .And (a::b::qE4) pos) (tAndV ta tb):=by
 intro pins s σ H Q I h
 refine BoolOp_and (thn (ha pins s σ H _ I h) fun v s1 ⟨x,H1,I1,r1,q1⟩=>?_)
 obtain ⟨c,rfl,q1⟩:=q1
 cases r1
 refine wpAny_truthy_bool ?_
 cases c with
 | true=>exact hb pins s1 σ H1 Q I1 q1
 | false=>exact ⟨.bl false,H1,I1,rfl,q1⟩
theorem pe_or (ha:PE X a ta)(hb:PE X (.BoolOp .Or (b::qE4) pos) tb):PE X (.BoolOp .Or (a::b::qE4) pos) (tOrV ta tb):=by
 intro pins s σ H Q I h
 refine BoolOp_or (thn (ha pins s σ H _ I h) fun v s1 ⟨x,H1,I1,r1,q1⟩=>?_)
 obtain ⟨c,rfl,q1⟩:=q1
 cases r1
 refine wpAny_truthy_bool ?_
 cases c with
 | false=>exact hb pins s1 σ H1 Q I1 q1
 | true=>exact ⟨.bl true,H1,I1,rfl,q1⟩
def tIf (t:TT)(ta tb:TE):TE:=fun σ H Q=>t σ H fun c H1=>if c=true then ta σ H1 Q else tb σ H1 Q
theorem qMl {c:Expr}(hc:PT X c tA)(ha:PE X a ta)(hb:PE X b tb):PE X (.IfExp c a b pos) (tIf tA ta tb):=by
 intro pins s σ H Q I h
 refine wpAny_IfExp (thn (hc pins s σ H _ I h) fun d s1 ⟨H1,I1,q1⟩=>?_)
 cases d with
 | true=>exact ha pins s1 σ H1 Q I1 q1
 | false=>exact hb pins s1 σ H1 Q I1 q1
end
open PySem PySem.Spec PyProof.Rows
def SqL (K:PySem.W.Frag)(H:Hp)(a:Addr)(xs:List V):Prop:=
 Rd H a (.lst xs)∨
  ∃ (o:Obj) (its:Array Value) (n:Nat),K.lookup a=some o∧o.cls=.type "list"∧o.dict=none∧o.data=.seq its n∧its.size≤sizeLine∧qBu xs its.toList
def SqT (K:PySem.W.Frag)(H:Hp)(a:Addr)(xs:List V):Prop:=
 Rd H a (.tup xs)∨
  ∃ (o:Obj) (its:Array Value) (n:Nat),K.lookup a=some o∧o.cls=.type "tuple"∧o.data=.seq its n∧its.size≤sizeLine∧qBu xs its.toList
def absV:Value→Option V
 | .none=>some .non
 | .bool b=>some (.bl b)
 | .int i _=>some (.int i)
 | .str x _=>some (.str x)
 | .bytes b _=>some (.byt b)
 | .float b _=>some (.flt b)
 | .ref a=>some (.ref a)
 | .type n=>some (.ty n)
 | _=>none
theorem RelV.abs {x:V}{u:Value}(r:RelV x u):absV u=some x:=by
 cases x with
 | non=>cases r;rfl
 | bl _=>cases r;rfl
 | int _=>obtain ⟨t,rfl⟩:=r;rfl
 | str _=>obtain ⟨t,rfl⟩:=r;rfl
 | byt _=>obtain ⟨t,rfl⟩:=r;rfl
 | flt _=>obtain ⟨t,rfl⟩:=r;rfl
 | ref _=>cases r;rfl
 | ty _=>cases r;rfl
theorem RelV.inj {x y:V}{u:Value}(r:RelV x u)(q:RelV y u):x=y:=Option.some.inj (r.abs.symm.trans q.abs)
theorem qBu.inj:∀ {xs ys:List V} {us:List Value},qBu xs us→qBu ys us→xs=ys
 | _,_,_,.nil,.nil=>rfl
 | _,_,_,.cons r t,.cons r' t'=>by rw [r.inj r',qBu.inj t t']
section
variable {X:Cx}{pins:List (Addr×Obj)}{σ:St}{H:Hp}{s:Shared}{a:Addr}{xs ys:List V}
theorem SqL.of {K:PySem.W.Frag}(h:H a=some (.lst xs)):SqL K H a xs:=.inl (.inl h)
theorem SqT.of {K:PySem.W.Frag}(h:H a=some (.tup xs)):SqT K H a xs:=.inl (.inl h)
theorem Inv.list (I:Inv X pins σ H s)(h:SqL X.K H a xs):∃ its:List Value,qBu xs its∧PlainL s.heap a its.toArray∧xs.length≤sizeLine:=by
 rcases h with h | ⟨o,its,n,hk,hc,hd,hs,hz,r⟩
 ·obtain ⟨z,its,n,r,e⟩:=h.ok I.hok
  exact ⟨its,r,⟨_,n,e,rfl,rfl,rfl⟩,z⟩
 ·refine ⟨its.toList,r,⟨o,n,I.kIn a o hk,hc,hd,by simpa using hs⟩,?_⟩
  have e:=r.length
  simp only [Array.length_toList] at e
  omega
theorem Inv.tuple (I:Inv X pins σ H s)(h:SqT X.K H a xs):∃ its:List Value,qBu xs its∧IsTup s.heap a its.toArray∧xs.length≤sizeLine:=by
 rcases h with h | ⟨o,its,n,hk,hc,hs,hz,r⟩
 ·obtain ⟨z,its,r,p⟩:=h.ok I.hok
  exact ⟨its,r,p,z⟩
 ·refine ⟨its.toList,r,⟨o,I.kIn a o hk,hc,n,by simpa using hs⟩,?_⟩
  have e:=r.length
  simp only [Array.length_toList] at e
  omega
theorem Inv.list_inj (I:Inv X pins σ H s)(h:SqL X.K H a xs)(h':SqL X.K H a ys):xs=ys:=by
 obtain ⟨its,r,⟨o,n,e,_,_,d⟩,_⟩:=I.list h
 obtain ⟨its',r',⟨o',n',e',_,_,d'⟩,_⟩:=I.list h'
 rw [e] at e';cases e'
 rw [d] at d'
 injection d' with d1 _
 have:its=its':=by simpa using congrArg Array.toList d1
 subst this
 exact r.inj r'
theorem Inv.tuple_inj (I:Inv X pins σ H s)(h:SqT X.K H a xs)(h':SqT X.K H a ys):xs=ys:=by
 obtain ⟨its,r,⟨o,e,_,n,d⟩,_⟩:=I.tuple h
 obtain ⟨its',r',⟨o',e',_,n',d'⟩,_⟩:=I.tuple h'
 rw [e] at e';cases e'
 rw [d] at d'
 injection d' with d1 _
 have:its=its':=by simpa using congrArg Array.toList d1
 subst this
 exact r.inj r'
end
abbrev Cx.wish (X:Cx)(E:Value→Shared→Prop):Cx:={ X with xe:=E }
abbrev Cx.nox (X:Cx):Cx:=X.wish fun _ _=>False
theorem Cx.Ok.wish {X:Cx}(ok:X.Ok)(E:Value→Shared→Prop):(X.wish E).Ok:=
 ⟨ok.mod,ok.kind,ok.glob,ok.blt,ok.above,ok.inj,ok.has,ok.cab,ok.hd,ok.frames,ok.stk,ok.exf,ok.bs,ok.bsz,ok.noex,ok.exfs,ok.funs,ok.frf,ok.tab⟩
theorem Cx.Ok.unwish {X:Cx}{E:Value→Shared→Prop}(ok:(X.wish E).Ok):X.Ok:=
 ⟨ok.mod,ok.kind,ok.glob,ok.blt,ok.above,ok.inj,ok.has,ok.cab,ok.hd,ok.frames,ok.stk,ok.exf,ok.bs,ok.bsz,ok.noex,ok.exfs,ok.funs,ok.frf,ok.tab⟩
section
variable {X:Cx}{pins:List (Addr×Obj)}{σ:St}{H:Hp}{s:Shared}{E:Value→Shared→Prop}
theorem Inv.wish (I:Inv X pins σ H s)(E:Value→Shared→Prop):Inv (X.wish E) pins σ H s:=⟨I.ok.wish E,I.os,I.bare,I.base,I.loc,I.cell,I.free,I.freeC,I.pin,I.hok,I.len⟩
theorem Inv.unwish (I:Inv (X.wish E) pins σ H s):Inv X pins σ H s:=⟨I.ok.unwish,I.os,I.bare,I.base,I.loc,I.cell,I.free,I.freeC,I.pin,I.hok,I.len⟩
theorem SP.unwish {D:Ends}{f:Flow}{s':Shared}(h:SP (X.wish E) pins D f s'):SP X pins D f s':=by
 cases f with
 | next=>obtain ⟨σ',H',I,q⟩:=h;exact ⟨σ',H',I.unwish,q⟩
 | brk=>obtain ⟨σ',H',I,q⟩:=h;exact ⟨σ',H',I.unwish,q⟩
 | cont=>obtain ⟨σ',H',I,q⟩:=h;exact ⟨σ',H',I.unwish,q⟩
 | ret u=>obtain ⟨v,σ',H',I,r,q⟩:=h;exact ⟨v,σ',H',I.unwish,r,q⟩
theorem PE.nox {e:Expr}{t:TE}(h:PE X.nox e t):PE X e t:=fun pins s σ H Q I hw=>
 wpAny_mono (h pins s σ H Q (I.wish _) hw) (fun _ _ ⟨v,H',I',r,q⟩=>⟨v,H',I'.unwish,r,q⟩) fun _ _ z=>False.elim z
theorem PT.nox {e:Expr}{t:TT}(h:PT X.nox e t):PT X e t:=fun pins s σ H Q I hw=>
 wpAny_mono (h pins s σ H Q (I.wish _) hw) (fun _ _ ⟨H',I',q⟩=>⟨H',I'.unwish,q⟩) fun _ _ z=>False.elim z
theorem PSs.nox {st:List Stmt}{t:TS}(h:PSs X.nox st t):PSs X st t:=fun pins s σ H D I hw=>
 wpAny_mono (h pins s σ H D (I.wish _) hw) (fun _ _ q=>q.unwish) fun _ _ z=>False.elim z
end
section
variable {X:Cx}{st:Stmt}{qE4:List Stmt}{t u:TS}{e:Expr}{te:TE}{pos:Pos}
def tNext:TS:=fun D σ H=>D.nx σ H
def tSeq (t u:TS):TS:=fun D σ H=>t { D with nx:=u D } σ H
theorem qcx:PSs X [] tNext:=fun _ _ σ H _ I h=>wpAny_execs_nil ⟨σ,H,I,h⟩
theorem qZg (h1:PS X st t)(h2:PSs X qE4 u):PSs X (st::qE4) (tSeq t u):=by
 intro pins s σ H D I h
 refine wpAny_execs_cons (thn (h1 pins s σ H { D with nx:=u D } I h) fun f s1 q=>?_)
 cases f with
 | next=>
  obtain ⟨σ',H',I',q⟩:=q
  exact h2 pins s1 σ' H' D I' q
 | ret v=>exact q
 | brk=>exact q
 | cont=>exact q
theorem qVq (h1:PS X st t):PSs X [st] t:=by
 intro pins s σ H D I h
 refine wpAny_execs_cons (thn (h1 pins s σ H D I h) fun f s1 q=>?_)
 cases f with
 | next=>exact wpAny_execs_nil q
 | ret v=>exact q
 | brk=>exact q
 | cont=>exact q
theorem Inv.quiet {pins:List #[8]}{σ:St}{H:Hp}{s:Shared}(I:Inv X pins σ H s):interactive X.env=false:=by simp [interactive,I.ok.kind]
def tDrop (te:TE):TS:=fun D σ H=>te σ H fun _ H1=>D.nx σ H1
theorem qVr (he:PE X e te)(hs:swapsWith e none pos.line X.env=pure false:=by rfl):PS X (.Expr e pos) (tDrop te):=by
 intro pins s σ H D I h
 exact wpAny_Expr_any (thn (he pins s σ H _ I h) fun v s1 ⟨x,H1,I1,r1,q1⟩=>⟨σ,H1,I1,q1⟩) I.quiet hs
def tRet (te:TE):TS:=fun D σ H=>te σ H D.rt
theorem qOb (he:PE X e te):PS X (.Return (some e) pos) (tRet te):=by
 intro pins s σ H D I h
 exact wpAny_Return_some (thn (he pins s σ H _ I h) fun v s1 ⟨x,H1,I1,r1,q1⟩=>⟨x,σ,H1,I1,r1,q1⟩)
def tIfS (c:TT)(t u:TS):TS:=fun D σ H=>c σ H fun b H1=>if b=true then t D σ H1 else u D σ H1
theorem ps_if {c:Expr}{a b:List Stmt}{tc:TT}(hc:PT X c tc)(ha:PSs X a t)(hb:PSs X b u):PS X (.If c a b pos) (tIfS tc t u):=by
 intro pins s σ H D I h
 refine wpAny_If (thn (hc pins s σ H _ I h) fun d s1 ⟨H1,I1,q1⟩=>?_)
 cases d with
 | true=>exact ha pins s1 σ H1 D I1 q1
 | false=>exact hb pins s1 σ H1 D I1 q1
def tNever:TS:=fun _ _ _=>False
theorem qZj:PS X st tNever:=fun _ _ _ _ _ _ h=>h.elim
end
abbrev TG:=V→St→Hp→(St→Hp→Prop)→Prop
abbrev TGs:=List V→St→Hp→(St→Hp→Prop)→Prop
def PG (X:Cx)(target:Expr)(t:TG):Prop:=
 ∀ (pins:List #[8]) (s:Shared) (σ:St) (H:Hp) (v:V) (u:Value) (Q:St→Hp→Prop),Inv X pins σ H s→RelV v u→t v σ H Q→
  wpAny #[9] X.A (assign target X.env u) (fun _ s'=>∃ σ' H',Inv X pins σ' H' s'∧Q σ' H') X.xe s
def PGs (X:Cx)(ts:List Expr)(t:TGs):Prop:=
 ∀ (pins:List #[8]) (s:Shared) (σ:St) (H:Hp) (vs:List V) (us:List Value) (Q:St→Hp→Prop),Inv X pins σ H s→qBu vs us→t vs σ H Q→
  wpAny #[9] X.A (assignInOrder ((assignEach ts X.env).map (·.2)) us) (fun _ s'=>∃ σ' H',Inv X pins σ' H' s'∧Q σ' H') X.xe s
section
variable {X:Cx}{pos:Pos}
def gName (i:Nat):TG:=fun v σ H Q=>Q (σ.set i (some v)) H
theorem qc4 {i:Nat}{x:Str}(hN:X.N.Nodup)(hi:X.N[i]?=some x)(hx:Loc X.env.scope x)(hf:X.fn x=true∨X.env.scope.names.lookup x=some .local:=by first | exact .inl rfl | exact .inr rfl | assumption):PG X (.Name x pos) (gName i):=by
 intro pins s σ H v u Q I r h
 exact wpAny_assign_Name (qIj I hN hi hx r (fun s' I'=>⟨_,H,I',h⟩) hf)
def gNil:TGs:=fun vs σ H Q=>vs=[]∧Q σ H
def gCons (t:TG)(u:TGs):TGs:=fun vs σ H Q=>∃ v r,vs=v::r∧t v σ H fun σ' H'=>u r σ' H' Q
theorem qc3:PGs X [] gNil:=by
 intro pins s σ H vs us Q I r h
 obtain ⟨e,h⟩:=h
 subst e
 cases r
 exact assignInOrder_nil ⟨σ,H,I,h⟩
theorem qZl {e:Expr}{es:List Expr}{t:TG}{u:TGs}(h1:PG X e t)(h2:PGs X es u)
  (hs:(assignEach (e::es) X.env).map (·.2)=assign e X.env::(assignEach es X.env).map (·.2):=by rfl):PGs X (e::es) (gCons t u):=by
 intro pins s σ H vs us Q I r h
 obtain ⟨v,vr,e1,h⟩:=h
 subst e1
 cases r with
 | cons r rr=>
  rw [hs]
  refine assignInOrder_cons (thn (h1 pins s σ H _ _ _ I r h) fun _ s1 ⟨σ1,H1,I1,q1⟩=>?_)
  exact h2 pins s1 σ1 H1 _ _ Q I1 rr q1
def gTup (K:PySem.W.Frag)(n:Nat)(t:TGs):TG:=fun v σ H Q=>∃ a xs,v=.ref a∧SqT K H a xs∧xs.length=n∧t xs σ H Q
theorem pg_tup {es:List Expr}{k:Nat}{t:TGs}{n:Nat}(hc:X.calm=true)(h:PGs X es t)
  (hn:(assignEach es X.env).length=n:=by rfl) (hst:(assignEach es X.env).findIdx? (·.1)=none:=by rfl):PG X (.Tuple es k pos) (gTup X.K n t):=by
 intro pins s σ H v u Q I r hw
 obtain ⟨a,xs,e1,hq,hl,hw⟩:=hw
 subst e1
 cases r
 obtain ⟨its,rv,ht,hz⟩:=I.tuple hq
 refine assign_Tuple_tuple (I.ok.hd hc) ht (by simp [hn,←hl,rv.length]) hst fun h' hx=>?_
 have I1:Inv X pins σ H { s with heap:=h' }:=I.kept (t':=s.toks) fun b o e=>hx b o (Nat.ne_of_lt (Heap.lt_size e)) e
 exact h pins _ σ H xs _ Q I1 (by simpa using rv) hw
def tAsg (te:TE)(g:TG):TS:=fun D σ H=>te σ H fun x H1=>g x σ H1 D.nx
theorem qK2 {i:Nat}{x:Str}{e:Expr}{te:TE}{pos':Pos}(hN:X.N.Nodup)(hi:X.N[i]?=some x)(hx:Loc X.env.scope x)(he:PE X e te)(hs:swapsWith e (some (.Name x pos')) pos.line X.env=pure false:=by rfl)(hf:X.fn x=true∨X.env.scope.names.lookup x=some .local:=by first | exact .inl rfl | exact .inr rfl | assumption) :
  PS X (.Assign [.Name x pos'] e pos) (tAsg te (gName i)):=by
 intro pins s σ H D I h
 refine wpAny_Assign_Name (thn (he pins s σ H _ I h) fun v s1 ⟨y,H1,I1,r1,q1⟩=>?_) hs
 exact qIj I1 hN hi hx r1 (fun s2 I2=>⟨_,H1,I2,q1⟩) hf
end
section
variable {X:Cx}{pos:Pos}
def tWhile (c:TT)(tb:TS):TS:=fun D σ H=>∃ W:Nat→St→Hp→Prop,(∃ m,W m σ H)∧∀ m σ H,W m σ H→
 c σ H fun b H1=>if b=true then ∃ N:St→Hp→Prop,(∀ σ' H',N σ' H'→∃ m',m' < m∧W m' σ' H')∧tb { D with nx:=N,ct:=N,bk:=D.nx } σ H1 else D.nx σ H1
theorem qZh {c:Expr}{body:List Stmt}{tc:TT}{tb:TS}(hp:PassesOwn #[9] X.A X.env X.xe)(hc:PT X c tc)(hb:PSs X body tb):PS X (.While c body [] pos) (tWhile tc tb):=by
 intro pins s σ H D I h
 obtain ⟨W,⟨m0,w0⟩,turn⟩:=h
 refine wpAny_While (codeAny_whileLoop (fun n s'=>∃ σ' H',Inv X pins σ' H' s'∧W n σ' H') ?_ m0 ⟨σ,H,I,w0⟩)
 rintro n s1 ⟨σ1,H1,I1,w1⟩
 refine wpAny_passesOwn hp (thn (hc pins s1 σ1 H1 _ I1 (turn n σ1 H1 w1)) fun b s2 ⟨H2,I2,q2⟩=>?_)
 cases b with
 | true=>
  obtain ⟨N,hN,q2⟩:=q2
  rw [if_pos rfl]
  refine wpAny_passesOwn hp (thn (hb pins s2 σ1 H2 _ I2 q2) fun f s3 q3=>?_)
  cases f with
  | next=>
   obtain ⟨σ3,H3,I3,n3⟩:=q3
   obtain ⟨m',hm,w3⟩:=hN σ3 H3 n3
   exact ⟨m',hm,σ3,H3,I3,w3⟩
  | cont=>
   obtain ⟨σ3,H3,I3,n3⟩:=q3
   obtain ⟨m',hm,w3⟩:=hN σ3 H3 n3
   exact ⟨m',hm,σ3,H3,I3,w3⟩
  | brk=>exact q3
  | ret v=>exact q3
 | false=>
  rw [if_neg Bool.false_ne_true]
  exact wpAny_execs_nil ⟨σ1,H2,I2,q2⟩
end
structure It where
 go:Nat→Hp→Prop
 yld:Nat→Hp→V→Hp→Prop
 stop:Nat→Hp→Prop
def qSy (X:Cx)(pins:List #[8])(H:Hp)(b:Addr):Prop:=
 H b=none∧b≠X.env.locals∧b∉X.fs∧(b∈X.ex∨X.s₀.heap.objs.size≤b)∧(∀ x c,X.env.cells.lookup x=some c→c≠b)∧∀ p∈X.pn++pins,p.1≠b
theorem Inv.fpOk {X:Cx}{pins:List #[8]}{σ:St}{H H':Hp}{s:Shared}{b:Addr}(I:Inv X pins σ H s)(hb:s.heap.objs.size≤b)(hn:H' b=none):qSy X pins H' b:=by
 refine ⟨hn,Nat.ne_of_gt (Nat.lt_of_lt_of_le I.lt hb),I.nofs hb,.inr (Nat.le_trans I.sz hb),fun x c e z=>?_,fun p hp z=>?_⟩
 ·obtain ⟨v,q⟩:=I.cell x c e
  exact absurd (Nat.lt_of_lt_of_le q.lt (by rw [z];exact hb)) (Nat.lt_irrefl _)
 ·exact absurd (Nat.lt_of_lt_of_le (Heap.lt_size (I.pin p hp).1) (by rw [z];exact hb)) (Nat.lt_irrefl _)
structure Turn (P:Program) (w:World) (K:PySem.W.Frag) (tg:Expr) (J:It) (fp:List Addr) (it:Addr) (tn:Nat→Heap→Prop):Prop where
 mem:it∈fp
 obj:∀ i h,tn i h→∀ b∈fp,∃ o,h.get? b=some o∧∀ v,o.data≠.cell v
 keep:∀ i h h',tn i h→(∀ b∈fp,∀ o,h.get? b=some o→h'.get? b=some o)→tn i h'
 item:∀ (X:Cx),X.prog=P→X.w=w→X.K=K→X.calm=true→∀ (i:Nat) (pins:List #[8]) (s:Shared) (σ:St) (H:Hp) (E:Value→Shared→Prop),Inv X pins σ H s→(∀ b∈fp,qSy X pins H b)→tn i s.heap→J.go i H→
  wpAny (model P w) X.A (pyNext (.ref it)) (fun r s1=>∃ u,r=some u∧
   wpAny (model P w) X.A (letOwnedTupleGo tg (.ref it) u) (fun _ s2=>∃ x H',Inv X pins σ H' s2∧RelV x u∧J.yld i H x H'∧tn (i + 1) s2.heap∧∀ b∈fp,H' b=none) E s1) E s
 done:∀ (X:Cx),X.prog=P→X.w=w→X.K=K→X.calm=true→∀ (i:Nat) (pins:List #[8]) (s:Shared) (σ:St) (H:Hp) (E:Value→Shared→Prop),Inv X pins σ H s→(∀ b∈fp,qSy X pins H b)→tn i s.heap→J.stop i H→
  wpAny (model P w) X.A (pyNext (.ref it)) (fun r s1=>r=none∧Inv X pins σ H s1) E s
 self:∀ (A:Around) (i:Nat) (s:Shared) (Q:Value→Shared→Prop) (E:Value→Shared→Prop),tn i s.heap→Q (.ref it) s→wpAny (model P w) A (pyIter (.ref it)) Q E s
abbrev TI:=St→Hp→(It→Hp→Prop)→Prop
def PIE (X:Cx)(pins:List #[8])(σ:St)(tg:Expr)(R:It→Hp→Prop)(itv:Value)(s2:Shared):Prop:=
 ∃ (it:Addr) (fp:List Addr) (tn:Nat→Heap→Prop) (J:It) (H':Hp),itv=.ref it∧Inv X pins σ H' s2∧Turn X.prog X.w X.K tg J fp it tn∧tn 0 s2.heap∧(∀ b∈fp,qSy X pins H' b)∧R J H'
def PI (X:Cx)(tg iter:Expr)(wi:TI):Prop:=
 ∀ (pins:List #[8]) (s:Shared) (σ:St) (H:Hp) (R:It→Hp→Prop),Inv X pins σ H s→wi σ H R→
  wpAny #[9] X.A (eval iter X.env) (fun v s1=>wpAny #[9] X.A (pyIter v) (PIE X pins σ tg R) X.xe s1) X.xe s
theorem qae {M:Model}{A:Around}{E:Value→Shared→Prop}{s:Shared}{tg:Expr}{it:Addr}{u:Value}{o:Obj}{n:String}{vs:Array Value}{Q:Unit→Shared→Prop}(ho:s.heap.get? it=some o)(hc:o.cls=.type n)(hd:o.data=.fields vs)
  (hn:["enumerate","zip","dict_itemiterator","dict_reverseitemiterator","odict_iterator","itertools.zip_longest","itertools.pairwise"].contains n=false) (hQ:Q () s):wpAny M A (letOwnedTupleGo tg (.ref it) u) Q E s:=by
 unfold letOwnedTupleGo
 cases tg <;> first
  | exact wpAny_pure hQ
  | (cases u <;> first
    | exact wpAny_pure hQ
    | (refine wpAny_bind (wpAny_load ho ?_);rw [hc,hd];show wpAny M A (if (["enumerate","zip","dict_itemiterator","dict_reverseitemiterator","odict_iterator","itertools.zip_longest","itertools.pairwise"].contains n && vs[0]? == some (rawInt _))=true then _ else _) Q E s;rw [if_neg (by intro h;rw [hn,Bool.false_and] at h;cases h)];exact wpAny_pure hQ))
def Itl (K:PySem.W.Frag)(a:Addr):It:=
 ⟨fun i H=>∃ xs x,SqL K H a xs∧xs[i]?=some x,fun i H x H'=>H'=H∧∀ xs,SqL K H a xs→xs[i]?=some x,fun i H=>∃ xs,SqL K H a xs∧xs.length≤i⟩
def Itt (K:PySem.W.Frag)(a:Addr):It:=
 ⟨fun i H=>∃ xs x,SqT K H a xs∧xs[i]?=some x,fun i H x H'=>H'=H∧∀ xs,SqT K H a xs→xs[i]?=some x,fun i H=>∃ xs,SqT K H a xs∧xs.length≤i⟩
def Itr (lo:Int)(n:Nat):It:=⟨fun i _=>i < n,fun i H x H'=>H'=H∧x=.int (lo + i),fun i _=>n≤i⟩
theorem qUk {P:Program}{w:World}{K:PySem.W.Frag}{tg:Expr}(a it:Addr):Turn P w K tg (Itl K a) [it] it (fun i h=>h.IsListIter it a i) where
 mem:=by simp
 obj:=fun i h st b hb=>by
  have e:b=it:=by simpa using hb
  subst e
  obtain ⟨o,e,c,d⟩:=st
  exact ⟨o,e,fun v z=>by rw [d] at z;cases z⟩
 keep:=fun i h h' st k=>st.at fun o e=>k it #[6] o e
 item:=by
  intro X hP hw hK hc i pins s σ H E I hf st hg
  subst hP hw hK
  obtain ⟨xs,x,hq,hx⟩:=hg
  obtain ⟨its,rv,p,hz⟩:=I.list hq
  obtain ⟨u,hu,ru⟩:=rv.get hx
  obtain ⟨f0,f1,f2,f3,f4,f5⟩:=hf it #[6]
  refine wpAny_pyNext_list_item st p.isList (x:=u) (by simpa using hu) fun h' st' sb=>?_
  have I1:Inv X pins σ H { s with heap:=h' }:=I.turned (t':=s.toks) (fun b o hb e=>(sb.2 b hb).trans e) f0 f1 f3 f4 f5
  obtain ⟨o,e,c,d⟩:=id st'
  exact ⟨u,rfl,qae (s:={ s with heap:=h' }) e c d #[4] ⟨x,H,I1,ru,⟨rfl,fun ys hy=>by rw [I.list_inj hy hq];exact hx⟩,st',fun b hb=>(hf b hb).1⟩⟩
 done:=by
  intro X hP hw hK hc i pins s σ H E I hf st hg
  subst hP hw hK
  obtain ⟨xs,hq,hx⟩:=hg
  obtain ⟨its,rv,p,hz⟩:=I.list hq
  obtain ⟨f0,f1,f2,f3,f4,f5⟩:=hf it #[6]
  have hl:=rv.length
  exact wpAny_pyNext_list_end (I.ok.hd hc) st p.isList (by simp;omega) fun h' eb=>⟨rfl,I.turned (t':=s.toks) (fun b o hb e=>eb b o hb e) f0 f1 f3 f4 f5⟩
 self:=fun _ _ _ _ _ st h=>wpAny_pyIter_listiter st h
theorem qSz {P:Program}{w:World}{K:PySem.W.Frag}{tg:Expr}(a it:Addr):Turn P w K tg (Itt K a) [it] it (fun i h=>h.IsTupleIter it a i) where
 mem:=by simp
 obj:=fun i h st b hb=>by
  have e:b=it:=by simpa using hb
  subst e
  obtain ⟨o,e,c,d⟩:=st
  exact ⟨o,e,fun v z=>by rw [d] at z;cases z⟩
 keep:=fun i h h' st k=>st.at fun o e=>k it #[6] o e
 item:=by
  intro X hP hw hK hc i pins s σ H E I hf st hg
  subst hP hw hK
  obtain ⟨xs,x,hq,hx⟩:=hg
  obtain ⟨its,rv,p,hz⟩:=I.tuple hq
  obtain ⟨u,hu,ru⟩:=rv.get hx
  obtain ⟨f0,f1,f2,f3,f4,f5⟩:=hf it #[6]
  refine wpAny_pyNext_tuple_item st (show s.heap.IsTuple a its.toArray from p) (x:=u) (by simpa using hu) fun h' st' sb=>?_
  have I1:Inv X pins σ H { s with heap:=h' }:=I.turned (t':=s.toks) (fun b o hb e=>(sb.2 b hb).trans e) f0 f1 f3 f4 f5
  obtain ⟨o,e,c,d⟩:=id st'
  exact ⟨u,rfl,qae (s:={ s with heap:=h' }) e c d #[4] ⟨x,H,I1,ru,⟨rfl,fun ys hy=>by rw [I.tuple_inj hy hq];exact hx⟩,st',fun b hb=>(hf b hb).1⟩⟩
 done:=by
  intro X hP hw hK hc i pins s σ H E I hf st hg
  subst hP hw hK
  obtain ⟨xs,hq,hx⟩:=hg
  obtain ⟨its,rv,p,hz⟩:=I.tuple hq
  obtain ⟨f0,f1,f2,f3,f4,f5⟩:=hf it #[6]
  have hl:=rv.length
  exact wpAny_pyNext_tuple_end (I.ok.hd hc) st (show s.heap.IsTuple a its.toArray from p) (by simp;omega) fun h' eb=>⟨rfl,I.turned (t':=s.toks) (fun b o hb e=>eb b o hb e) f0 f1 f3 f4 f5⟩
 self:=fun _ _ _ _ _ st h=>wpAny_pyIter_tupleiter st h
theorem qS0 {P:Program}{w:World}{K:PySem.W.Frag}{tg:Expr}(it:Addr)(lo:Int)(n:Nat):Turn P w K tg (Itr lo n) [it] it (fun i h=>IsRangeIter h it (lo + (i:Nat) * 1) ((n:Int) - (i:Nat)) 1) where
 mem:=by simp
 obj:=fun i h st b hb=>by
  have e:b=it:=by simpa using hb
  subst e
  exact ⟨_,st,fun v z=>by
   have z':Data.fields _=Data.cell v:=z
   cases z'⟩
 keep:=fun i h h' st k=>k it #[6] _ st
 item:=by
  intro X hP hw hK hc i pins s σ H E I hf st hg
  subst hP hw hK
  obtain ⟨f0,f1,f2,f3,f4,f5⟩:=hf it #[6]
  have W:=Walks.range (prog:=X.prog) (w:=X.w) (I.ok.hd hc) it lo 1 n
  refine W.item i s _ _ hg st fun v h' tk hv st' kk=>?_
  obtain ⟨t,rfl⟩:=hv
  have I1:Inv X pins σ H { s with heap:=h',toks:=tk }:=I.turned (fun b o hb e=>kk b o (by simpa using hb) e) f0 f1 f3 f4 f5
  refine ⟨_,rfl,qae (s:={ s with heap:=h',toks:=tk }) (n:="range_iterator") st' rfl rfl #[4] ⟨.int (lo + i),H,I1,⟨t,?_⟩,⟨rfl,rfl⟩,st',fun b hb=>(hf b hb).1⟩⟩
  rw [Int.mul_one]
 done:=by
  intro X hP hw hK hc i pins s σ H E I hf st hg
  subst hP hw hK
  obtain ⟨f0,f1,f2,f3,f4,f5⟩:=hf it #[6]
  exact wpAny_pyNext_range_end (I.ok.hd hc) st (by have:n≤i:=hg;omega) fun h' eb=>⟨rfl,I.turned (t':=s.toks) (fun b o hb e=>eb b o hb e) f0 f1 f3 f4 f5⟩
 self:=fun _ _ _ _ _ st h=>wpAny_pyIter_rangeiter st h
open PySem PySem.Spec PyProof.Rows
section
variable {X:Cx}{tg:Expr}
theorem qY2 {pins:List #[8]}{σ:St}{H:Hp}{s:Shared}{R:It→Hp→Prop}{E:Value→Shared→Prop}{lo hi:Int}{t u v:Tok}{tk:Nat}(I:Inv X pins σ H s)(h1:-(2 ^ 62)≤lo)(h2:lo < 2 ^ 62)(h3:-(2 ^ 62)≤hi)(h4:hi < 2 ^ 62)
  (q:R (Itr lo (hi - lo).toNat) H):wpAny #[9] X.A (pyIter #[38]) (PIE X pins σ tg R) E { s with heap:=s.heap.push { cls:=.type "range",data:=.fields #[.int lo t,.int hi u,.int 1 v] },toks:=tk }:=by
 refine wpAny_pyIter_range (IsRange.new ..) (small_one h1 h2 h3 h4) ?_
 have I1:Inv X pins σ H { s with heap:=s.heap.push { cls:=.type "range",data:=.fields #[.int lo t,.int hi u,.int 1 v] },toks:=tk }:=I.kept fun b o e=>Heap.get?_push_of_some _ e
 refine ⟨(s.heap.push { cls:=.type "range",data:=.fields #[.int lo t,.int hi u,.int 1 v] }).objs.size,[(s.heap.push { cls:=.type "range",data:=.fields #[.int lo t,.int hi u,.int 1 v] }).objs.size],_,_,H,rfl,
  I1.kept (t':=tk) fun b o e=>Heap.get?_push_of_some _ e,qS0 _ lo (hi - lo).toNat,?_,fun b hb=>?_,q⟩
 ·have e1:lo + ((0:Nat):Int) * 1=lo:=by simp
  have e2:(((hi - lo).toNat:Nat):Int) - ((0:Nat):Int)=Builtin.Range.rangeSize lo hi 1:=by rw [rangeSize_one];split <;> omega
  show IsRangeIter _ _ (lo + ((0:Nat):Int) * 1) ((((hi - lo).toNat:Nat):Int) - ((0:Nat):Int)) 1
  rw [e1,e2]
  exact Heap.get?_push_size _ rfl
 ·have e:b=(s.heap.push { cls:=.type "range",data:=.fields #[.int lo t,.int hi u,.int 1 v] }).objs.size:=by simpa using hb
  subst e
  exact I1.fpOk #[10] (I1.hok.fresh #[10])
def iRng1 (ta:TA):TI:=fun σ H R=>ta σ H fun vs H1=>∃ j:Int,vs=[.int j]∧-(2 ^ 62)≤j∧j < 2 ^ 62∧R (Itr 0 j.toNat) H1
theorem qOc {a:Expr}{ta:TA}{p pos:Pos}(hg:Gl X "range")(hm:X.mg "range"=none)(ha:PA X [a] ta)(hs:starEach [a] X.env=[(false,eval a X.env)]:=by rfl):PI X tg (.Call (.Name "range" p) [a] [] pos) (iRng1 ta):=by
 intro pins s σ H R I h
 refine Call_ (qFg I hg hm boot_range (PyProof.Rows.callWith_type1 (thn (ha pos pins s σ H _ I h) fun us s1 ⟨vs,H1,I1,r1,q1⟩=>?_) hs rfl))
 obtain ⟨j,e,q1,q2,q⟩:=q1
 subst e
 cases r1 with
 | cons r rr=>
  cases rr
  obtain ⟨t,rfl⟩:=r
  exact call_range_1 (qY2 I1 #[0] #[0] q1 q2 (by simpa using q))
def tFor (wi:TI)(g:TG)(tb:TS):TS:=fun D σ H=>wi σ H fun J H1=>∃ W:Nat→Nat→St→Hp→Prop,(∃ m,W 0 m σ H1)∧∀ i m σ H,W i m σ H→
 (J.stop i H∧D.nx σ H)∨(J.go i H∧∃ N:St→Hp→Prop,(∀ σ' H',N σ' H'→∃ m',m' < m∧W (i + 1) m' σ' H')∧∀ x H',J.yld i H x H'→g x σ H' fun σ2 H2=>tb { D with nx:=N,ct:=N,bk:=D.nx } σ2 H2)
def qK3 (fp:List Addr)(h:Heap):List #[8]:=fp.filterMap fun b=>(h.get? b).map fun o=>(b,o)
theorem qE6 {fp:List Addr}{h:Heap}{b:Addr}{o:Obj}(hb:b∈fp)(e:h.get? b=some o):(b,o)∈qK3 fp h:=List.mem_filterMap.mpr ⟨b,hb,by rw [e];rfl⟩
theorem qV8 {fp:List Addr}{h:Heap}{p:Addr×Obj}(hp:p∈qK3 fp h):p.1∈fp∧h.get? p.1=some p.2:=by
 obtain ⟨b,hb,e⟩:=List.mem_filterMap.mp hp
 cases q:h.get? b with
 | none=>rw [q] at e;cases e
 | some o=>
  rw [q] at e
  have e':(b,o)=p:=Option.some.inj e
  subst e'
  exact ⟨hb,q⟩
theorem Inv.pinned {pins:List #[8]}{σ:St}{H:Hp}{s:Shared}{fp:List Addr}(I:Inv X pins σ H s)(hf:∀ b∈fp,qSy X pins H b)(ho:∀ b∈fp,∃ o,s.heap.get? b=some o∧∀ v,o.data≠.cell v):Inv X (pins++qK3 fp s.heap) σ H s:=
 I.pins_of fun p hp=>(List.mem_append.mp hp).elim (fun z=>I.pin p (List.mem_append_right _ z)) fun z=>by
  obtain ⟨hb,e⟩:=qV8 z
  obtain ⟨f0,f1,f2,_⟩:=hf p.1 hb
  obtain ⟨o,e',d⟩:=ho p.1 hb
  rw [e] at e';cases e'
  exact ⟨e,f0,f1,f2,d⟩
theorem Inv.unpinned {pins pl:List #[8]}{σ:St}{H:Hp}{s:Shared}(I:Inv X (pins++pl) σ H s):Inv X pins σ H s:=I.pins_of fun p hp=>I.pin p (List.mem_append_right _ (List.mem_append_left _ hp))
theorem ps_for {iter:Expr}{body:List Stmt}{wi:TI}{g:TG}{tb:TS}{pos:Pos}(hp:PassesOwn #[9] X.A X.env X.xe)(hc:X.calm=true)(hi:PI X tg iter wi)(hg:PG X tg g)(hb:PSs X body tb)
  (hs:∀ x,foldedSetIterable iter X.env x=pure x:=by intro _;rfl):PS X (.For tg iter body [] pos) (tFor wi g tb):=by
 intro pins s σ H D I h
 refine wpAny_For (thn (hi pins s σ H _ I h) fun v s1 h1=>thn h1 fun itv s2 h2=>?_) hs
 obtain ⟨it,fp,tn,J,H2,e,I2,T,st2,f2,W,⟨m0,w0⟩,turn⟩:=h2
 subst e
 have stat:∀ {H':Hp},(∀ b∈fp,H' b=none)→∀ b∈fp,qSy X pins H' b:=fun hn b hb=>⟨hn b hb,(f2 b hb).2⟩
 refine codeAny_forLoop_any (fun n s'=>∃ i σ' H',Inv X pins σ' H' s'∧tn i s'.heap∧(∀ b∈fp,H' b=none)∧W i n σ' H') ?_ m0 ⟨0,σ,H2,I2,st2,fun b hb=>(f2 b hb).1,w0⟩
 rintro n s3 ⟨i,σ3,H3,I3,st3,fr3,w3⟩
 rcases turn i n σ3 H3 w3 with ⟨stop,qn⟩ | ⟨go,N,hN,step⟩
 ·refine wpAny_passesOwn hp (thn (T.done X rfl rfl rfl hc i pins s3 σ3 H3 X.xe I3 (stat fr3) st3 stop) fun r s4 ⟨hr,I4⟩=>?_)
  subst hr
  exact wpAny_execs_nil ⟨σ3,H3,I4,qn⟩
 ·refine wpAny_passesOwn hp (thn (T.item X rfl rfl rfl hc i pins s3 σ3 H3 X.xe I3 (stat fr3) st3 go) fun r s4 ⟨u,hr,h4⟩=>?_)
  subst hr
  refine wpAny_passesOwn hp (thn h4 fun _ s5 ⟨x,H5,I5,r5,y5,st5,fr5⟩=>?_)
  have I5':=I5.pinned (stat fr5) (T.obj _ _ st5)
  refine wpAny_passesOwn hp (thn (hg _ s5 σ3 H5 x u _ I5' r5 (step x H5 y5)) fun _ s6 ⟨σ6,H6,I6,q6⟩=>?_)
  refine wpAny_passesOwn hp (thn (hb _ s6 σ6 H6 _ I6 q6) fun f s7 q7=>?_)
  have again:∀ {σ7:St} {H7:Hp},Inv X (pins++qK3 fp s5.heap) σ7 H7 s7→N σ7 H7→∃ m,m < n∧∃ i σ' H',Inv X pins σ' H' s7∧tn i s7.heap∧(∀ b∈fp,H' b=none)∧W i m σ' H':=fun {σ7 H7} I7 n7=>by
   obtain ⟨m',hm,w7⟩:=hN σ7 H7 n7
   refine ⟨m',hm,i + 1,σ7,H7,I7.unpinned,T.keep _ _ _ st5 fun b hb o e=>(I7.pin (b,o) (List.mem_append_right _ (List.mem_append_right _ (qE6 hb e)))).1,fun b hb=>?_,w7⟩
   obtain ⟨o,e,d⟩:=T.obj _ _ st5 b hb
   exact (I7.pin (b,o) (List.mem_append_right _ (List.mem_append_right _ (qE6 hb e)))).2.1
  cases f with
  | next=>obtain ⟨σ7,H7,I7,n7⟩:=q7;exact again I7 n7
  | cont=>obtain ⟨σ7,H7,I7,n7⟩:=q7;exact again I7 n7
  | brk=>obtain ⟨σ7,H7,I7,q7⟩:=q7;exact ⟨σ7,H7,I7.unpinned,q7⟩
  | ret v=>obtain ⟨x7,σ7,H7,I7,r7,q7⟩:=q7;exact ⟨x7,σ7,H7,I7.unpinned,r7,q7⟩
end
open PySem PySem.Spec PyProof.Rows
abbrev R2:=V→V→Hp→VK→Prop
def OpR (X:Cx)(f:Value→Value→Sem Value)(r:R2):Prop:=
 ∀ (pins:List #[8]) (s:Shared) (σ:St) (H:Hp) (x y:V) (v u:Value) (Q:VK),Inv X pins σ H s→RelV x v→RelV y u→r x y H Q→
  wpAny #[9] X.A (f v u) (EP X pins σ Q) X.xe s
def UnR (X:Cx)(f:Value→Sem Value)(r:V→Hp→VK→Prop):Prop:=
 ∀ (pins:List #[8]) (s:Shared) (σ:St) (H:Hp) (x:V) (v:Value) (Q:VK),Inv X pins σ H s→RelV x v→r x H Q→
  wpAny #[9] X.A (f v) (EP X pins σ Q) X.xe s
def qEh (X:Cx)(f:Value)(r:List V→Hp→VK→Prop):Prop:=
 ∀ (pins:List #[8]) (s:Shared) (σ:St) (H:Hp) (xs:List V) (us:List Value) (Q:VK),Inv X pins σ H s→qBu xs us→r xs H Q→
  wpAny #[9] X.A (call f us) (EP X pins σ Q) X.xe s
def TruR (X:Cx)(r:V→Hp→(Bool→Hp→Prop)→Prop):Prop:=
 ∀ (pins:List #[8]) (s:Shared) (σ:St) (H:Hp) (x:V) (v:Value) (Q:Bool→Hp→Prop),Inv X pins σ H s→RelV x v→r x H Q→
  wpAny #[9] X.A (truthy v) (TP X pins σ Q) X.xe s
def tOp (r:R2)(ta tb:TE):TE:=fun σ H Q=>ta σ H fun x H1=>tb σ H1 fun y H2=>r x y H2 Q
def tUn (r:V→Hp→VK→Prop)(ta:TE):TE:=fun σ H Q=>ta σ H fun x H1=>r x H1 Q
def rI (C:Int→Int→Prop)(g:Int→Int→V):R2:=fun x y H Q=>∃ i j,x=.int i∧y=.int j∧C i j∧Q (g i j) H
def rI0 (g:Int→Int→V):R2:=fun x y H Q=>∃ i j,x=.int i∧y=.int j∧Q (g i j) H
def rU (g:Int→V):V→Hp→VK→Prop:=fun x H Q=>∃ i,x=.int i∧Q (g i) H
section
variable {X:Cx}{a b c:Expr}{ta tb tc:TE}{pos:Pos}
theorem binT (ha:PE X a ta)(hb:PE X b tb){pins:List #[8]}{s:Shared}{σ:St}{H:Hp}{R:V→V→Hp→Prop}(I:Inv X pins σ H s)
  (h:ta σ H fun x H1=>tb σ H1 fun y H2=>R x y H2) {Q:Value→Shared→Prop} {f:Value→Value→Sem Value}
  (hf:∀ v u s2 x y H2,Inv X pins σ H2 s2→RelV x v→RelV y u→R x y H2→wpAny #[9] X.A (f v u) Q X.xe s2) :
  wpAny #[9] X.A (eval a X.env) (fun v s₁=>wpAny #[9] X.A (eval b X.env) (fun u s₂=>wpAny #[9] X.A (f v u) Q X.xe s₂) X.xe s₁) X.xe s:=by
 refine thn (ha pins s σ H _ I h) fun v s1 ⟨x,H1,I1,r1,q1⟩=>?_
 refine thn (hb pins s1 σ H1 _ I1 q1) fun u s2 ⟨y,H2,I2,r2,q2⟩=>?_
 exact hf v u s2 x y H2 I2 r1 r2 q2
theorem pe_op {op:Operator}{r:R2}(ho:OpR X (binaryOp op) r)(ha:PE X a ta)(hb:PE X b tb):PE X (.BinOp a op b pos) (tOp r ta tb):=by
 intro pins s σ H Q I h
 exact wpAny_BinOp (binT ha hb I h fun v u s2 x y H2 I2 rx ry q=>ho pins s2 σ H2 x y v u Q I2 rx ry q)
theorem pe_un {op:UnaryOp}{r:V→Hp→VK→Prop}(ho:UnR X (unaryOp op) r)(ha:PE X a ta):PE X (.UnaryOp op a pos) (tUn r ta):=by
 intro pins s σ H Q I h
 exact UnaryOp_ (thn (ha pins s σ H _ I h) fun v s1 ⟨x,H1,I1,r1,q1⟩=>ho pins s1 σ H1 x v Q I1 r1 q1)
theorem opI {f:Value→Value→Sem Value}{C:Int→Int→Prop}{g:Int→Int→Int}
  (rule:∀ (i j:Int) (t u:Tok) (s:Shared) (Q:Value→Shared→Prop) (E:Value→Shared→Prop),C i j→Q (.int (g i j) s.toks) { s with toks:=s.toks + 1 }→wpAny #[9] X.A (f (.int i t) (.int j u)) Q E s) :
  OpR X f (rI C fun i j=>.int (g i j)):=by
 intro pins s σ H x y v u Q I rx ry h
 obtain ⟨i,j,rfl,rfl,hc,q⟩:=h
 obtain ⟨t,rfl⟩:=rx
 obtain ⟨t',rfl⟩:=ry
 exact rule i j t t' s _ _ hc ⟨.int (g i j),H,I.tok _,⟨_,rfl⟩,q⟩
theorem opI0 {f:Value→Value→Sem Value}{g:Int→Int→Int}
  (rule:∀ (i j:Int) (t u:Tok) (s:Shared) (Q:Value→Shared→Prop) (E:Value→Shared→Prop),Q (.int (g i j) s.toks) { s with toks:=s.toks + 1 }→wpAny #[9] X.A (f (.int i t) (.int j u)) Q E s) :
  OpR X f (rI0 fun i j=>.int (g i j)):=by
 intro pins s σ H x y v u Q I rx ry h
 obtain ⟨i,j,rfl,rfl,q⟩:=h
 obtain ⟨t,rfl⟩:=rx
 obtain ⟨t',rfl⟩:=ry
 exact rule i j t t' s _ _ ⟨.int (g i j),H,I.tok _,⟨_,rfl⟩,q⟩
theorem opB0 {f:Value→Value→Sem Value}{g:Int→Int→Bool}
  (rule:∀ (i j:Int) (t u:Tok) (s:Shared) (Q:Value→Shared→Prop) (E:Value→Shared→Prop),Q (.bool (g i j)) s→wpAny #[9] X.A (f (.int i t) (.int j u)) Q E s) :
  OpR X f (rI0 fun i j=>.bl (g i j)):=by
 intro pins s σ H x y v u Q I rx ry h
 obtain ⟨i,j,rfl,rfl,q⟩:=h
 obtain ⟨t,rfl⟩:=rx
 obtain ⟨t',rfl⟩:=ry
 exact rule i j t t' s _ _ ⟨.bl (g i j),H,I,rfl,q⟩
def CMul (i j:Int):Prop:=(-(2 ^ 64) < i∧i < 2 ^ 64)∨(-(2 ^ 64) < j∧j < 2 ^ 64)
theorem CMul.ok {i j:Int}(h:CMul i j):IntMulOk i j:=by
 rcases h with ⟨h1,h2⟩ | ⟨h1,h2⟩
 ·exact .of_left (intBits_le_64 h1 h2)
 ·exact .of_right (intBits_le_64 h1 h2)
theorem op_add:OpR X (binaryOp .Add) (rI0 fun i j=>.int (i + j)):=opI0 fun _ _ _ _ _ _ _ q=>add_int q
theorem op_sub:OpR X (binaryOp .Sub) (rI0 fun i j=>.int (i - j)):=opI0 fun _ _ _ _ _ _ _ q=>sub_int q
theorem op_mul:OpR X (binaryOp .Mult) (rI CMul fun i j=>.int (i * j)):=opI fun _ _ _ _ _ _ _ hc q=>mul_int q hc.ok
theorem op_mod:OpR X (binaryOp .Mod) (rI (fun _ j=>0 < j) fun i j=>.int (i % j)):=opI fun i j _ _ _ _ _ hc q=>by
 have h1:(0:Int) < j:=hc
 exact mod_int' #[0] (by rw [Int.fmod_eq_emod_of_nonneg i #[0]];exact q)
theorem unI {f:Value→Sem Value}{g:Int→Int}
  (rule:∀ (i:Int) (t:Tok) (s:Shared) (Q:Value→Shared→Prop) (E:Value→Shared→Prop),Q (.int (g i) s.toks) { s with toks:=s.toks + 1 }→wpAny #[9] X.A (f (.int i t)) Q E s) :
  UnR X f (rU fun i=>.int (g i)):=by
 intro pins s σ H x v Q I rx h
 obtain ⟨i,rfl,q⟩:=h
 obtain ⟨t,rfl⟩:=rx
 exact rule i t s _ _ ⟨.int (g i),H,I.tok _,⟨_,rfl⟩,q⟩
theorem un_neg:UnR X (unaryOp .USub) (rU fun i=>.int (-i)):=unI fun _ _ _ _ _ q=>neg_int q
end
section
variable {X:Cx}{a b c:Expr}{ta tb tc:TE}{pos:Pos}
theorem qSk {pins:List #[8]}{σ:St}{H:Hp}{s:Shared}{Q:VK}{k k':Bool}(I:Inv X pins σ H s)(q:Q (.bl k) H)(e:k=k'):EP X pins σ Q (.bool k') s:=by
 subst e
 exact ⟨.bl k,H,I,rfl,q⟩
theorem op_lt:OpR X (compareOp .Lt) (rI0 fun i j=>.bl (decide (i < j))):=opB0 fun _ _ _ _ _ _ _ q=>lt_int q
theorem op_le:OpR X (compareOp .LtE) (rI0 fun i j=>.bl (decide (i≤j))):=opB0 fun _ _ _ _ _ _ _ q=>le_int q
theorem op_gt:OpR X (compareOp .Gt) (rI0 fun i j=>.bl (decide (j < i))):=opB0 fun _ _ _ _ _ _ _ q=>gt_int q
theorem qV5:OpR X (compareOp .In) (fun x y H Q=>∃ i j,x=.str i∧y=.str j∧Q (.bl (!(Builtin.Str.occurrences j i 0 j.length 1).isEmpty)) H):=by
 intro pins s σ H x y v u Q I rx ry h
 obtain ⟨i,j,rfl,rfl,q⟩:=h
 obtain ⟨t,rfl⟩:=rx
 obtain ⟨t',rfl⟩:=ry
 exact in_str (qSk I q rfl)
theorem qbf:OpR X (compareOp .Is) (fun x y H Q=>y=.non∧Q (.bl (decide (x=.non))) H):=by
 intro pins s σ H x y v u Q I rx ry h
 obtain ⟨rfl,q⟩:=h
 cases ry
 refine is_none_gen (qSk I q ?_)
 cases x <;> first
  | (cases rx;rfl)
  | (obtain ⟨t,rfl⟩:=rx;rfl)
theorem qV4:OpR X (compareOp .IsNot) (fun x y H Q=>y=.non∧Q (.bl (!decide (x=.non))) H):=by
 intro pins s σ H x y v u Q I rx ry h
 obtain ⟨rfl,q⟩:=h
 cases ry
 refine isnot_none_gen (qSk I q ?_)
 cases x <;> first
  | (cases rx;rfl)
  | (obtain ⟨t,rfl⟩:=rx;rfl)
theorem qOh:OpR X (compareOp .NotIn) (fun x y H Q=>∃ i j,x=.str i∧y=.str j∧Q (.bl (!(!(Builtin.Str.occurrences j i 0 j.length 1).isEmpty))) H):=by
 intro pins s σ H x y v u Q I rx ry h
 obtain ⟨i,j,rfl,rfl,q⟩:=h
 obtain ⟨t,rfl⟩:=rx
 obtain ⟨t',rfl⟩:=ry
 exact notIn_str (qSk I q rfl)
def isObj:HO→Bool
 | .lst _=>true
 | .ins _ _ _=>true
 | _=>false
theorem qOj {pins:List #[8]}{s:Shared}{σ:St}{H:Hp}{a:Addr}{o:HO}(I:Inv X pins σ H s)(h:H a=some o)(p:isObj o=true):∃ ob,s.heap.get? a=some ob∧ob.cls≠.type "tuple":=by
 cases o with
 | lst xs=>
  obtain ⟨_,its,n,_,e⟩:xs.length≤sizeLine∧∃ (its:List Value) (n:Nat),qBu xs its∧s.heap.get? a=some { cls:=.type "list",data:=.seq its.toArray n }:=I.hok a _ h
  exact ⟨_,e,(by show Value.type "list"≠.type "tuple";decide +kernel)⟩
 | ins C dx fs=>
  have x:=I.hok a _ h
  obtain ⟨_,_,_,e,_⟩:=x
  exact ⟨_,e,(by show Value.ref C≠.type "tuple";exact fun z=>by cases z)⟩
 | _=>exact absurd (show false=true from p) Bool.false_ne_true
theorem qA6 (b:Expr){op:CmpOp}(h:op≠.In:=by decide)(h2:op≠.NotIn:=by decide):behindInMarks op b=false:=by
 have e1:(op == CmpOp.In)=false:=by cases op <;> first | rfl | exact absurd rfl h
 have e2:(op == CmpOp.NotIn)=false:=by cases op <;> first | rfl | exact absurd rfl h2
 cases b <;> simp [behindInMarks,e1,e2]
theorem qc6 {op:CmpOp}{r:R2}(ho:OpR X (compareOp op) r)(ha:PE X a ta)(hb:PE X b tb)(hm:behindInMarks op b=false):PE X (.Compare a [op] [b] pos) (tOp r ta tb):=by
 intro pins s σ H Q I h
 exact wpAny_Compare1 (binT ha hb I h fun v u s2 x y H2 I2 rx ry q=>ho pins s2 σ H2 x y v u Q I2 rx ry q) hm
def tTest (t:TE):TT:=fun σ H Q=>t σ H fun x H'=>∃ k,x=.bl k∧Q k H'
theorem qcv {op:CmpOp}{r:R2}(ho:OpR X (compareOp op) r)(ha:PE X a ta)(hb:PE X b tb)(hm:behindInMarks op b=false):PT X (.Compare a [op] [b] pos) (tTest (tOp r ta tb)):=by
 intro pins s σ H Q I h
 refine wpAny_isTrue_Compare1 (thn (ha pins s σ H _ I h) fun v s1 ⟨x,H1,I1,r1,q1⟩=>thn (hb pins s1 σ H1 _ I1 q1) fun u s2 ⟨y,H2,I2,r2,q2⟩=>
  thn (ho pins s2 σ H2 x y v u _ I2 r1 r2 q2) fun c s3 ⟨z,H3,I3,r3,k,e,q3⟩=>?_) hm
 subst e
 cases r3
 exact wpAny_truthy_bool ⟨H3,I3,q3⟩
def qUn (r r':R2)(ta tb tc:TE):TE:=fun σ H Q=>ta σ H fun x H1=>tb σ H1 fun y H2=>r x y H2 fun z H3=>∃ k,z=.bl k∧
 (if k=true then tc σ H3 fun w' H4=>r' y w' H4 Q else Q (.bl false) H3)
theorem qZq {op op':CmpOp}{r r':R2}(ho:OpR X (compareOp op) r)(ho':OpR X (compareOp op') r')(ha:PE X a ta)(hb:PE X b tb)(hc:PE X c tc)
  (hm:lastMarks [op,op'] [b,c]=false:=by with_unfolding_all rfl):PE X (.Compare a [op,op'] [b,c] pos) (qUn r r' ta tb tc):=by
 intro pins s σ H Q I h
 refine Compare_chain (thn (ha pins s σ H _ I h) fun v s1 ⟨x,H1,I1,r1,q1⟩=>chain_link (thn (hb pins s1 σ H1 _ I1 q1) fun u s2 ⟨y,H2,I2,r2,q2⟩=>
  thn (ho pins s2 σ H2 x y v u _ I2 r1 r2 q2) fun d s3 ⟨z,H3,I3,r3,k,e,q3⟩=>?_)) hm
 subst e
 cases r3
 refine wpAny_truthy_bool ?_
 cases k with
 | false=>exact ite_ff ⟨.bl false,H3,I3,rfl,q3⟩
 | true=>exact ite_tt (chain_last (thn (hc pins s3 σ H3 _ I3 q3) fun w' s4 ⟨z',H4,I4,r4,q4⟩=>ho' pins s4 σ H4 y z' u w' Q I4 r2 r4 q4))
theorem qZa {op op':CmpOp}{r r':R2}(ho:OpR X (compareOp op) r)(ho':OpR X (compareOp op') r')(ha:PE X a ta)(hb:PE X b tb)(hc:PE X c tc)
  (hm:lastMarks [op,op'] [b,c]=false:=by with_unfolding_all rfl):PT X (.Compare a [op,op'] [b,c] pos) (tTest (qUn r r' ta tb tc)):=by
 intro pins s σ H Q I h
 refine isTrue_chain (thn (ha pins s σ H _ I h) fun v s1 ⟨x,H1,I1,r1,q1⟩=>test_link (thn (hb pins s1 σ H1 _ I1 q1) fun u s2 ⟨y,H2,I2,r2,q2⟩=>
  thn (ho pins s2 σ H2 x y v u _ I2 r1 r2 q2) fun d s3 ⟨z,H3,I3,r3,k,e,q3⟩=>?_)) hm
 subst e
 cases r3
 refine wpAny_truthy_bool ?_
 cases k with
 | false=>
  obtain ⟨k',e',q'⟩:=q3
  cases e'
  exact ite_ff ⟨H3,I3,q'⟩
 | true=>
  refine ite_tt (test_last (thn (hc pins s3 σ H3 _ I3 q3) fun w' s4 ⟨z',H4,I4,r4,q4⟩=>thn (ho' pins s4 σ H4 y z' u w' _ I4 r2 r4 q4) fun d' s5 ⟨z2,H5,I5,r5,k2,e2,q5⟩=>?_))
  subst e2
  cases r5
  exact wpAny_truthy_bool ⟨H5,I5,q5⟩
def TruV (K:PySem.W.Frag)(x:V)(H:Hp)(k:Bool):Prop:=
 match x with
 | .non=>k=false
 | .bl b=>k=b
 | .int i=>k=(i != 0)
 | .str y=>y.length≤sizeLine∧k=((y.length:Int) != 0)
 | .byt y=>y.size≤sizeLine∧k=((y.size:Int) != 0)
 | .ref p=>(∃ xs,SqL K H p xs∧k = !xs.isEmpty)∨(∃ xs,SqT K H p xs∧k = !xs.isEmpty)∨∃ kvs,H p=some (.dK kvs)∧k = !kvs.isEmpty
 | _=>False
theorem qTy {κ:Type}{kvs:List (κ×V)}{vs:List (κ×Value)}(r:KV kvs vs):(!vs.isEmpty) = !kvs.isEmpty:=by
 cases r <;> rfl
theorem qLf {xs:List V}{its:List Value}(r:qBu xs its):(!its.toArray.isEmpty) = !xs.isEmpty:=by
 cases r <;> simp
theorem qJu:(sizeLine:Nat) < 2 ^ 63:=by rw [sizeLine_eq];decide
theorem tru_ok:TruR X (fun x H Q=>∃ k,TruV X.K x H k∧Q k H):=by
 intro pins s σ H x v Q I rx h
 obtain ⟨k,e,q⟩:=h
 have hl:=qJu
 have hs:sizeLine=16777216:=sizeLine_eq
 cases x with
 | non=>
  cases rx
  have e':k=false:=e
  subst e'
  exact truthy_none ⟨H,I,q⟩
 | bl b=>
  cases rx
  have e':k=b:=e
  subst e'
  exact wpAny_truthy_bool ⟨H,I,q⟩
 | int i=>
  obtain ⟨t,rfl⟩:=rx
  have e':k=(i != 0):=e
  subst e'
  exact PySem.P.truthy_int ⟨H,I,q⟩
 | str y=>
  obtain ⟨t,rfl⟩:=rx
  obtain ⟨hy,e'⟩:y.length≤sizeLine∧k=((y.length:Int) != 0):=e
  subst e'
  exact PySem.P.truthy_str #[0] ⟨H,I.tok _,q⟩
 | byt y=>
  obtain ⟨t,rfl⟩:=rx
  obtain ⟨hy,e'⟩:y.size≤sizeLine∧k=((y.size:Int) != 0):=e
  subst e'
  exact PySem.W.truthy_bytes #[0] ⟨H,I.tok _,q⟩
 | ref p=>
  cases rx
  have e':(∃ xs,SqL X.K H p xs∧k = !xs.isEmpty)∨(∃ xs,SqT X.K H p xs∧k = !xs.isEmpty)∨∃ kvs,H p=some (.dK kvs)∧k = !kvs.isEmpty:=e
  rcases e' with ⟨xs,hx,e'⟩ | ⟨xs,hx,e'⟩ | ⟨kvs,hx,e'⟩
  ·subst e'
   obtain ⟨its,r,pl,hz⟩:=I.list hx
   have hlen:=r.length
   exact wpAny_truthy_list pl.isList (by simp only [List.size_toArray];omega) ⟨H,I.tok _,by rw [qLf r];exact q⟩
  ·subst e'
   obtain ⟨its,r,pl,hz⟩:=I.tuple hx
   have hlen:=r.length
   exact truthy_tuple pl (by simp only [List.size_toArray];omega) ⟨H,I.tok _,by rw [qLf r];exact q⟩
  ·subst e'
   obtain ⟨hz,hS,vs,r,m⟩:kvs.length≤sizeLine∧(p == sysModules)=false∧∃ vs,KV kvs vs∧s.heap.DictOf (qCc X.prog X.w) p vs:=I.hok p _ hx
   have hlen:kvs.length=vs.length:=Paired.length r
   exact wpAny_truthy_dict hS m #[0] ⟨H,I.tok _,by rw [qTy r];exact q⟩
 | _=>exact (show False from e).elim
theorem qY9 (ha:PE X a ta)(he:∀ whole,isTrue a X.env whole=(do let v ←whole;standAt a.pos;holding [v] (truthy v))) :
  PT X a (fun σ H Q=>ta σ H fun x H'=>∃ k,TruV X.K x H' k∧Q k H'):=by
 intro pins s σ H Q I h
 exact isTrue_plain (thn (ha pins s σ H _ I h) fun v s1 ⟨x,H1,I1,r1,q1⟩=>tru_ok pins s1 σ H1 x v Q I1 r1 q1) (he _)
theorem qTo:OpR X (binaryOp .Add) (fun x y H Q=>∃ i j,x=.str i∧y=.str j∧i.length + j.length≤sizeLine∧Q (.str (i++j)) H):=by
 intro pins s σ H x y v u Q I rx ry h
 obtain ⟨i,j,rfl,rfl,hz,q⟩:=h
 obtain ⟨t,rfl⟩:=rx
 obtain ⟨t',rfl⟩:=ry
 exact add_str (fun t' tk=>⟨.str (i++j),H,I.tok _,⟨_,rfl⟩,q⟩) hz
theorem qP7 {x:V}{us:List Value}(r:qBu [x] us):∃ u,us=[u]∧RelV x u:=by
 cases r with
 | cons r1 r2=>cases r2;exact ⟨_,rfl,r1⟩
theorem qPr:qEh X (.type "int") (fun xs H Q=>(∃ i,xs=[.int i]∧Q (.int i) H)∨∃ k,xs=[.bl k]∧Q (.int (if k then 1 else 0)) H):=by
 intro pins s σ H xs us Q I r h
 rcases h with ⟨i,rfl,q⟩ | ⟨k,rfl,q⟩
 ·obtain ⟨u,rfl,t,rfl⟩:=qP7 r
  exact call_int_int ⟨.int i,H,I,⟨_,rfl⟩,q⟩
 ·obtain ⟨u,rfl,r1⟩:=qP7 r
  cases r1
  exact call_int_bool ⟨.int (if k then 1 else 0),H,I.tok _,⟨_,rfl⟩,q⟩
end
open PySem PySem.Spec PyProof.Rows
structure ObjM (h:Heap) (x dx C:Addr) (mA:Str→Option Value):Prop where
 obj:h.get? x=some (PySem.W.instObj C dx)
 ns:h.Ns1 dx mA
 ne:dx≠x
theorem qWh {h:Heap}{dx:Addr}{mA:Str→Option Value}(n:h.Ns1 dx mA):∃ od,h.get? dx=some od∧∀ name,PySem.W.lookIn name od=some (mA name):=by
 obtain ⟨o,es,ep,ho,hd,hk,_,hm⟩:=n
 refine ⟨o,ho,fun name=>?_⟩
 have e:=hm name
 unfold nsFind findBy at e
 rw [←Array.find?_toList] at e
 unfold PySem.W.lookIn
 rw [hd]
 dsimp only
 split
 ·rename_i y q
  rw [q] at e
  exact congrArg some e
 ·rename_i q
  rw [q] at e
  have a:es.toList.any (·.refKey)=false:=by
   rw [List.any_eq_false]
   intro y hy
   obtain ⟨z,t,hkey⟩:=hk y (Array.mem_toList_iff.mp hy)
   simp [DictEntry.refKey,hkey]
  have a':¬ es.toList.any (·.refKey)=true:=by rw [a];exact Bool.false_ne_true
  rw [if_neg a']
  exact congrArg some e
theorem ObjM.look {h:Heap}{x dx C:Addr}{mA:Str→Option Value}(I:ObjM h x dx C mA):∃ od,PySem.W.InstAt h x (PySem.W.instObj C dx) C (some od)∧∀ name,PySem.W.lookIn name od=some (mA name):=
 let ⟨od,ho,hl⟩:=qWh I.ns
 ⟨od,⟨I.obj,rfl,rfl,ho⟩,hl⟩
section
variable {prog:Program}{w:World}{A:Around}{E:Value→Shared→Prop}{s:Shared}{K:PySem.W.Frag}{x dx C f:Addr}{mA:Str→Option Value}{name:Str}{v:Value}
end
section
variable {P:Program}{w:World}{H H':Hp}{h h':Heap}{a C dx:Addr}{fs fs':List (Str×V)}
theorem qdn (hok:HOk P w H h)(e:H a=some (.ins C dx fs)):∃ mA,ObjM h a dx C mA∧(∀ f,qYi (fs.lookup f) (mA f))∧PySem.Within mA (fs.map (·.1))∧fs.length≤1000∧H dx=some (.own a):=by
 obtain ⟨d,z,ne,ob,mA,n,r,q⟩:=(show qB7 P w H h a (.ins C dx fs) from hok a _ e)
 exact ⟨mA,⟨ob,n,ne⟩,r,q,z,d⟩
end
structure Cls (K:PySem.W.Frag) (C:Addr):Prop where
 pg:PySem.W.plainGet K C Str.empty=true
 hd:PySem.W.hasDictIn K C=true
 po:PySem.W.plainOver K C=true
 sa:PySem.W.findIn K (.ref C) "__setattr__"=some (some (.builtin "object.__setattr__"))
theorem Cls.get {K:PySem.W.Frag}{C:Addr}(c:Cls K C)(f:Str):PySem.W.plainGet K C f=true:=c.pg
structure Con (K:PySem.W.Frag) (C:Addr) (f:Str) (v:V) (u:Value):Prop where
 at_:PySem.W.findIn K (.ref C) f=some (some u)
 rel:RelV v u
 get:PySem.W.specialIn K u "__get__"=some none
 cp:PySem.W.copiedNames.contains f=false
structure Meth (K:PySem.W.Frag) (C:Addr) (m:Str) (f:Addr):Prop where
 at_:PySem.W.findIn K (.ref C) m=some (some (.ref f))
 fn:PySem.W.isFn K (.ref f)=true
 kp:PySem.W.keepIn K (.ref f)=true
section
variable {X:Cx}{pins:List (Addr×Obj)}{σ:St}{H:Hp}{s:Shared}{a C dx:Addr}{fs:List (Str×V)}{f:Str}{v:V}{A:Around}{E:Value→Shared→Prop}
theorem Inv.made (I:Inv X pins σ H s):Inv X pins σ (upd (upd H s.heap.objs.size (.own (s.heap.objs.size + 1))) (s.heap.objs.size + 1) (.ins C s.heap.objs.size []))
  { s with heap:=(s.heap.push PySem.W.emptyDict).push (PySem.W.instObj C s.heap.objs.size) }:=by
 have e1:(s.heap.push PySem.W.emptyDict).get? s.heap.objs.size=some PySem.W.emptyDict:=Heap.get?_push_size s.heap rfl
 have e2:((s.heap.push PySem.W.emptyDict).push (PySem.W.instObj C s.heap.objs.size)).get? (s.heap.objs.size + 1)=some (PySem.W.instObj C s.heap.objs.size):=by
  have:=Heap.get?_push_size (s.heap.push PySem.W.emptyDict) (o:=PySem.W.instObj C s.heap.objs.size) rfl
  rwa [Heap.size_push] at this
 have e3:(s.heap.push PySem.W.emptyDict).Ns s.heap.objs.size (fun _=>none):=⟨PySem.W.emptyDict,#[],_,e1,rfl,(fun e he=>absurd he #[6]),fun _=>rfl⟩
 have I1:=I.laid (a:=s.heap.objs.size) (o:=.own (s.heap.objs.size + 1)) (h':=s.heap.push PySem.W.emptyDict) (t':=s.toks) (fun b u q=>Heap.get?_push_of_some _ q) #[10] ⟨_,e1⟩
 refine I1.laid (a:=s.heap.objs.size + 1) (o:=.ins C s.heap.objs.size []) (t':=s.toks) (fun b u q=>Heap.get?_push_of_some _ q) (Nat.le_of_eq (Heap.size_push _ _)) ?_
 have ne:s.heap.objs.size≠s.heap.objs.size + 1:=Nat.ne_of_lt (Nat.lt_succ_self _)
 refine ⟨by rw [qAo ne,qAu],Nat.zero_le _,ne,e2,fun _=>none,(Heap.Ns1.of_empty e3).at fun o q=>Heap.get?_push_of_some _ q,fun _=>True.intro,fun y hy=>absurd rfl hy⟩
end
section
variable {X:Cx}{o e value:Expr}{f:Str}{pos pos' tpos:Pos}{ta tv:TE}
end
section
variable {X:Cx}{pins:List (Addr×Obj)}{σ:St}{H:Hp}{s:Shared}{A:Around}{E:Value→Shared→Prop}{Q:Value→Shared→Prop}{c:Value}{b:Bool}
inductive TyOf (K:PySem.W.Frag) (H:Hp):V→Value→Prop where
 | non:TyOf K H .non (.type "NoneType")
 | bl (x:Bool):TyOf K H (.bl x) (.type "bool")
 | int (i:Int):TyOf K H (.int i) (.type "int")
 | str (x:Str):TyOf K H (.str x) (.type "str")
 | flt (x:UInt64):TyOf K H (.flt x) (.type "float")
 | lst {a:Addr} {xs:List V} (e:H a=some (.lst xs)):TyOf K H (.ref a) (.type "list")
 | frz {a:Addr} {o:Obj} {xs:List V} (e:H a=some (.frz o (.lst xs))):TyOf K H (.ref a) (.type "list")
 | tup {a:Addr} {xs:List V} (e:H a=some (.tup xs)):TyOf K H (.ref a) (.type "tuple")
 | dK {a:Addr} {kvs:List (Key×V)} (e:H a=some (.dK kvs)):TyOf K H (.ref a) (.type "dict")
 | dT {a:Addr} {kvs:List (List Key×V)} (e:H a=some (.dT kvs)):TyOf K H (.ref a) (.type "dict")
 | ins {a C dx:Addr} {fs:List (Str×V)} (e:H a=some (.ins C dx fs)) (cl:Cls K C) (ha:PySem.W.findIn K (.ref C) "__class__"=some (some (.builtin "object.__class__")))
   (hn:PySem.W.specialIn K (.builtin "object.__class__") "__get__"=some (some (.builtin "getset_descriptor.__get__"))) (htk:PySem.W.takesIn K (.builtin "object.__class__")=some true)
   (hm:PySem.W.mroIn K C (.type "object")=some true):TyOf K H (.ref a) (.ref C)
theorem qWw {x:V}{u t:Value}(I:Inv X pins σ H s)(rx:RelV x u)(ty:TyOf X.K H x t)(e:PySem.W.kitOne X.K t c=some b)(h:∀ tk,Q (.bool b) { s with toks:=tk }) :
  wpAny #[9] A (call (.builtin "isinstance") [u,c]) Q E s:=by
 cases ty with
 | non=>cases (show u=Value.none from rx);exact PySem.W.kia_one PySem.W.kitx_none I.kIn True.intro e #[36] h
 | bl y=>cases (show u=Value.bool y from rx);exact PySem.W.kia_one PySem.W.kitx_bool I.kIn True.intro e #[36] h
 | int i=>obtain ⟨t,q⟩:=(show ∃ t,u=Value.int i t from rx);cases q;exact PySem.W.kia_one PySem.W.kitx_int I.kIn True.intro e #[36] h
 | str y=>obtain ⟨t,q⟩:=(show ∃ t,u=Value.str y t from rx);cases q;exact PySem.W.kia_one PySem.W.kitx_str I.kIn True.intro e #[36] h
 | flt y=>obtain ⟨t,q⟩:=(show ∃ t,u=Value.float y t from rx);cases q;exact PySem.W.kia_one PySem.W.kitx_float I.kIn True.intro e #[36] h
 | @lst a xs ea=>
  cases (show u=Value.ref a from rx)
  obtain ⟨_,_,n,_,h1⟩:=(show qB7 X.prog X.w H s.heap a (.lst xs) from I.hok a _ ea)
  exact PySem.W.kia_one PySem.W.kitx_list I.kIn ⟨_,h1,rfl⟩ e #[36] h
 | @frz a ob xs ea=>
  cases (show u=Value.ref a from rx)
  obtain ⟨_,_,_,n,_,h1⟩:=(show qB7 X.prog X.w H s.heap a (.frz ob (.lst xs)) from I.hok a _ ea)
  exact PySem.W.kia_one PySem.W.kitx_list I.kIn ⟨_,h1,rfl⟩ e #[36] h
 | @tup a xs ea=>
  cases (show u=Value.ref a from rx)
  obtain ⟨_,_,_,p⟩:=(show qB7 X.prog X.w H s.heap a (.tup xs) from I.hok a _ ea)
  obtain ⟨o,h1,h2,_⟩:=p
  exact PySem.W.kia_one PySem.W.kitx_tuple I.kIn ⟨o,h1,h2⟩ e #[36] h
 | @dK a kvs ea=>
  cases (show u=Value.ref a from rx)
  obtain ⟨_,_,vs,_,p⟩:=(show qB7 X.prog X.w H s.heap a (.dK kvs) from I.hok a _ ea)
  obtain ⟨o,es,ep,h1,h2,_⟩:=p
  exact PySem.W.kia_one PySem.W.kitx_dict I.kIn ⟨o,h1,h2.1⟩ e #[36] h
 | @dT a kvs ea=>
  cases (show u=Value.ref a from rx)
  obtain ⟨_,_,xs,_,o,es,ep,h1,h2,_⟩:=(show qB7 X.prog X.w H s.heap a (.dT kvs) from I.hok a _ ea)
  exact PySem.W.kia_one PySem.W.kitx_dict I.kIn ⟨o,h1,h2.1⟩ e #[36] h
 | @ins a C dx fs ea cl ha hn htk hm=>
  cases (show u=Value.ref a from rx)
  obtain ⟨mA,O,_⟩:=qdn I.hok ea
  obtain ⟨od,J,_⟩:=O.look
  exact PySem.W.kia_one (PySem.W.kitx_own (cl.get _) cl.hd ha hn htk hm) I.kIn J e #[36] h
end
open PySem PySem.Spec PyProof.Rows
structure Room (k:Nat) (A:Around):Prop where
 hd:A.handled=none
 dp:A.depth + 3 * k + 5 < recursionLimit
 un:A.units + 16 * k + 200 < cLine
theorem Room.mono {j k:Nat}{A:Around}(r:Room k A)(h:j≤k):Room j A:=⟨r.hd,by have:=r.dp;omega,by have:=r.un;omega⟩
theorem Room.deeper {k:Nat}{A:Around}(r:Room (k + 1) A)(env:Env):Room k (A.deeper env):=
 ⟨r.hd,by have:=r.dp;show A.depth + 1 + 3 * k + 5 < _;omega,by have:=r.un;show A.units + 3 + 16 * k + 200 < _;omega⟩
theorem Room.in1 {k:Nat}{A:Around}(r:Room (k + 1) A):Room k A.in1:=
 ⟨r.hd,by have:=r.dp;show A.depth + 3 * k + 5 < _;omega,by have:=r.un;show A.units + 1 + 16 * k + 200 < _;omega⟩
theorem Room.depth {k:Nat}{A:Around}(r:Room k A):A.depth < recursionLimit:=by have:=r.dp;omega
theorem Room.units {k:Nat}{A:Around}(r:Room k A):A.units + 64 < cLine:=by have:=r.un;omega
def tNil:TA:=fun _ H Q=>Q [] H
def tCons (ta:TE)(tr:TA):TA:=fun σ H Q=>ta σ H fun x H1=>tr σ H1 fun xs H2=>Q (x::xs) H2
section
variable {X:Cx}{e:Expr}{es:List Expr}{te:TE}{t:TA}{pos:Pos}
theorem qCx:PA X [] tNil:=fun _ _ _ _ H Q I h=>Calls.spliced_nil ⟨[],H,I,.nil,h⟩
theorem qBx (ha:PE X e te)(hr:PA X es t)(hs:starEach (e::es) X.env=#[22]::starEach es X.env:=by rfl):PA X (e::es) (tCons te t):=by
 intro pos pins s σ H Q I h
 rw [hs]
 show wpAny _ _ (spliced (#[22]::backTo pos (starEach es X.env))) _ _ s
 refine Calls.spliced_cons (thn (ha pins s σ H _ I h) fun u s1 ⟨x,H1,I1,r1,q1⟩=>?_)
 exact thn (hr pos pins s1 σ H1 _ I1 q1) fun us s2 ⟨xs,H2,I2,r2,q2⟩=>⟨x::xs,H2,I2,.cons r1 r2,q2⟩
def tTup (t:TA):TE:=fun σ H Q=>t σ H fun xs H1=>xs.length≤sizeLine∧∀ p,H1 p=none→Q (.ref p) (upd H1 p (.tup xs))
def tLst (t:TA):TE:=fun σ H Q=>t σ H fun xs H1=>xs.length≤sizeLine∧∀ p,H1 p=none→Q (.ref p) (upd H1 p (.lst xs))
theorem pe_tup {x1}(h:PA X es t):PE X (.Tuple es x1 pos) (tTup t):=by
 intro pins s σ H Q I hq
 refine wpAny_Tuple_spliced (thn (h pos pins s σ H _ I hq) fun us s1 ⟨xs,H1,I1,r,z,q⟩=>⟨by rw [←r.length];exact z,?_⟩)
 have hf:H1 s1.heap.objs.size=none:=I1.hok.fresh #[10]
 refine ⟨.ref s1.heap.objs.size,upd H1 s1.heap.objs.size (.tup xs),I1.laid (t':=s1.toks) (fun b u e=>Heap.get?_push_of_some _ e) #[10] ?_,rfl,q _ hf⟩
 exact ⟨z,us,r,⟨_,Heap.get?_push_size _ rfl,rfl,_,rfl⟩⟩
theorem pe_lst (h:PA X es t):PE X (.List es pos) (tLst t):=by
 intro pins s σ H Q I hq
 refine wpAny_List_spliced (thn (h pos pins s σ H _ I hq) fun us s1 ⟨xs,H1,I1,r,z,q⟩=>⟨by rw [←r.length];exact z,?_⟩)
 have hf:H1 s1.heap.objs.size=none:=I1.hok.fresh #[10]
 refine ⟨.ref s1.heap.objs.size,upd H1 s1.heap.objs.size (.lst xs),I1.laid (t':=s1.toks) (fun b u e=>Heap.get?_push_of_some _ e) #[10] ?_,rfl,q _ hf⟩
 exact ⟨z,us,0,r,Heap.get?_push_size _ rfl⟩
end
abbrev Sp:=List V→Hp→VK→XK→Prop
abbrev CXT:=List Env→Hp→Shared→XK→Value→Shared→Prop
structure Env0 (P:Program) (w:World) (K:PySem.W.Frag) (mg:Str→Option Value) (base:Heap) (A:Around) (outer:List Env) (s:Shared) (H:Hp):Prop where
 frames:A.frames=some outer
 mod:Mod K mg base
 bs:∀ b o,base.get? b=some o→s.heap.get? b=some o∧H b=none
 bsz:base.objs.size≤s.heap.objs.size
 funs:s.heap.FunFrames base outer
 frf:∀ b∈frs outer,H b=none
 hok:HOk P w H s.heap
 bare:AllBare s.gens
 tab:qa0 K H
def CE (outer:List Env)(P:Program)(w:World)(H:Hp)(s:Shared)(Q:VK)(u:Value)(s':Shared):Prop:=
 ∃ v H',s'.os=s.os∧AllBare s'.gens∧Un (frs outer) [] H H' s.heap s'.heap∧HOk P w H' s'.heap∧RelV v u∧Q v H'
def CR (CX:CXT)(outer:List Env)(P:Program)(w:World)(H:Hp)(s:Shared)(Q:VK)(E:XK)(r:Result)(s':Shared):Prop:=
 match r with
 | .ok (.ret u)=>CE outer P w H s Q u s'
 | .ok _=>False
 | .error e=>CX outer H s E e s'
structure FnOk (P:Program) (w:World) (K:PySem.W.Frag) (mg:Str→Option Value) (base:Heap) (CX:CXT) (k:Nat) (f:Addr) (fd:FuncData) (ps:List Str) (sp:Sp):Prop where
 len:∀ vs H Q E,sp vs H Q E→vs.length=ps.length
 run:∀ (A:Around) (outer:List Env) (s:Shared) (H:Hp) (args:Args) (us:List Value) (vs:List V) (Q:VK) (E:XK),Room k A→Env0 P w K mg base A outer s H→BindsTo s fd args (ps.zip us)→qBu vs us→sp vs H Q E→
  codeAny (model P w) A (.call (.ref f) args) (CR CX outer P w H s Q E) s
theorem FnOk.mono {P:Program}{w:World}{K:PySem.W.Frag}{mg:Str→Option Value}{base:Heap}{CX:CXT}{j k:Nat}{f:Addr}{fd:FuncData}{ps:List Str}{sp:Sp}(F:FnOk P w K mg base CX j f fd ps sp)(h:j≤k) :
  FnOk P w K mg base CX k f fd ps sp:=⟨F.len,fun A outer s H args us vs Q E hr=>F.run A outer s H args us vs Q E (hr.mono h)⟩
theorem FnOk.imp {P:Program}{w:World}{K:PySem.W.Frag}{mg:Str→Option Value}{base:Heap}{CX:CXT}{k:Nat}{f:Addr}{fd:FuncData}{ps:List Str}{sp sp':Sp}(F:FnOk P w K mg base CX k f fd ps sp)
  (h:∀ vs H Q E,sp' vs H Q E→sp vs H Q E):FnOk P w K mg base CX k f fd ps sp':=
 ⟨fun vs H Q E q=>F.len vs H Q E (h _ _ _ _ q),fun A outer s H args us vs Q E hr he hb hv hs=>F.run A outer s H args us vs Q E hr he hb hv (h _ _ _ _ hs)⟩
theorem Env0.in1 {P:Program}{w:World}{K:PySem.W.Frag}{mg:Str→Option Value}{base:Heap}{A:Around}{outer:List Env}{s:Shared}{H:Hp}(e:Env0 P w K mg base A outer s H) :
  Env0 P w K mg base A.in1 outer s H:=⟨e.frames,e.mod,e.bs,e.bsz,e.funs,e.frf,e.hok,e.bare,e.tab⟩
section
variable {X:Cx}{pins:List (Addr×Obj)}{σ:St}{H:Hp}{s s':Shared}
theorem Inv.env0 (I:Inv X pins σ H s):Env0 X.prog X.w X.K X.mg X.base X.A X.stack s H:=
 ⟨I.ok.frames,I.ok.mod,I.bs,Nat.le_trans I.ok.bsz I.sz,I.stack,I.stkFree,I.hok,I.bare,fun x c P h1 h2=>I.base.tbls _ _ (I.ok.tab x c P h1 h2)⟩
theorem Inv.after {Q:VK}{u:Value}(I:Inv X pins σ H s)(h:CE X.stack X.prog X.w H s Q u s'):EP X pins σ Q u s':=by
 obtain ⟨v,H',os,bare,un,hok,r,q⟩:=h
 obtain ⟨hh,g,d,t,os'⟩:=s'
 obtain rfl:os'=s.os:=os
 exact ⟨v,H',I.call (h':=hh) (g':=g) (d':=d) (t':=t) (ch:=[]) un hok bare (fun b z=>absurd z #[6]),r,q⟩
end
def tCall (sp:Sp)(dvs:List V)(E:XK)(t:TA):TE:=fun σ H Q=>t σ H fun vs H1=>sp (vs++dvs) H1 Q E
def qIi (K:PySem.W.Frag)(fd:FuncData)(ps:List Str)(ds:List Value):Prop:=
 ∀ (s:Shared) (us:List Value),K.In s.heap→(us++ds).length=ps.length→BindsTo s fd ⟨us,[]⟩ (ps.zip (us++ds))
theorem qIi.all {K:PySem.W.Frag}{fd:FuncData}{ps:List Str}(h:∀ us:List Value,us.length=ps.length→bindArgs fd ⟨us,[]⟩=pure (ps.zip us)):qIi K fd ps []:=fun s us _ hl=>by
 rw [List.append_nil] at hl ⊢
 exact .of_eq (h us hl)
def qPz (CX:CXT)(X:Cx)(E:XK):Prop:=∀ (pins:List #[8]) (σ:St) (H:Hp) (s:Shared) (e:Value) (s':Shared),Inv X pins σ H s→CX X.stack H s E e s'→X.xe e s'
section
variable {X:Cx}{CX:CXT}{k:Nat}{f C:Addr}{fd:FuncData}{ps:List Str}{sp:Sp}{dvs:List V}{ds:List Value}{E:XK}{x m:Str}{p pos apos:Pos}{e o:Expr}{es:List Expr}{ta:TE}{t:TA}
theorem run_fn {pins:List #[8]}{σ:St}{H:Hp}{s:Shared}{Q:VK}{us:List Value}{vs:List V}(F:FnOk X.prog X.w X.K X.mg X.base CX k f fd ps sp)(hr:Room k X.A)(hb:qIi X.K fd ps ds)(hd:qBu dvs ds)(hx:qPz CX X E)
  (I:Inv X pins σ H s) (r:qBu vs us) (h:sp (vs++dvs) H Q E):wpAny #[9] X.A (call (.ref f) us) (EP X pins σ Q) X.xe s:=by
 have r2:qBu (vs++dvs) (us++ds):=r.append hd
 have hl:(us++ds).length=ps.length:=by rw [←r2.length];exact F.len _ _ _ _ h
 refine wpAny_call (codeAny_mono (F.run X.A X.stack s H ⟨us,[]⟩ (us++ds) (vs++dvs) Q E hr I.env0 (hb s us I.kIn hl) r2 h) fun r s' hq=>?_)
 cases r with
 | error e=>exact hx pins σ H s e s' I hq
 | ok fl=>
  cases fl with
  | ret u=>exact I.after hq
  | next=>exact False.elim hq
  | brk=>exact False.elim hq
  | cont=>exact False.elim hq
theorem qFt (F:FnOk X.prog X.w X.K X.mg X.base CX k f fd ps sp)(hr:Room k X.A)(hg:Gl X x)(hm:X.mg x=some (.ref f))(hk:PySem.W.keepIn X.K (.ref f)=true)(hb:qIi X.K fd ps ds)(hd:qBu dvs ds)(hx:qPz CX X E)
  (ha:PA X (e::es) t) (hdb:#[17]=false:=by decide) (he:starEach (e::es) X.env=#[22]::starEach es X.env:=by rfl) (hpl:#[43].any (·.1)=false:=by rfl) :
  PE X #[46] (tCall sp dvs E t):=by
 intro pins s σ H Q I h
 refine wpAny_Call_Name_kw (qF0 I hg hm ?_ hdb)
 refine PySem.W.callWith_K (h₀:=X.base) I.ok.mod.kin hk (thn (ha pos pins s σ H _ I h) fun us s1 ⟨vs,H1,I1,r,q⟩=>⟨I1.kIn,?_⟩) he hpl
 exact run_fn F hr hb hd hx I1 r q
structure Mk (K:PySem.W.Frag) (C f:Addr):Prop where
 makes:PySem.W.makesIn K C=true
 init:PySem.W.findIn K (.ref C) "__init__"=some (some (.ref f))
 fn:PySem.W.isFn K (.ref f)=true
 kp:PySem.W.keepIn K (.ref C)=true
end
section
variable {X:Cx}{CX:CXT}{k:Nat}{f C:Addr}{fd:FuncData}{ps ks:List Str}{sp:Sp}{E:XK}{x m:Str}{p pos apos kpos:Pos}{e o:Expr}{es:List Expr}{kws:List Keyword}{te ta:TE}{t tk:TA}{nm:Option Str}
structure KBinds (K:PySem.W.Frag) (fd:FuncData) (ps ks:List Str) (g:List Value→List Value→List Value) (gV:List V→List V→List V):Prop where
 to:∀ (s:Shared) (us ws:List Value),K.In s.heap→(g us ws).length=ps.length→BindsTo s fd ⟨us,ks.zip ws⟩ (ps.zip (g us ws))
 rel:∀ {vs:List V} {us:List Value} {zs:List V} {ws:List Value},qBu vs us→qBu zs ws→qBu (gV vs zs) (g us ws)
variable {g:List Value→List Value→List Value}{gV:List V→List V→List V}
end
structure FnScope (N P:List Str) (sc:Scope):Prop where
 kind:sc.kind=.function
 co:sc.isCoroutine=false
 gen:sc.isGenerator=false
 nd:N.Nodup
 pre:N.take P.length=P
 par:∀ x∈P,sc.names.lookup x=some .local∨sc.names.lookup x=some .cell
 nofree:∀ y∈sc.names,y.2≠.free
theorem qPs {kindOf:Str→Option NameKind}{x:Str}:∀ {binds:List (Str×Value)} {m:Str→Option Value},(∀ v,(x,v)∉binds)→bindL kindOf binds m x=m x
 | [],_,_=>rfl
 | (n,v)::r,m,h=>by
  unfold bindL
  rw [qPs fun w hw=>h w (List.mem_cons_of_mem _ hw)]
  split
  ·have:x≠n:=by rintro rfl;exact h v List.mem_cons_self
   simp [this]
  ·rfl
theorem qPu {kindOf:Str→Option NameKind}{x:Str}:∀ {binds:List (Str×Value)} {m:Str→Option Value},(∀ v,(x,v)∉binds)→bindC kindOf binds m x=m x
 | [],_,_=>rfl
 | (n,v)::r,m,h=>by
  unfold bindC
  rw [qPu fun w hw=>h w (List.mem_cons_of_mem _ hw)]
  split
  ·rfl
  ·have:x≠n:=by rintro rfl;exact h v List.mem_cons_self
   simp [this]
theorem qPt {kindOf:Str→Option NameKind}{x:Str}{v:Value}:∀ {P:List Str} {vs:List Value} {i:Nat} {m:Str→Option Value},P.Nodup→P[i]?=some x→vs[i]?=some v→kindOf x=some .local→
  bindL kindOf (P.zip vs) m x=some v
 | [],_,_,_,_,h,_,_=>by simp at h
 | _::_,[],_,_,_,_,h,_=>by simp at h
 | p::P,w::vs,0,m,nd,h1,h2,hk=>by
  simp at h1 h2;subst h1;subst h2
  show bindL kindOf ((p,w)::P.zip vs) m p=_
  unfold bindL
  rw [qPs fun v hv=>(List.nodup_cons.mp nd).1 (List.of_mem_zip hv).1,if_pos hk]
  simp
 | p::P,w::vs,i + 1,m,nd,h1,h2,hk=>by
  show bindL kindOf ((p,w)::P.zip vs) m x=_
  unfold bindL
  exact qPt (i:=i) (List.nodup_cons.mp nd).2 (by simpa using h1) (by simpa using h2) hk
theorem qPv {kindOf:Str→Option NameKind}{x:Str}{v:Value}:∀ {P:List Str} {vs:List Value} {i:Nat} {m:Str→Option Value},P.Nodup→P[i]?=some x→vs[i]?=some v→kindOf x≠some .local→
  bindC kindOf (P.zip vs) m x=some v
 | [],_,_,_,_,h,_,_=>by simp at h
 | _::_,[],_,_,_,_,h,_=>by simp at h
 | p::P,w::vs,0,m,nd,h1,h2,hk=>by
  simp at h1 h2;subst h1;subst h2
  show bindC kindOf ((p,w)::P.zip vs) m p=_
  unfold bindC
  rw [qPu fun v hv=>(List.nodup_cons.mp nd).1 (List.of_mem_zip hv).1,if_neg hk]
  simp
 | p::P,w::vs,i + 1,m,nd,h1,h2,hk=>by
  show bindC kindOf ((p,w)::P.zip vs) m x=_
  unfold bindC
  exact qPv (i:=i) (List.nodup_cons.mp nd).2 (by simpa using h1) (by simpa using h2) hk
def start (N:List Str)(vs:List V):St:=vs.map some++List.replicate (N.length - vs.length) none
def qLt (CX:CXT)(P:Program)(w:World)(K:PySem.W.Frag)(mg:Str→Option Value)(base:Heap)(N:List Str)(qual:Str)(scope:Scope)(f:Addr)(cd:Value)(A:Around)(outer:List Env)(s:Shared)(H:Hp)(E:XK):Cx where
 prog:=P
 w:=w
 K:=K
 mg:=mg
 base:=base
 A:=A.deeper (envOfC qual scope s.heap.objs.size f cd)
 N:=N
 s₀:=s
 H₀:=H
 env:=envOfC qual scope s.heap.objs.size f cd
 outer:=outer
 stack:=envOfC qual scope s.heap.objs.size f cd::outer
 ex:=[]
 calm:=true
 fn:=fun _=>true
 pn:=[]
 xe:=fun e s'=>wpAny (model P w) (A.deeper (envOfC qual scope s.heap.objs.size f cd)) (leaving (envOfC qual scope s.heap.objs.size f cd) e) (fun _ s''=>CX outer H s E e s'') (fun e' s''=>CX outer H s E e' s'') s'
theorem qSw {sc:Scope}{n:Nat}{x:Str}(h:sc.names.lookup x=some .cell):∃ c,(cellsFrom n sc.names []).lookup x=some c:=by
 have q:=PySem.W.cellsFrom_some sc.names n [] (.inl h)
 exact Option.isSome_iff_exists.mp q
theorem qJx {CX:CXT}{P:Program}{w:World}{K:PySem.W.Frag}{mg:Str→Option Value}{base:Heap}{N ps:List Str}{qual:Str}{scope:Scope}{f:Addr}{cd:Value}{A:Around}{outer:List Env}{s s1:Shared}{H:Hp}{E:XK}{us:List Value}{vs:List V}
  (S:FnScope N ps scope) (hd:A.handled=none) (e0:Env0 P w K mg base A outer s H) (hl:vs.length=ps.length) (r:qBu vs us)
  (x:InCallC s s.heap.objs.size (bindL (envOfC qual scope s.heap.objs.size f cd).kindOf (ps.zip us) fun _=>none) (cellsFrom (s.heap.objs.size + 1) scope.names []) (bindC (envOfC qual scope s.heap.objs.size f cd).kindOf (ps.zip us) fun _=>none) s1) :
  Inv (qLt CX P w K mg base N qual scope f cd A outer s H E) [] (start N vs) H s1:=by
 have hpl:ps.length≤N.length:=by have:=congrArg List.length S.pre;rw [List.length_take] at this;omega
 obtain ⟨h1,tk,rfl,hk⟩:=x.done
 have noA:∀ b:Addr,b∉(qLt CX P w K mg base N qual scope f cd A outer s H E).ex:=fun b z=>absurd (show b∈([]:List Addr) from z) #[6]
 refine ⟨⟨e0.mod,S.kind,rfl,rfl,Nat.le_refl _,fun y z c h1 h2=>?_,fun y hy=>?_,fun y c _ h=>?_,fun _=>hd,Around.frames_deeper e0.frames,.inr ⟨rfl,rfl⟩,fun b z=>absurd z (noA b),e0.bs,e0.bsz,fun b _ _=>noA b,fun b z=>absurd z (noA b),e0.funs,e0.frf,e0.tab⟩,
  rfl,e0.bare,Un.kept hk,⟨_,x.toInCall.ns,fun i y v h1 h2 h3=>?_⟩,fun y c h=>⟨_,x.cell y c h⟩,e0.hok.fresh #[10],fun y c h=>?_,fun p hp=>absurd (show p∈([]:List #[8]) from hp) #[6],e0.hok.kept hk,?_⟩
 ·exact name_of_addr x.apart (PySem.mem_of_lookup h1) (PySem.mem_of_lookup h2)
 ·have hy:scope.names.lookup y=some .cell∨scope.names.lookup y=some .free:=hy
  rcases hy with hy | hy
  ·exact qSw hy
  ·exact absurd rfl (S.nofree _ (PySem.mem_of_lookup hy))
 ·exact Nat.le_of_lt (x.above y c (PySem.mem_of_lookup h))
 ·have hi:i < vs.length:=by
   unfold start at h2
   by_cases hi:i < vs.length
   ·exact hi
   ·rw [List.getElem?_append_right (by simpa using hi)] at h2
    rw [List.getElem?_replicate] at h2
    split at h2 <;> cases h2
  have ha:vs[i]?=some v:=by
   unfold start at h2
   rw [List.getElem?_append_left (by simpa using hi),List.getElem?_map] at h2
   cases e:vs[i]? with
   | none=>rw [e] at h2;cases h2
   | some a=>rw [e] at h2;cases h2;rfl
  obtain ⟨u,hu,rv⟩:=r.get ha
  have hp:ps[i]?=some y:=by
   rw [←S.pre,List.getElem?_take_of_lt #[0]];exact h1
  have ndP:ps.Nodup:=by rw [←S.pre];exact S.nd.sublist (List.take_sublist _ _)
  refine ⟨u,rv,?_⟩
  rcases S.par y (List.mem_of_getElem? hp) with k | k
  ·exact .inl ⟨k,qPt ndP hp hu k⟩
  ·obtain ⟨c,e⟩:=qSw (n:=s.heap.objs.size + 1) k
   refine .inr ⟨.inl k,c,e,?_⟩
   have q:=x.cell y c e
   rw [qPv ndP hp hu (by show scope.names.lookup y≠_;rw [k];decide)] at q
   exact q
 ·exact e0.hok.fresh (Nat.le_of_lt (x.above y c (PySem.mem_of_lookup h)))
 ·unfold start
  show _=N.length
  rw [List.length_append,List.length_map,List.length_replicate]
  omega
theorem qdv {CX:CXT}{P:Program}{w:World}{K:PySem.W.Frag}{mg:Str→Option Value}{base:Heap}{k:Nat}{f:Addr}{name qual:Str}{params:Arguments}{body:List Stmt}{scope:Scope}{dV kV doc pm cdv ct oc:Value}{an od:Option Addr}
  {osl:Array (Option Value)} {N ps:List Str} {sp:Sp} (lk:K.lookup f=some ⟨oc,od,.func (PySem.W.fnOf name qual params body scope dV kV doc pm an cdv ct),osl⟩) (hcd:PySem.W.codeIn K cdv qual=true) (S:FnScope N ps scope)
  (len:∀ vs H Q E,sp vs H Q E→vs.length=ps.length)
  (hbody:∀ (A:Around) (outer:List Env) (s:Shared) (H:Hp) (vs:List V) (Q:VK) (E:XK),Room k (A.deeper (envOfC qual scope s.heap.objs.size f cdv))→sp vs H Q E→
   ∃ t,PSs (qLt CX P w K mg base N qual scope f cdv A outer s H E) body t∧t { nx:=fun _ H'=>Q .non H',rt:=Q } (start N vs) H) :
  FnOk P w K mg base CX (k + 1) f (PySem.W.fnOf name qual params body scope dV kV doc pm an cdv ct) ps sp:=by
 refine ⟨len,fun A outer s H args us vs Q E hr e0 hb r hsp=>?_⟩
 have hl:=len _ _ _ _ hsp
 have KX:K.In s.heap:=e0.mod.kin.keeps fun b o e=>(e0.bs b o e).1
 have lim:s.heap.NoLimit:=e0.mod.nolimit.keeps fun b o e=>(e0.bs b o e).1
 have hkind:∀ y∈ps.zip us,scope.names.lookup y.1=some .local∨(scope.names.lookup y.1=some .cell∧((cellsFrom (s.heap.objs.size + 1) scope.names []).lookup y.1).isSome=true):=fun ⟨n,v⟩ hy=>by
  rcases S.par n (List.of_mem_zip hy).1 with q | q
  ·exact .inl q
  ·exact .inr ⟨q,PySem.W.cellsFrom_some _ _ _ (.inl q)⟩
 refine codeAny_call_function hr.depth (KX _ _ lk) rfl S.co S.gen rfl (PySem.W.codeRec_of KX hcd) (hb _ _ _ _ ?_)
 refine wpAny_newFunctionEnv_cells S.kind hkind fun env he s1 x=>?_
 subst he
 refine ⟨lim.keeps x.toInCall.keep,codeAny_func ?_⟩
 obtain ⟨t,ht,hq⟩:=hbody A outer s H vs Q E (hr.deeper _) hsp
 have I:Inv (qLt CX P w K mg base N qual scope f cdv A outer s H E) [] (start N vs) H s1:=qJx S hr.hd e0 hl r x
 refine wpAny_mono (ht [] s1 (start N vs) H _ I hq) (fun fl s' hs=>?_) fun e s' hs=>hs
 have fin:∀ {σ':St} {H':Hp} {v:V} {u:Value},Inv (qLt CX P w K mg base N qual scope f cdv A outer s H E) [] σ' H' s'→RelV v u→Q v H'→CE outer P w H s Q u s':=
  fun {σ' H' v u} J rv q=>⟨v,H',J.os,J.bare,J.base,J.hok,rv,q⟩
 cases fl with
 | ret u=>
  obtain ⟨v,σ',H',J,rv,q⟩:=hs
  exact fin J rv q
 | next=>
  obtain ⟨σ',H',J,q⟩:=hs
  exact fin (v:=V.non) (u:=Value.none) J rfl q
 | brk=>
  obtain ⟨_,_,_,q⟩:=hs
  exact False.elim q
 | cont=>
  obtain ⟨_,_,_,q⟩:=hs
  exact False.elim q
open PySem PySem.Spec PyProof.Rows
section
variable {X:Cx}{x:Str}{p pos:Pos}{e:Expr}{es:List Expr}{t:TA}{id T:String}{r:List V→Hp→VK→Prop}
def tCB (r:List V→Hp→VK→Prop)(t:TA):TE:=fun σ H Q=>t σ H fun vs H1=>r vs H1 Q
theorem qGi (hc:qEh X (.builtin id) r)(hg:Gl X x)(hm:X.mg x=none)(hv:bootBuiltins x=some (.builtin id))(ha:PA X (e::es) t)(hn:x≠"__name__":=by decide)(hdb:#[17]=false:=by decide)
  (he:starEach (e::es) X.env=#[22]::starEach es X.env:=by rfl) (hpl:#[43].any (·.1)=false:=by rfl):PE X #[46] (tCB r t):=by
 intro pins s σ H Q I h
 refine wpAny_Call_Name_kw (qFg I hg hm hv ?_ hn hdb)
 exact PyProof.Rows.callWith_builtin1 (thn (ha pos pins s σ H _ I h) fun us s1 ⟨vs,H1,I1,r1,q1⟩=>hc pins s1 σ H1 vs us Q I1 r1 q1) he hpl
theorem qOd (hc:qEh X (.type T) r)(hg:Gl X x)(hm:X.mg x=none)(hv:bootBuiltins x=some (.type T))(ha:PA X (e::es) t)(hn:x≠"__name__":=by decide)(hdb:#[17]=false:=by decide)
  (he:starEach (e::es) X.env=#[22]::starEach es X.env:=by rfl) (hpl:#[43].any (·.1)=false:=by rfl):PE X #[46] (tCB r t):=by
 intro pins s σ H Q I h
 refine wpAny_Call_Name_kw (qFg I hg hm hv ?_ hn hdb)
 exact PyProof.Rows.callWith_type1 (thn (ha pos pins s σ H _ I h) fun us s1 ⟨vs,H1,I1,r1,q1⟩=>hc pins s1 σ H1 vs us Q I1 r1 q1) he hpl
end
end L2
namespace HT
open PySem PyProof.Rows
section
open PySem.SeqAt
open PySem.AutoSeq1 (wpAny_loadPart')
open PySem.MeetsSeq PySem.MeetsSeq2 PySem.MeetsSeq3
end
section
variable {prog:Program}{w:World}{A:Around}{E:Value→Shared→Prop}{s:Shared}
theorem cat_tup {t b:Addr}{vs ws:List Value}{Q:Value→Shared→Prop}(ht:IsTup s.heap t vs.toArray)(hb:IsTup s.heap b ws.toArray)(hv:vs≠[])
  (h1:ws=[]→Q (.ref t) s) (h2:ws≠[]→Q #[38] { s with heap:=s.heap.push { cls:=.type "tuple",data:=.seq (vs++ws).toArray } })
  (hsz:vs.length + ws.length≤sizeLine):wpAny #[18] A (binaryOp .Add (.ref t) (.ref b)) Q E s:=by
 obtain ⟨⟨cls,dd,data,sl⟩,ho,hc,n,hd⟩:=id ht
 obtain ⟨⟨cls2,dd2,data2,sl2⟩,ho2,hc2,n2,hd2⟩:=id hb
 simp only at hc hd hc2 hd2
 subst hc hd hc2 hd2
 have e:vs.toArray++ws.toArray=(vs++ws).toArray:=by simp
 by_cases hw:ws=[]
 ·exact concat_meets ⟨_,ho,rfl⟩ ⟨_,ho2,rfl⟩ noFill_tuple_add seq_tuple_add PySem.F.slot_tuple_add PySem.F.entry_tuple_add (PySem.F.args_tuple_add_2 _ _)
   (tuple_addW1 t b vs.toArray ws.toArray n n2 dd dd2 sl sl2 (by simpa using hv) (by simp [hw])) ⟨ho,ho2,h1 hw⟩
 ·refine concat_meets ⟨_,ho,rfl⟩ ⟨_,ho2,rfl⟩ noFill_tuple_add seq_tuple_add PySem.F.slot_tuple_add PySem.F.entry_tuple_add (PySem.F.args_tuple_add_2 _ _)
   (tuple_addW2 t b vs.toArray ws.toArray n n2 dd dd2 sl sl2 (by simpa using hv) (by simpa using hw) (by rw [List.size_toArray,List.size_toArray];exact hsz)) ⟨ho,ho2,?_⟩
  rw [e]
  exact h2 hw
def sIx (n d:Nat):Option Int→Nat
 | none=>d
 | some v=>if v < 0 then (v + (n:Int)).toNat else min v.toNat n
theorem sIx_le (n d:Nat)(hd:d≤n)(o:Option Int):sIx n d o≤n:=by
 cases o with
 | none=>exact hd
 | some v=>
  show (if v < 0 then (v + (n:Int)).toNat else min v.toNat n)≤n
  by_cases hv:v < 0
  ·rw [if_pos hv];omega
  ·rw [if_neg hv];exact Nat.min_le_right _ _
theorem qXz (v:Int)(n d:Nat):(if v < 0 then max (v + (n:Int)) 0 else min v (n:Int))=((sIx n d (some v):Nat):Int):=by
 show (if v < 0 then max (v + (n:Int)) 0 else min v (n:Int))=(((if v < 0 then (v + (n:Int)).toNat else min v.toNat n):Nat):Int)
 by_cases hv:v < 0
 ·simp only [if_pos hv];omega
 ·simp only [if_neg hv];omega
theorem qUh (lo hi:Option Int)(n:Nat):Builtin.Slice.sliceAdjust lo hi 1 (n:Int)=(((sIx n 0 lo:Nat):Int),((sIx n n hi:Nat):Int)):=by
 have h1:¬ ((1:Int) < 0):=by omega
 unfold Builtin.Slice.sliceAdjust
 simp only [h1,if_false]
 refine Prod.ext ?_ ?_
 ·cases lo with
  | none=>rfl
  | some v=>exact qXz v n 0
 ·cases hi with
  | none=>rfl
  | some v=>exact qXz v n n
theorem qTn (i j:Nat):Builtin.Slice.slicePlaces (i:Int) (j:Int) 1=j - i:=by
 unfold Builtin.Slice.slicePlaces
 have h1:(1:Int) > 0:=by omega
 simp only [h1,if_true,Int.ediv_one]
 split <;> omega
theorem qKt {v:Value}{o:Option Int}{Q:Option Int→Shared→Prop}(p:IsPart v o)(h:Q o s):wpAny #[18] A (Builtin.Slice.slicePartIndex v) Q E s:=by
 cases p with
 | none=>exact slicePart_none h
 | int i t=>exact slicePart_int h
theorem qEi {sl:Addr}{vl vu:Value}{lo hi:Option Int}{n:Nat}{Q:Int×Int×Nat→Shared→Prop}(hs:s.heap.IsSliceOf sl vl vu .none)(pl:IsPart vl lo)(pu:IsPart vu hi)
  (h:Q (((sIx n 0 lo:Nat):Int),1,sIx n n hi - sIx n 0 lo) s):wpAny #[18] A (Builtin.Slice.sliceApplied (.ref sl) (pure (n:Int))) Q E s:=by
 obtain ⟨os,hos,hcs,hds⟩:=id hs
 unfold Builtin.Slice.sliceApplied Builtin.Slice.sliceFields
 refine wpAny_bind (wpAny_bind (wpAny_field hos hds (x:=vl) rfl (wpAny_bind (wpAny_field hos hds (x:=vu) rfl (wpAny_bind (wpAny_field hos hds (x:=.none) rfl (wpAny_pure ?_)))))))
 refine wpAny_bind (slicePart_none ?_)
 show wpAny _ _ (if ((1:Int) == 0)=true then _ else _) _ _ s
 rw [if_neg #[4]]
 refine wpAny_bind (qKt pl (wpAny_bind (qKt pu (wpAny_bind (wpAny_pure ?_)))))
 show wpAny _ _ (match Builtin.Slice.sliceAdjust lo hi 1 (n:Int) with | (lo,hi)=>pure (lo,(1:Int),Builtin.Slice.slicePlaces lo hi 1)) _ _ s
 rw [qUh lo hi n]
 show wpAny _ _ (pure (((sIx n 0 lo:Nat):Int),(1:Int),Builtin.Slice.slicePlaces ((sIx n 0 lo:Nat):Int) ((sIx n n hi:Nat):Int) 1)) _ _ s
 rw [qTn]
 exact wpAny_pure h
theorem qZk (xs:Array Value)(i k:Nat):((List.range k).filterMap fun (m:Nat)=>xs[((i:Int) + (m:Int) * 1).toNat]?).toArray=((xs.toList.drop i).take k).toArray:=by
 have e:(fun (m:Nat)=>xs[((i:Int) + (m:Int) * 1).toNat]?)=fun m=>xs[i + m]?:=by
  funext m
  have:((i:Int) + (m:Int) * 1).toNat=i + m:=by omega
  rw [this]
 rw [e]
 have:=pick_run xs i k
 rw [List.filterMap_map] at this
 have e2:((fun x=>xs[x]?) ∘ fun x=>i + x)=fun m=>xs[i + m]?:=rfl
 rw [e2] at this
 rw [this]
theorem getItem_tuple_cut {t sl:Addr}{items:Array Value}{vl vu:Value}{lo hi:Option Int}{Q:Value→Shared→Prop}(ht:IsTup s.heap t items)(hs:s.heap.IsSliceOf sl vl vu .none)(pl:IsPart vl lo)(pu:IsPart vu hi)
  (hw:¬ (sIx items.size 0 lo=0∧sIx items.size items.size hi=items.size))
  (h:Q #[38] { s with heap:=s.heap.push { cls:=.type "tuple",data:=.seq ((items.toList.drop (sIx items.size 0 lo)).take (sIx items.size items.size hi - sIx items.size 0 lo)).toArray } })
  (hsz:items.size≤sizeLine):wpAny #[18] A (getItem (.ref t) (.ref sl)) Q E s:=by
 have htake:sizeOk (.seq ((items.toList.drop (sIx items.size 0 lo)).take (sIx items.size items.size hi - sIx items.size 0 lo)).toArray):=by
  show ((items.toList.drop (sIx items.size 0 lo)).take (sIx items.size items.size hi - sIx items.size 0 lo)).toArray.size≤sizeLine
  rw [List.size_toArray,List.length_take,List.length_drop,Array.length_toList]
  omega
 have hj:sIx items.size items.size hi≤items.size:=sIx_le _ _ #[10] hi
 obtain ⟨os,hos,hcs,hds⟩:=id hs
 have hTs:s.TypeIs (.ref sl) "slice":=⟨os,hos,hcs⟩
 unfold getItem
 try with_reducible refine wpAny_holding ?_
 first | refine wpAny_bind (wpAny_pure ?_) | skip
 refine wpAny_bind (wpAny_sequenceKey ht.typeIs #[4] ?_)
 refine wpAny_bind (wpAny_callSpecial?_slot (name:=Str.ofString "__getitem__") ht.typeIs PyProof.Rows.slot_tuple_getitem
  (wpAny_call_entry PyProof.Rows.slot_tuple_getitem ht.typeIs entry_tuple_getitem ?_ (args_tuple_getitem _ _)))
 show wpAny _ _ (Builtin.Tuple.tupleItemsOf (.ref t)>>=_) _ _ s
 refine wpAny_bind (tupleItemsOf_ ht ?_)
 refine wpAny_bind (wpAny_typeOf hTs ?_)
 rw [if_pos #[4]]
 refine wpAny_bind (qEi hs pl pu ?_)
 have hno:¬ (#[63]=true):=by
  intro q
  rw [Bool.and_eq_true,Bool.and_eq_true] at q
  have q1:((sIx items.size 0 lo:Nat):Int)=0:=eq_of_beq q.1.1
  have q2:sIx items.size items.size hi - sIx items.size 0 lo=items.size:=eq_of_beq q.2
  exact hw ⟨by omega,by omega⟩
 show wpAny _ _ (if #[63]=true then _ else _) _ _ s
 rw [if_neg hno,qZk]
 first
  | exact wpAny_bind (m:=Builtin.Tuple.tupleExact _) (wpAny_newObj_type (wpAny_pure ⟨_,rfl,wpAny_pure h⟩) htake)
  | exact wpAny_bind (m:=Builtin.Tuple.tupleExact _) (wpAny_newObj_type (wpAny_bind (wpAny_pure (wpAny_pure ⟨_,rfl,wpAny_pure h⟩))) htake)
  | exact wpAny_bind (wpAny_bind (m:=Builtin.Tuple.tupleExact _) (wpAny_newObj_type (wpAny_pure (wpAny_pure ⟨_,rfl,wpAny_pure h⟩)) htake))
  | exact wpAny_bind (wpAny_bind (m:=Builtin.Tuple.tupleExact _) (wpAny_newObj_type (wpAny_pure ⟨_,rfl,wpAny_pure h⟩) htake))
end
end HT
namespace L2
open PySem PySem.Spec PyProof.Rows
abbrev TO:=St→Hp→(Option Int→Hp→Prop)→Prop
def PO (X:Cx)(e:Option Expr)(t:TO):Prop:=
 ∀ (pins:List #[8]) (s:Shared) (σ:St) (H:Hp) (Q:Option Int→Hp→Prop),Inv X pins σ H s→t σ H Q→
  wpAny #[9] X.A (evalPart e X.env) (fun u s'=>∃ o H',Inv X pins σ H' s'∧IsPart u o∧Q o H') X.xe s
def qb4:TO:=fun _ H Q=>Q none H
def tPart (t:TE):TO:=fun σ H Q=>t σ H fun x H1=>∃ i,x=.int i∧Q (some i) H1
section
variable {X:Cx}{e:Expr}{te:TE}{lo hi:Option Expr}{tl th:TO}{pos p2:Pos}
theorem qc0:PO X none qb4:=by
 intro pins s σ H Q I h
 rw [evalPart_none]
 exact wpAny_pure ⟨none,H,I,.none,h⟩
theorem qcz (h:PE X e te):PO X (some e) (tPart te):=by
 intro pins s σ H Q I hw
 rw [evalPart_some]
 refine thn (h pins s σ H _ I hw) fun u s1 ⟨x,H1,I1,r1,q1⟩=>?_
 obtain ⟨i,rfl,q⟩:=q1
 obtain ⟨t,rfl⟩:=r1
 exact ⟨some i,H1,I1,.int i t,q⟩
def SlR (X:Cx)(r:V→Option Int→Option Int→Hp→VK→Prop):Prop:=
 ∀ (pins:List #[8]) (s:Shared) (σ:St) (H:Hp) (x:V) (v vl vu:Value) (lo hi:Option Int) (sl:Addr) (Q:VK),Inv X pins σ H s→RelV x v→s.heap.IsSliceOf sl vl vu .none→IsPart vl lo→IsPart vu hi→r x lo hi H Q→
  ∃ T id,typeLookup (.type T) "__getitem__"=pure (some (.builtin id))∧s.TypeIs v T∧wpAny #[9] X.A (getItem v (.ref sl)) (EP X pins σ Q) X.xe s
def tSl (r:V→Option Int→Option Int→Hp→VK→Prop)(te:TE)(tl th:TO):TE:=fun σ H Q=>te σ H fun x H1=>tl σ H1 fun l H2=>th σ H2 fun u H3=>r x l u H3 Q
theorem qZn {r:V→Option Int→Option Int→Hp→VK→Prop}(hr:SlR X r)(he:PE X e te)(hl:PO X lo tl)(hu:PO X hi th):PE X (.Subscript e (.Slice lo hi none p2) pos) (tSl r te tl th):=by
 intro pins s σ H Q I h
 refine Subscript_ (thn (he pins s σ H _ I h) fun v s1 ⟨x,H1,I1,r1,q1⟩=>?_)
 refine wpAny_Slice (thn (hl pins s1 σ H1 _ I1 q1) fun vl s2 ⟨l,H2,I2,pl,q2⟩=>thn (hu pins s2 σ H2 _ I2 q2) fun vu s3 ⟨u,H3,I3,pu,q3⟩=>?_)
 rw [evalPart_none]
 refine wpAny_pure ?_
 have I4:Inv X pins σ H3 { s3 with heap:=s3.heap.push { cls:=.type "slice",data:=.fields #[vl,vu,.none] } }:=I3.kept (t':=s3.toks) fun b ob q=>Heap.get?_push_of_some _ q
 obtain ⟨T,id,hT,ht,hg⟩:=hr pins { s3 with heap:=s3.heap.push { cls:=.type "slice",data:=.fields #[vl,vu,.none] } } σ H3 x v vl vu l u s3.heap.objs.size Q I4 r1 (Heap.IsSliceOf.new ..) pl pu q3
 show wpAny #[9] X.A (subscriptTail e (.Slice lo hi none p2) v (.ref s3.heap.objs.size)) (EP X pins σ Q) X.xe { s3 with heap:=s3.heap.push { cls:=.type "slice",data:=.fields #[vl,vu,.none] } }
 exact tail_any (ops:=[.ref s3.heap.objs.size,v]) ht hT hg (by with_unfolding_all rfl)
def qUb (xs:List V)(lo hi:Option Int):List V:=(xs.drop (HT.sIx xs.length 0 lo)).take (HT.sIx xs.length xs.length hi - HT.sIx xs.length 0 lo)
theorem qJ7 (xs:List V)(lo hi:Option Int):(qUb xs lo hi).length≤xs.length:=by
 unfold qUb
 rw [List.length_take,List.length_drop]
 omega
def rSlT (K:PySem.W.Frag):V→Option Int→Option Int→Hp→VK→Prop:=fun x lo hi H Q=>∃ a xs,x=.ref a∧SqT K H a xs∧
 ¬ (HT.sIx xs.length 0 lo=0∧HT.sIx xs.length xs.length hi=xs.length)∧∀ p,H p=none→Q (.ref p) (upd H p (.tup (qUb xs lo hi)))
theorem sl_tup:SlR X (rSlT X.K):=by
 intro pins s σ H x v vl vu lo hi sl Q I rx hs pl pu h
 obtain ⟨a,xs,rfl,hx,hw,q⟩:=h
 cases rx
 obtain ⟨its,r,ht,hz⟩:=I.tuple hx
 have hlen:its.toArray.size=xs.length:=by rw [List.size_toArray];exact r.length.symm
 refine ⟨"tuple",_,PyProof.Rows.slot_tuple_getitem.lookup,ht.typeIs,?_⟩
 refine HT.getItem_tuple_cut ht hs pl pu (by rw [hlen];exact hw) ?_ (by rw [hlen];exact hz)
 rw [hlen]
 refine ⟨.ref s.heap.objs.size,_,I.laid (t':=s.toks) (o:=.tup (qUb xs lo hi)) (fun b ob q=>Heap.get?_push_of_some _ q) #[10] ?_,rfl,q _ (I.hok.fresh #[10])⟩
 exact ⟨Nat.le_trans (qJ7 xs lo hi) hz,_,(r.drop (HT.sIx xs.length 0 lo)).take (HT.sIx xs.length xs.length hi - HT.sIx xs.length 0 lo),IsTup.new _ _⟩
def rCatT (K:PySem.W.Frag):R2:=fun x y H Q=>∃ a b xs ys,x=.ref a∧y=.ref b∧SqT K H a xs∧SqT K H b ys∧xs≠[]∧xs.length + ys.length≤sizeLine∧
 (ys=[]→Q (.ref a) H)∧(ys≠[]→∀ p,H p=none→Q (.ref p) (upd H p (.tup (xs++ys))))
theorem qBu.nil_iff {xs:List V}{us:List Value}(r:qBu xs us):us=[] ↔ xs=[]:=by
 cases r with
 | nil=>simp
 | cons _ _=>simp
theorem qc9:OpR X (binaryOp .Add) (rCatT X.K):=by
 intro pins s σ H x y v u Q I rx ry h
 obtain ⟨a,b,xs,ys,rfl,rfl,ha,hb,hx,hz,q1,q2⟩:=h
 cases rx
 cases ry
 obtain ⟨its,r1,p1,_⟩:=I.tuple ha
 obtain ⟨its2,r2,p2,_⟩:=I.tuple hb
 refine HT.cat_tup p1 p2 (fun z=>hx (r1.nil_iff.mp z)) (fun z=>⟨.ref a,H,I,rfl,q1 (r2.nil_iff.mp z)⟩) (fun z=>?_) (by rw [←r1.length,←r2.length];exact hz)
 refine ⟨.ref s.heap.objs.size,_,I.laid (t':=s.toks) (o:=.tup (xs++ys)) (fun b ob q=>Heap.get?_push_of_some _ q) #[10] ?_,rfl,q2 (fun w=>z (r2.nil_iff.mpr w)) _ (I.hok.fresh #[10])⟩
 exact ⟨by rw [List.length_append];exact hz,_,r1.append r2,IsTup.new _ _⟩
end
open PySem PySem.Spec PyProof.Rows
def ixN (n:Nat)(i:Int):Option Nat:=if 0≤i then (if i < n then some i.toNat else none) else if -(n:Int)≤i then some (i + n).toNat else none
def atI {α:Type}(xs:List α)(i:Int):Option α:=(ixN xs.length i).bind fun j=>xs[j]?
theorem qdl {n:Nat}{i:Int}{j:Nat}(h:ixN n i=some j):seqIndex? i n=some j∧j < n∧-(n:Int)≤i∧i < n:=by
 unfold ixN at h
 by_cases h0:0≤i
 ·rw [if_pos h0] at h
  by_cases h1:i < n
  ·rw [if_pos h1] at h
   have e:i.toNat=j:=Option.some.inj h
   exact ⟨by rw [seqIndex_of h0 h1,e],by omega,by omega,h1⟩
  ·rw [if_neg h1] at h;cases h
 ·rw [if_neg h0] at h
  by_cases h1:-(n:Int)≤i
  ·rw [if_pos h1] at h
   have e:(i + n).toNat=j:=Option.some.inj h
   exact ⟨by rw [seqIndex_neg #[0] h1,e],by omega,h1,by omega⟩
  ·rw [if_neg h1] at h;cases h
theorem qQ6 {α:Type}{xs:List α}{i:Int}{v:α}(h:atI xs i=some v):∃ j,seqIndex? i xs.length=some j∧xs[j]?=some v∧j < xs.length∧-(xs.length:Int)≤i∧i < xs.length:=by
 unfold atI at h
 cases e:ixN xs.length i with
 | none=>rw [e] at h;cases h
 | some j=>
  rw [e] at h
  obtain ⟨h1,h2,h3,h4⟩:=qdl e
  exact ⟨j,h1,h,h2,h3,h4⟩
def qX9 (b:Expr):Prop:=∀ o i,subscripted b false o i=operate [o,i] (getItem o i)
def IxR (X:Cx)(r:R2):Prop:=
 ∀ (value slice:Expr) (pins:List #[8]) (s:Shared) (σ:St) (H:Hp) (x y:V) (v u:Value) (Q:VK),Inv X pins σ H s→RelV x v→RelV y u→r x y H Q→
  subscripted slice false v u=operate [v,u] (getItem v u)→wpAny #[9] X.A (subscriptTail value slice v u) (EP X pins σ Q) X.xe s
def MtR (X:Cx)(id:String)(r:V→List V→Hp→VK→Prop):Prop:=
 ∀ (pins:List #[8]) (s:Shared) (σ:St) (H:Hp) (x:V) (xs:List V) (v:Value) (us:List Value) (Q:VK),Inv X pins σ H s→RelV x v→qBu xs us→r x xs H Q→
  wpAny #[9] X.A (call (.builtin id) (v::us)) (EP X pins σ Q) X.xe s
section
variable {X:Cx}{a b:Expr}{ta tb:TE}{pos:Pos}
theorem pe_ix {r:R2}(hr:IxR X r)(ha:PE X a ta)(hb:PE X b tb)(hs:qX9 b):PE X (.Subscript a b pos) (tOp r ta tb):=by
 intro pins s σ H Q I h
 exact Subscript_ (binT ha hb I h fun v u s2 x y H2 I2 rx ry q=>hr a b pins s2 σ H2 x y v u Q I2 rx ry q (hs _ _))
def rIxL (K:PySem.W.Frag):R2:=fun x y H Q=>∃ p xs i v,x=.ref p∧y=.int i∧SqL K H p xs∧atI xs i=some v∧Q v H
def rIxT (K:PySem.W.Frag):R2:=fun x y H Q=>∃ p xs i v,x=.ref p∧y=.int i∧SqT K H p xs∧atI xs i=some v∧Q v H
def rIxS:R2:=fun x y H Q=>∃ z i c,x=.str z∧y=.int i∧z.length≤sizeLine∧atI z.cps.toList i=some c∧Q (.str ⟨#[c]⟩) H
theorem qdi:IxR X (rIxL X.K):=by
 intro value slice pins s σ H x y v u Q I rx ry h hs
 obtain ⟨p,xs,i,z,rfl,rfl,hq,he,q⟩:=h
 cases rx
 obtain ⟨t,rfl⟩:=ry
 obtain ⟨its,r,pl,hz⟩:=I.list hq
 obtain ⟨j,h1,h2,h3,h4,h5⟩:=qQ6 he
 obtain ⟨w,ew,rw'⟩:=r.get h2
 have hl:=r.length
 have hn:=qJu
 have fin:EP X pins σ Q w s:=⟨z,H,I,rw',q⟩
 by_cases h0:0≤i
 ·have hj:i.toNat=j:=by
   rw [seqIndex_of h0 h5] at h1
   exact Option.some.inj h1
  exact item_listR pl.isList h0 #[0] (by rw [hj];simpa using ew) fin hs
 ·have hj:(i + (its.toArray.size:Int)).toNat=j:=by
   rw [seqIndex_neg #[0] h4] at h1
   rw [List.size_toArray,←hl]
   exact Option.some.inj h1
  exact subscriptTail_builtinR (x:=w) pl.isList.typeIs slot_list_getitem.lookup
   (wpAny_getItem_list_neg (Q:=fun r s'=>r=w∧EP X pins σ Q r s') pl.isList #[0] (by rw [List.size_toArray] <;> omega) #[0] (by rw [hj];simpa using ew) ⟨rfl,fin⟩) hs
theorem ix_tup:IxR X (rIxT X.K):=by
 intro value slice pins s σ H x y v u Q I rx ry h hs
 obtain ⟨p,xs,i,z,rfl,rfl,hq,he,q⟩:=h
 cases rx
 obtain ⟨t,rfl⟩:=ry
 obtain ⟨its,r,pl,hz⟩:=I.tuple hq
 obtain ⟨j,h1,h2,h3,h4,h5⟩:=qQ6 he
 obtain ⟨w,ew,rw'⟩:=r.get h2
 have hl:=r.length
 have hn:=qJu
 have fin:EP X pins σ Q w s:=⟨z,H,I,rw',q⟩
 exact subscriptTail_builtinR (x:=w) pl.typeIs slot_tuple_getitem.lookup
  (getItem_tuple (j:=j) (Q:=fun r s'=>r=w∧EP X pins σ Q r s') pl #[0] #[0] (by rw [List.size_toArray,←hl];exact h1) (by simpa using ew) ⟨rfl,fin⟩) hs
theorem ix_str:IxR X rIxS:=by
 intro value slice pins s σ H x y v u Q I rx ry h hs
 obtain ⟨z,i,c,rfl,rfl,hz,he,q⟩:=h
 obtain ⟨t,rfl⟩:=rx
 obtain ⟨t',rfl⟩:=ry
 obtain ⟨j,h1,h2,h3,h4,h5⟩:=qQ6 he
 have hl:z.cps.toList.length=z.length:=by simp [Str.length]
 rw [hl] at h1 h4 h5
 have hn:=qJu
 exact tail_any (typeIs_str s z t) slot_str_getitem.lookup (getItem_str (c:=c) (by
  have e1:decide (i < -(2 ^ 63:Int))=false:=decide_eq_false #[0]
  have e2:decide (i ≥ 2 ^ 63)=false:=decide_eq_false #[0]
  rw [e1,e2,Bool.or_false]) (by rw [h1];simpa using h2) ⟨.str ⟨#[c]⟩,H,I.tok _,⟨_,rfl⟩,q⟩) hs
theorem Inv.lst {pins:List #[8]}{σ:St}{H:Hp}{s:Shared}{p:Addr}{xs:List V}(I:Inv X pins σ H s)(h:H p=some (.lst xs)) :
  ∃ (its:List Value) (n:Nat),qBu xs its∧s.heap.get? p=some { cls:=.type "list",data:=.seq its.toArray n }∧xs.length≤sizeLine:=by
 obtain ⟨z,its,n,r,e⟩:=I.hok p _ h
 exact ⟨its,n,r,e,z⟩
theorem qNl (lo hi:Option Int)(n:Nat):(sliceBounds lo hi none n).1=((HT.sIx n 0 lo:Nat):Int)∧(sliceBounds lo hi none n).2.1=((HT.sIx n n hi:Nat):Int)∧(sliceBounds lo hi none n).2.2=1:=by
 refine ⟨?_,?_,rfl⟩
 ·cases lo with
  | none=>simp [sliceBounds,HT.sIx]
  | some i=>
   simp only [sliceBounds,HT.sIx,Option.getD_none,show (1:Int) > 0 by decide,if_true]
   by_cases h:i < 0
   ·simp only [h,if_true] <;> omega
   ·simp only [h,if_false] <;> omega
 ·cases hi with
  | none=>simp [sliceBounds,HT.sIx]
  | some i=>
   simp only [sliceBounds,HT.sIx,Option.getD_none,show (1:Int) > 0 by decide,if_true]
   by_cases h:i < 0
   ·simp only [h,if_true] <;> omega
   ·simp only [h,if_false] <;> omega
theorem qL8 (its:List Value)(lo hi:Option Int):slicePick its.toArray lo hi none=((its.drop (HT.sIx its.length 0 lo)).take (HT.sIx its.length its.length hi - HT.sIx its.length 0 lo)).toArray:=by
 obtain ⟨h1,h2,h3⟩:=qNl lo hi its.toArray.size
 unfold slicePick
 rw [h1,h2,h3]
 simp only [sliceRange_one,pick_run,List.size_toArray] <;> rfl
def rSlL (K:PySem.W.Frag):V→Option Int→Option Int→Hp→VK→Prop:=fun x lo hi H Q=>∃ a xs,x=.ref a∧SqL K H a xs∧∀ p,H p=none→Q (.ref p) (upd H p (.lst (qUb xs lo hi)))
theorem qca:SlR X (rSlL X.K):=by
 intro pins s σ H x v vl vu lo hi sl Q I rx hs pl pu h
 obtain ⟨a,xs,rfl,hx,q⟩:=h
 cases rx
 obtain ⟨its,r,ht,hz⟩:=I.list hx
 have hlen:=r.length
 refine ⟨"list",_,slot_list_getitem.lookup,ht.isList.typeIs,?_⟩
 refine wpAny_getItem_list_slice ht.isList hs pl pu .none #[6] ?_ (by rw [List.size_toArray] <;> omega)
 rw [qL8,←hlen]
 refine ⟨.ref s.heap.objs.size,_,I.laid (t':=s.toks) (o:=.lst (qUb xs lo hi)) (fun b ob q=>Heap.get?_push_of_some _ q) #[10] ?_,rfl,q _ (I.hok.fresh #[10])⟩
 exact ⟨Nat.le_trans (qJ7 xs lo hi) hz,_,0,(r.drop (HT.sIx xs.length 0 lo)).take (HT.sIx xs.length xs.length hi - HT.sIx xs.length 0 lo),Heap.get?_push_size _ rfl⟩
theorem qPq:qEh X (.builtin "len") (fun xs H Q=>∃ p ys,xs=[.ref p]∧(SqL X.K H p ys∨SqT X.K H p ys)∧Q (.int ys.length) H):=by
 intro pins s σ H xs us Q I r h
 obtain ⟨p,ys,rfl,hq,q⟩:=h
 obtain ⟨u,rfl,rx⟩:=qP7 r
 cases rx
 have hn:=qJu
 rcases hq with hq | hq
 ·obtain ⟨its,r',pl,hz⟩:=I.list hq
  have hlen:=r'.length
  exact Calls.call_len_list pl.isList (by simp only [List.size_toArray] <;> omega) ⟨.int ys.length,H,I.tok _,⟨s.toks + 1,by rw [List.size_toArray,hlen]⟩,q⟩
 ·obtain ⟨its,r',pl,hz⟩:=I.tuple hq
  have hlen:=r'.length
  exact len_tuple pl (by simp only [List.size_toArray] <;> omega) ⟨.int ys.length,H,I.tok _,⟨s.toks + 1,by rw [List.size_toArray,hlen]⟩,q⟩
theorem qPp:qEh X (.builtin "len") (fun xs H Q=>∃ z,xs=[.str z]∧z.length≤sizeLine∧Q (.int z.length) H):=by
 intro pins s σ H xs us Q I r h
 obtain ⟨z,rfl,hz,q⟩:=h
 obtain ⟨u,rfl,t,rfl⟩:=qP7 r
 have hn:=qJu
 exact len_str #[0] ⟨.int z.length,H,I.tok _,⟨_,rfl⟩,q⟩
theorem qPo:qEh X (.type "list") (fun xs H Q=>∃ p ys,xs=[.ref p]∧(SqL X.K H p ys∨SqT X.K H p ys)∧∀ l,H l=none→Q (.ref l) (upd H l (.lst ys))):=by
 intro pins s σ H xs us Q I r h
 obtain ⟨p,ys,rfl,hq,q⟩:=h
 obtain ⟨u,rfl,rx⟩:=qP7 r
 cases rx
 have fin:∀ (its:List Value),qBu ys its→ys.length≤sizeLine→∀ (h':Heap) (c':Nat),(∀ b o',s.heap.get? b=some o'→h'.get? b=some o')→
   h'.get? s.heap.objs.size=some { cls:=.type "list",dict:=none,data:=.seq its.toArray c',slots:=#[] }→EP X pins σ Q #[38] { s with heap:=h' }:=fun its r' hz h' c' kp e=>
  ⟨.ref s.heap.objs.size,_,I.laid (t':=s.toks) kp #[10] (show qB7 X.prog X.w _ h' _ (.lst ys) from ⟨hz,its,c',r',e⟩),rfl,q _ (I.hok.fresh #[10])⟩
 rcases hq with hq | hq
 ·obtain ⟨its,r',pl,hz⟩:=I.list hq
  have hlen:=r'.length
  obtain ⟨o,ho,hc,n,hd⟩:=pl.isList
  exact call_list_seq p (.inl rfl) ho hc hd (fun h' c' kp e=>fin its r' hz h' c' kp e) (by simp only [List.size_toArray] <;> omega)
 ·obtain ⟨its,r',pl,hz⟩:=I.tuple hq
  have hlen:=r'.length
  obtain ⟨o,ho,hc,n,hd⟩:=pl
  exact call_list_seq p (.inr rfl) ho hc hd (fun h' c' kp e=>fin its r' hz h' c' kp e) (by simp only [List.size_toArray] <;> omega)
theorem qG6:qEh X (.type "tuple") (fun xs H Q=>∃ p ys,xs=[.ref p]∧((SqL X.K H p ys∧∀ l,H l=none→Q (.ref l) (upd H l (.tup ys)))∨(SqT X.K H p ys∧Q (.ref p) H))):=by
 intro pins s σ H xs us Q I r h
 obtain ⟨p,ys,rfl,h⟩:=h
 obtain ⟨u,rfl,rx⟩:=qP7 r
 cases rx
 rcases h with ⟨hq,q⟩ | ⟨hq,q⟩
 ·obtain ⟨its,r',pl,hz⟩:=I.list hq
  have hlen:=r'.length
  refine call_tuple_list pl.isList (fun h' kp=>?_) (by simp only [List.size_toArray] <;> omega)
  have I1:Inv X pins σ H { s with heap:=h' }:=I.kept (t':=s.toks) kp
  have I2:Inv X pins σ (upd H h'.objs.size (.tup ys)) { s with heap:=h'.push { cls:=.type "tuple",data:=.seq its.toArray } }:=
   I1.laid (t':=s.toks) (fun b o e=>Heap.get?_push_of_some _ e) #[10] (show qB7 X.prog X.w _ _ _ (.tup ys) from ⟨hz,its,r',IsTup.new _ _⟩)
  exact ⟨.ref h'.objs.size,_,I2,rfl,q _ (I1.hok.fresh #[10])⟩
 ·obtain ⟨its,r',pl,hz⟩:=I.tuple hq
  exact call_tuple_same pl ⟨.ref p,H,I,rfl,q⟩
def tyV (K:PySem.W.Frag)(T:String)(x:V)(H:Hp):Prop:=match x with
 | .str _=>T="str"
 | .int _=>T="int"
 | .ref p=>(T="list"∧∃ xs,SqL K H p xs)∨(T="tuple"∧∃ o,K.lookup p=some o∧o.cls=.type "tuple"∧o.dict=none)∨
   (T="dict"∧((∃ kvs,H p=some (.dK kvs))∨∃ kvs,H p=some (.dT kvs)))∨(T="set"∧∃ S n,H p=some (.set S n))
 | _=>False
theorem qa5 {pins:List #[8]}{σ:St}{H:Hp}{s:Shared}{T:String}{x:V}{v:Value}(I:Inv X pins σ H s)(r:RelV x v)(ty:tyV X.K T x H) :
  s.TypeIs v T∧∀ a,v=.ref a→∃ ob,s.heap.get? a=some ob∧ob.dict=none:=by
 cases x with
 | str z=>
  obtain ⟨t,rfl⟩:=r
  cases (show T="str" from ty)
  exact ⟨typeIs_str s z t,fun _ e=>nomatch e⟩
 | int i=>
  obtain ⟨t,rfl⟩:=r
  cases (show T="int" from ty)
  exact ⟨typeIs_int s i t,fun _ e=>nomatch e⟩
 | ref p=>
  cases r
  rcases ty with ⟨rfl,xs,hq⟩ | ⟨rfl,o,hk,hc,hd⟩ | ⟨rfl,hk⟩ | ⟨rfl,S,n,hk⟩
  ·obtain ⟨its,_,pl,_⟩:=I.list hq
   refine ⟨pl.isList.typeIs,fun a e=>?_⟩
   cases e
   obtain ⟨o,n,e,c,hd,_⟩:=pl
   exact ⟨o,e,hd⟩
  ·refine ⟨⟨o,I.kIn p o hk,hc⟩,fun a e=>?_⟩
   cases e
   exact ⟨o,I.kIn _ o hk,hd⟩
  ·have z:∃ o,s.heap.get? p=some o∧o.ExactDict:=by
    rcases hk with ⟨kvs,hk⟩ | ⟨kvs,hk⟩
    ·obtain ⟨_,_,_,_,o,_,_,e,ex,_⟩:=I.hok p _ hk
     exact ⟨o,e,ex⟩
    ·obtain ⟨_,_,_,_,o,_,_,e,ex,_⟩:=I.hok p _ hk
     exact ⟨o,e,ex⟩
   obtain ⟨o,e,ex⟩:=z
   refine ⟨⟨o,e,ex.1⟩,fun a e2=>?_⟩
   cases e2
   exact ⟨o,e,ex.2.1⟩
  ·obtain ⟨o,_,_,_,e,ex,_⟩:=I.hok p _ hk
   refine ⟨⟨o,e,ex.1⟩,fun a e2=>?_⟩
   cases e2
   exact ⟨o,e,ex.2.1⟩
 | _=>exact False.elim ty
def tBM0 (K:PySem.W.Frag)(T:String)(r:V→List V→Hp→VK→Prop)(to:TE):TE:=fun σ H Q=>to σ H fun x H1=>tyV K T x H1∧r x [] H1 Q
def tBM (K:PySem.W.Frag)(T:String)(r:V→List V→Hp→VK→Prop)(to:TE)(t:TA):TE:=fun σ H Q=>to σ H fun x H1=>tyV K T x H1∧t σ H1 fun xs H2=>r x xs H2 Q
variable {o e:Expr}{es:List Expr}{to:TE}{t:TA}{name:Str}{apos cpos:Pos}{T id:String}{r:V→List V→Hp→VK→Prop}
theorem pe_bm0 (pa:PlainAttrs T)(slot:Slot T name id)(hty:typeOf (.builtin id)=pure (.type "method_descriptor"))(hm:MtR X id r)(ho:PE X o to)
  (hbase:attributeBase o name X.env (eval o X.env)=eval o X.env:=by rfl) (hline:(apos.endLine == cpos.line)=true:=by rfl):PE X (.Call (.Attribute o name apos) [] [] cpos) (tBM0 X.K T r to):=by
 intro pins s σ H Q I h
 refine wpAny_Call_method0_late hbase hline (thn (ho pins s σ H _ I h) fun v s1 ⟨x,H1,I1,r1,ty,q1⟩=>?_)
 obtain ⟨h1,h2⟩:=qa5 I1 r1 ty
 exact ⟨T,id,pa,slot,hty,h1,h2,Calls.callWith_builtin rfl (PySem.evalArgs_none (hm pins s1 σ H1 x [] v [] Q I1 r1 .nil q1))⟩
theorem qVy (pa:PlainAttrs T)(slot:Slot T name id)(hty:typeOf (.builtin id)=pure (.type "method_descriptor"))(hm:MtR X id r)(ho:PE X o to)(ha:PA X (e::es) t)
  (hbase:attributeBase o name X.env (eval o X.env)=eval o X.env:=by rfl)
  (hfew:((backTo cpos (starEach (e::es) X.env)).all (fun x=>!x.1) && #[55].all (fun x=>x.1.isSome)
   && decide ((e::es).length + ([]:List Keyword).length + (if ([]:List Keyword).isEmpty then 0 else 1) < 30))=true:=by rfl)
  (hline:(apos.endLine == cpos.line)=true:=by rfl) (hs:starEach (e::es) X.env=#[22]::starEach es X.env:=by rfl) (hplain:(backTo cpos (starEach es X.env)).any (·.1)=false:=by rfl) :
  PE X (.Call (.Attribute o name apos) (e::es) [] cpos) (tBM X.K T r to t):=by
 intro pins s σ H Q I h
 refine wpAny_Call_method_late hbase hfew hline rfl (thn (ho pins s σ H _ I h) fun v s1 ⟨x,H1,I1,r1,ty,q1⟩=>?_)
 obtain ⟨h1,h2⟩:=qa5 I1 r1 ty
 refine ⟨T,id,pa,slot,hty,h1,h2,?_⟩
 have hA:=ha cpos pins s1 σ H1 _ I1 q1
 rw [hs] at hA ⊢
 refine Calls.callWith_builtin (by show (false || (backTo cpos (starEach es X.env)).any (·.1))=false;rw [hplain] <;> rfl) (Calls.evalArgs_plain ?_)
 exact thn hA fun us s2 ⟨vs,H2,I2,r2,q2⟩=>hm pins s2 σ H2 x vs v us Q I2 r1 r2 q2
end
open PySem PySem.Spec PyProof.Rows
def MtM (X:Cx)(id:String)(r:V→List V→Hp→VK→Prop):Prop:=
 ∀ (pins:List #[8]) (s:Shared) (σ:St) (H:Hp) (x:V) (xs:List V) (v:Value) (us:List Value) (Q:VK),Inv X pins σ H s→RelV x v→qBu xs us→r x xs H Q→
  wpAny #[9] X.A (call (.builtin id) (v::us)) (EP X pins σ Q) X.xe s
theorem qBu.one:∀ {x:V} {us:List Value},qBu [x] us→∃ u,us=[u]∧RelV x u
 | _,_,.cons r .nil=>⟨_,rfl,r⟩
theorem qBu.two:∀ {x y:V} {us:List Value},qBu [x,y] us→∃ u v,us=[u,v]∧RelV x u∧RelV y v
 | _,_,_,.cons r (.cons q .nil)=>⟨_,_,rfl,r,q⟩
theorem qBu.zero:∀ {us:List Value},qBu [] us→us=[]
 | _,.nil=>rfl
theorem qBu.dropLast {xs:List V}{us:List Value}(h:qBu xs us):qBu xs.dropLast us.dropLast:=by
 induction h with
 | nil=>exact .nil
 | cons r t ih=>
  cases t with
  | nil=>exact .nil
  | cons q t'=>exact .cons r ih
theorem qBu.eraseIdx:∀ {xs:List V} {us:List Value} (i:Nat),qBu xs us→qBu (xs.eraseIdx i) (us.eraseIdx i)
 | _,_,_,.nil=>.nil
 | _,_,0,.cons _ t=>t
 | _,_,i + 1,.cons r t=>.cons r (qBu.eraseIdx i t)
theorem qBu.reverse {xs:List V}{us:List Value}(h:qBu xs us):qBu xs.reverse us.reverse:=by
 induction h with
 | nil=>exact .nil
 | cons r t ih=>rw [List.reverse_cons,List.reverse_cons];exact qBu.append ih (.cons r .nil)
theorem qBu.rep {xs:List V}{us:List Value}(h:qBu xs us):∀ k:Nat,qBu (List.replicate k xs).flatten (List.replicate k us).flatten
 | 0=>.nil
 | k + 1=>by
  rw [List.replicate_succ,List.replicate_succ,List.flatten_cons,List.flatten_cons]
  exact qBu.append h (qBu.rep h k)
theorem qT9 {α:Type}(l:List α):l.eraseIdx (l.length - 1)=l.dropLast:=by
 induction l with
 | nil=>rfl
 | cons a r ih=>
  cases r with
  | nil=>rfl
  | cons b r=>
   have e:(a::b::r).length - 1=((b::r).length - 1) + 1:=by
    have h1:(a::b::r).length=r.length + 2:=rfl
    have h2:(b::r).length=r.length + 1:=rfl
    omega
   rw [e,List.eraseIdx_cons_succ,ih]
   all_goals rfl
section
variable {X:Cx}{pins:List (Addr×Obj)}{σ:St}{H:Hp}{s:Shared}{l b:Addr}{xs ys zs:List V}
theorem Inv.lset {its its':List Value}{n:Nat}{f:Array Value→Array Value}{t':Nat}(I:Inv X pins σ H s)(hH:H l=some (.lst xs))
  (e:s.heap.get? l=some { cls:=.type "list",data:=.seq its.toArray n }) (hf:f its.toArray=its'.toArray) (hv:qBu ys its') (hz:ys.length≤sizeLine) :
  Inv X pins σ (upd H l (.lst ys)) { s with heap:=s.heap.update l (Obj.mapSeq f),toks:=t' }:=by
 have q:=PySem.IsL.update e f
 rw [hf] at q
 refine I.write (x:=l) (e:=l) (by rw [hH];exact trivial) (.inl rfl) (fun b' u hb hu=>(Heap.get?_update_other s.heap (Obj.mapSeq f) (Ne.symm hb)).trans hu) ⟨_,q⟩ ?_
 exact ⟨hz,its',_,hv,q⟩
theorem Inv.lnew {its:List Value}{t':Nat}(I:Inv X pins σ H s)(hv:qBu ys its)(hz:ys.length≤sizeLine) :
  Inv X pins σ (upd H s.heap.objs.size (.lst ys)) { s with heap:=s.heap.push { cls:=.type "list",data:=.seq its.toArray },toks:=t' }:=
 I.laid (fun _ _ q=>Heap.get?_push_of_some _ q) #[10] ⟨hz,its,0,hv,Heap.get?_push_size _ rfl⟩
theorem Inv.fresh (I:Inv X pins σ H s):H s.heap.objs.size=none:=I.hok.fresh #[10]
theorem Inv.lstM (I:Inv X pins σ H s)(hH:H l=some (.lst xs)):xs.length≤sizeLine∧∃ (its:List Value) (n:Nat),qBu xs its∧xs.length=its.length∧s.heap.get? l=some { cls:=.type "list",data:=.seq its.toArray n }:=by
 obtain ⟨z,its,n,r,e⟩:=I.hok l _ hH
 exact ⟨z,its,n,r,r.length,e⟩
theorem qZu {n:Nat}(h:n≤sizeLine):Builtin.List.listTooLong n=false:=by
 unfold Builtin.List.listTooLong
 exact decide_eq_false #[0]
end
section
variable {X:Cx}
def qck:V→List V→Hp→VK→Prop:=fun x vs H Q=>∃ l xs y,x=.ref l∧vs=[y]∧H l=some (.lst xs)∧xs.length < sizeLine∧Q .non (upd H l (.lst (xs++[y])))
theorem qOl:MtM X "list.append" qck:=by
 intro pins s σ H x vs v us Q I rx rv h
 obtain ⟨l,xs,y,rfl,rfl,hH,hz,q⟩:=h
 cases rx
 obtain ⟨u,rfl,ru⟩:=rv.one
 obtain ⟨z,its,n,r,hl,e⟩:=I.lstM hH
 refine call_meets F.slot_list_append ⟨_,e,rfl⟩ F.entry_list_append (F.args_list_append_2 _ _) (PySem.list_append l its.toArray n u (by rw [List.size_toArray];omega)) ⟨e,?_⟩
 refine ⟨.non,_,I.lset (its':=its++[u]) hH e #[6] (r.append (.cons ru .nil)) ?_,rfl,q⟩
 rw [List.length_append,List.length_singleton]
 omega
def qcj:V→List V→Hp→VK→Prop:=fun x vs H Q=>∃ l b xs zs,x=.ref l∧vs=[.ref b]∧H l=some (.lst xs)∧H b=some (.lst zs)∧xs.length + zs.length≤sizeLine∧Q .non (upd H l (.lst (xs++zs)))
theorem qWc:MtM X "list.extend" qcj:=by
 intro pins s σ H x vs v us Q I rx rv h
 obtain ⟨l,b,xs,zs,rfl,rfl,hH,hB,hz,q⟩:=h
 cases rx
 obtain ⟨u,rfl,ru⟩:=rv.one
 cases ru
 obtain ⟨z,its,n,r,hl,e⟩:=I.lstM hH
 obtain ⟨z2,its2,n2,r2,hl2,e2⟩:=I.lstM hB
 have hsz:its.toArray.size + its2.toArray.size≤sizeLine:=by rw [List.size_toArray,List.size_toArray];omega
 have hlong:¬ (!its.toArray.isEmpty && Builtin.List.listTooLong (its.toArray.size + its2.toArray.size))=true:=by
  rw [qZu hsz,Bool.and_false]
  exact Bool.false_ne_true
 refine call_meets F.slot_list_extend ⟨_,e,rfl⟩ F.entry_list_extend (F.args_list_extend_2 _ _)
  (AutoSeq1.list_extend_list_list_0 l its.toArray n b its2.toArray n2 hlong (by rw [List.size_toArray];omega) #[0]) ⟨e,e2,?_⟩
 refine ⟨.non,_,I.lset (its':=its++its2) hH e #[6] (r.append r2) ?_,rfl,q⟩
 rw [List.length_append]
 omega
def rPop:V→List V→Hp→VK→Prop:=fun x vs H Q=>∃ l xs y,x=.ref l∧vs=[]∧H l=some (.lst xs)∧xs[xs.length - 1]?=some y∧Q y (upd H l (.lst xs.dropLast))
theorem mt_pop:MtM X "list.pop" rPop:=by
 intro pins s σ H x vs v us Q I rx rv h
 obtain ⟨l,xs,y,rfl,rfl,hH,hy,q⟩:=h
 cases rx
 have hus:=rv.zero
 subst hus
 obtain ⟨z,its,n,r,hl,e⟩:=I.lstM hH
 obtain ⟨u,hu,ru⟩:=r.get hy
 have hy':its.toArray[its.toArray.size - 1]?=some u:=by
  show its.toArray[its.length - 1]?=some u
  rw [←Array.getElem?_toList,←hl]
  exact hu
 refine call_meets F.slot_list_pop ⟨_,e,rfl⟩ F.entry_list_pop (F.args_list_pop_1 _) (MeetsSeq.list_pop_last l its.toArray n u hy' (by rw [List.size_toArray];omega)) ⟨e,?_⟩
 refine ⟨y,_,I.lset (its':=its.dropLast) hH e ?_ r.dropLast ?_,ru,q⟩
 ·show its.toArray.eraseIdxIfInBounds (its.toArray.size - 1)=its.dropLast.toArray
  rw [List.size_toArray,List.eraseIdxIfInBounds_toArray,qT9]
 ·rw [List.length_dropLast]
  omega
end
section
variable {prog:Program}{w:World}{A:Around}{E:Value→Shared→Prop}{s:Shared}
set_option maxRecDepth 100000 in
end
section
variable {X:Cx}
end
end L2
namespace Att
open PySem PySem.W PySem.Calls PyProof.Rows
theorem qJy {P:Params}{h:Heap}:∀ (ns:List Int) (vs:List Value),WellAll P h vs (ns.map WData.int)→IntsAre vs ns:=by
 intro ns
 induction ns with
 | nil=>
  intro vs w
  rw [List.map_nil] at w
  cases w
  exact .nil
 | cons n ns ih=>
  intro vs w
  rw [List.map_cons] at w
  cases w with
  | cons a b=>
   cases a
   exact .cons _ _ (ih _ b)
theorem qUv {l:OpenLaw}{n:Nat}(hn:l.most=some n){P:Params}{h:Heap}{args:List WData}{vals:List Value}
  (hpre:l.row.toRowW.claim.pre args=true) (hwl:WellAll P h vals args) :
  ∃ a vs ns,vals=[Value.ref a]∧args=[WData.list (ns.map WData.int)]∧h.get? a=some { cls:=.type "list",data:=.seq vs.toArray }∧IntsAre vs ns∧ns.length≤n:=by
 have hsh:WShape.hasAll [] args [.list .int]=true:=(pre_splitW hpre).1
 have hc:l.pre.holds [] { args:=args }=true:=(pre_splitW hpre).2
 obtain ⟨d,r,rfl,h1,h2⟩:=hasAllW_cons hsh
 obtain rfl:=hasAllW_nil h2
 obtain ⟨xs,rfl,h3⟩:=hasW_list h1
 obtain ⟨ns,rfl⟩:=items_int h3
 have hlen:ns.length≤n:=by
  unfold OpenLaw.pre at hc
  have h4:(WTm.not (.lt (.lit (.int (n:Int))) (.len (.arg 0)))).holds [] { args:=[.list (ns.map .int)] }=true:=by
   have h4:=(holds_andW hc).1
   rw [hn] at h4
   exact h4
  have h5:=condW_of h4 (w_not (w_lt w_lit (w_len_list (w_arg rfl))))
  rw [List.length_map] at h5
  refine Nat.le_of_not_lt fun q=>?_
  have q':(n:Int) < ((ns.length:Nat):Int):=by omega
  first
   | (rw [decide_eq_true q'] at h5;exact absurd h5 (by decide))
   | (simp at h5;omega)
 cases hwl with
 | cons w1 w2=>
  cases w2
  cases w1 with
  | list ho hall=>exact ⟨_,_,ns,rfl,rfl,ho,qJy ns _ hall,hlen⟩
theorem qVv (l:OpenLaw)(args:List WData):l.row.toRowW.claim.post args (.bool true) args=true:=
 postW_of (r:=l.row.toRowW) (X:=(true == true))
  (show WShape.has [] (.bool true) .bool=true by first | rfl | decide | simp [WShape.has,WShape.arms,WShape.armsAll])
  (show (WTm.eq .res (.lit (.bool true))).value [] { args:=args,res:=some (.bool true),after:=args }=some (.bool (true == true)) from w_eq_bool (w_res rfl) w_lit) rfl
theorem attach_call {l:OpenLaw}{n:Nat}{q:Program}{loose:List Str}{XP:(Str→Option Value)→Heap→Prop}{YP:World→Heap→Prop}{d:DefRec}
  (hn:l.most=some n) (hdf:d.params.defaults=[])
  (call:∀ (w:World) (s₀ s₁:Shared) (mg mb:Str→Option Value) (fa:Addr) (o:Obj) (pm cd doc:Value) (a:Addr) (vs:List Value) (ns:List Int),
   Ground q loose [] XP w s₀ mg mb s₁.heap→YP w s₁.heap→
   s₁.heap.get? fa=some o→o.data=.func (docDef d.name d.params d.body d.scope pm cd doc)→s₁.heap.CodeRec cd d.name→mg d.name=some (.ref fa)→
   s₁.heap.get? a=some { cls:=.type "list",data:=.seq vs.toArray }→IntsAre vs ns→ns.length≤n→s₁.gens=#[]→
   codeAny (model l.prog w) callerA (.call (.ref fa) ⟨[.ref a],[]⟩) (fun r s'=>r=.ok (.ret (.bool true))∧OldK s₁.heap s'.heap∧s'.os=s₁.os∧AllBare s'.gens) s₁) :
  WalkO q loose XP YP l.row.toRowW d [] (fun f vs=>PySem.call f vs):=by
 intro w s₀ s₁ mg mb G Y fa o pm cd doc dV kV ho hd hcd hD hmg hg args vals as hpre hlay hrd hwl hlo
 obtain rfl:dV=.none:=Dflts.none hD hdf
 obtain rfl:kV=.none:=Dflts.noKw hD
 obtain ⟨a,vs,ns,rfl,rfl,hobj,hints,hlen⟩:=qUv hn hpre hwl
 refine enter_call (codeAny_mono (call w s₀ s₁ mg mb fa o pm cd doc a vs ns G Y ho (fd_plain hd) hcd hmg hobj hints hlen hg) fun r s' hq=>?_)
 obtain ⟨rfl,h2,h3,h4⟩:=hq
 exact ⟨.inl ⟨.bool true,.bool true,[],rfl,fun _=>rfl,.bool true,qVv l _,fun _=>⟨List.Pairwise.nil,fun _ hm=>(nomatch hm)⟩⟩,h2,h3,h4⟩
section
variable {prog:Program}{w:World}{A:Around}{E:Value→Shared→Prop}{s:Shared}{K:Frag}
end
end Att
namespace L2
open PySem PySem.Spec PyProof.Rows
theorem qNf:∀ {vs:List Value} {ns:List Int},IntsAre vs ns→qBu (ns.map V.int) vs
 | _,_,.nil=>.nil
 | _,_,.cons n t h=>.cons ⟨t,rfl⟩ (qNf h)
open PySem PySem.Spec PyProof.Rows
open PySem PySem.Spec PyProof.Rows
def qCi (s:Stmt):Arguments:=match s with
 | .FunctionDef _ a _ _ _ _ _ _ _ _=>a
 | _=>{ posonlyargs:=[],args:=[],vararg:=none,kwonlyargs:=[],kw_defaults:=[],kwarg:=none,defaults:=[] }
def qBp (s:Stmt):List Stmt:=match s with
 | .FunctionDef _ _ b _ _ _ _ _ _ _=>b
 | _=>[]
def qAd (s:Stmt):Scope:=match s with
 | .FunctionDef _ _ _ _ _ _ sc _ _ _=>sc
 | _=>{ kind:=.function,names:=[],isGenerator:=false,isCoroutine:=false }
abbrev CX0:CXT:=fun _ _ _ _ _ _=>False
abbrev E0:XK:=fun _ _ _=>False
theorem qV1 {X:Cx}:qPz CX0 X E0:=fun _ _ _ _ _ _ _ h=>h.elim
structure Fun (K:PySem.W.Frag) (x qual:Str) (st:Stmt) (f:Addr) (fd:FuncData):Prop where
 ex:∃ (oc:Value) (od:Option Addr) (kV doc pm:Value) (an:Option Addr) (cdv ct:Value) (osl:Array (Option Value)),
  fd=PySem.W.fnOf x qual (qCi st) (qBp st) (qAd st) .none kV doc pm an cdv ct∧K.lookup f=some ⟨oc,od,.func fd,osl⟩∧PySem.W.codeIn K cdv qual=true
 kp:PySem.W.keepIn K (.ref f)=true
section
variable {P:Program}{w:World}{K:PySem.W.Frag}{mg:Str→Option Value}{base:Heap}
theorem Fun.ok {x qual:Str}{st:Stmt}{f:Addr}{fd:FuncData}{N ps:List Str}{k:Nat}{sp:Sp}(F:Fun K x qual st f fd)(S:FnScope N ps (qAd st))(len:∀ vs H Q E,sp vs H Q E→vs.length=ps.length)
  (hbody:∀ (cdv:Value) (A:Around) (outer:List Env) (s:Shared) (H:Hp) (vs:List V) (Q:VK) (E:XK),Room k (A.deeper (envOfC qual (qAd st) s.heap.objs.size f cdv))→sp vs H Q E→
   ∃ t,PSs (qLt CX0 P w K mg base N qual (qAd st) f cdv A outer s H E).nox (qBp st) t∧t { nx:=fun _ H'=>Q .non H',rt:=Q } (start N vs) H):FnOk P w K mg base CX0 (k + 1) f fd ps sp:=by
 obtain ⟨oc,od,kV,doc,pm,an,cdv,ct,osl,rfl,lk,hcd⟩:=F.ex
 refine qdv lk hcd S len fun A outer s H vs Q E hr hsp=>?_
 obtain ⟨t,h,q⟩:=hbody cdv A outer s H vs Q E hr hsp
 exact ⟨t,h.nox,q⟩
theorem Fun.binds {x qual:Str}{st:Stmt}{f:Addr}{fd:FuncData}{ps:List Str}(F:Fun K x qual st f fd)
  (h:∀ (kV doc pm:Value) (an:Option Addr) (cdv ct:Value) (us:List Value),us.length=ps.length→bindArgs (PySem.W.fnOf x qual (qCi st) (qBp st) (qAd st) .none kV doc pm an cdv ct) ⟨us,[]⟩=pure (ps.zip us)):qIi K fd ps []:=by
 obtain ⟨oc,od,kV,doc,pm,an,cdv,ct,osl,rfl,lk,hcd⟩:=F.ex
 exact .all (h kV doc pm an cdv ct)
theorem fun_mk {x qual:Str}{st:Stmt}{f:Addr}{oc:Value}{od an:Option Addr}{osl:Array (Option Value)}{kV doc pm cdv ct:Value}(l:K.lookup f=some ⟨oc,od,.func (PySem.W.fnOf x qual (qCi st) (qBp st) (qAd st) .none kV doc pm an cdv ct),osl⟩)
  (c:PySem.W.codeIn K cdv qual=true) (k:PySem.W.keepIn K (.ref f)=true):Fun K x qual st f (PySem.W.fnOf x qual (qCi st) (qBp st) (qAd st) .none kV doc pm an cdv ct):=⟨⟨oc,od,kV,doc,pm,an,cdv,ct,osl,rfl,l,c⟩,k⟩
end
section
variable {X:Cx}
end
def qA5 (H H':Hp):Prop:=∀ b o,H b=some o→H' b=some o
theorem qA5.refl (H:Hp):qA5 H H:=fun _ _ h=>h
theorem qA5.trans {H H1 H2:Hp}(a:qA5 H H1)(b:qA5 H1 H2):qA5 H H2:=fun c o h=>b c o (a c o h)
theorem qA5.free {H H':Hp}(e:qA5 H H'){l:Addr}(h:H' l=Option.none):H l=Option.none:=by
 cases q:H l with
 | none=>rfl
 | some o=>
  rw [e l o q] at h
  cases h
theorem qA5.seq {K:PySem.W.Frag}{H H':Hp}{a:Addr}{xs:List V}(e:qA5 H H')(h:SqL K H a xs):SqL K H' a xs:=by
 rcases h with (h | ⟨o,h⟩) | h
 ·exact .inl (.inl (e _ _ h))
 ·exact .inl (.inr ⟨o,e _ _ h⟩)
 ·exact .inr h
open PySem PySem.Spec PyProof.Rows
theorem qZ2 {P:Program}{w:World}{K:PySem.W.Frag}{mg mb:Str→Option Value}{CX:CXT}{k:Nat}{fa a:Addr}{fd:FuncData}{x:Str}{sp:Sp}{s₁:Shared}{vs:List Value}{ns:List Int}
  (KX:K.In s₁.heap) (hns:s₁.heap.Ns mainGlobals mg) (hb:s₁.heap.Ns builtinsNs mb) (hbb:∀ x:Str,x≠"__name__"→mb x=bootBuiltins x) (hlim:s₁.heap.NoLimit) (hg:s₁.gens=#[])
  (ha:s₁.heap.get? a=some { cls:=.type "list",data:=.seq vs.toArray }) (hi:IntsAre vs ns) (hl:ns.length≤sizeLine) (hr:Room k callerA)
  (hnt:PySem.W.noTabs K=true)
  (hbm:∃ (bm:Addr) (ob:Obj),mg "__builtins__"=some (.ref bm)∧bm≠builtinsNs∧s₁.heap.get? bm=some ob∧ob.cls=.type "module"∧ob.dict=some builtinsNs∧ob.data=.plain)
  (hcode:∀ x c P,x∈qC6→PySem.W.tabIn K x=some (c,P)→PySem.W.CodeHd s₁.heap c P∧s₁.heap.get? P=some (PySem.W.tabObj #[]))
  (hinj:∀ x y c c' P,x∈qC6→y∈qC6→PySem.W.tabIn K x=some (c,P)→PySem.W.tabIn K y=some (c',P)→x=y)
  (F:∀ base:Heap,K.In base→base.Ns mainGlobals mg→FnOk P w K mg base CX k fa fd [x] sp) (hbind:∀ (s:Shared) (u:Value),BindsTo s fd ⟨[u],[]⟩ [(x,u)])
  (hsp:∀ H:Hp,SqL K H a (ns.map V.int)→sp [.ref a] H (fun v _=>v=.bl true) fun _ _ _=>False)
  (hCX:∀ H e s',CX [] H s₁ (fun _ _ _=>False) e s'→False) :
  codeAny (model P w) callerA (.call (.ref fa) ⟨[.ref a],[]⟩) (fun r s'=>r=.ok (.ret (.bool true))∧OldK s₁.heap s'.heap∧s'.os=s₁.os∧AllBare s'.gens) s₁:=by
 have rv:=qNf hi
 have lenV:=hi.length
 let isT:Addr→Prop:=fun b=>∃ x c,x∈qC6∧PySem.W.tabIn K x=some (c,b)
 have tabT:∀ b,isT b→s₁.heap.get? b=some (PySem.W.tabObj #[]):=fun b ⟨x,c,h1,h2⟩=>(hcode x c b h1 h2).2
 have naT:¬ isT a:=fun z=>by
  have e:=tabT a z
  rw [ha] at e;cases e
 have notK:∀ b o,K.lookup b=some o→o≠PySem.W.tabObj #[]:=fun b o e q=>by
  have h2:=List.all_eq_true.mp hnt (b,o) (PySem.W.mem_of_lookupK e)
  subst q
  exact absurd (show false=true from h2) Bool.false_ne_true
 have core:∀ H:Hp,qa0 K H→SqL K H a (ns.map V.int)→HOk P w H s₁.heap→(∀ b,H b≠none→(b=a∧∃ o xs,H a=some (.frz o (.lst xs)))∨isT b)→(H a≠none→K.lookup a=none)→
   codeAny (model P w) callerA (.call (.ref fa) ⟨[.ref a],[]⟩) (fun r s'=>r=.ok (.ret (.bool true))∧OldK s₁.heap s'.heap∧s'.os=s₁.os∧AllBare s'.gens) s₁:=by
  intro H hT hS hok hA hK
  have noA:∀ {b:Addr} {o:Obj},s₁.heap.get? b=some o→o≠{ cls:=.type "list",data:=.seq vs.toArray }→o≠PySem.W.tabObj #[]→H b=none:=fun {b o} e d1 d2=>by
   cases q:H b with
   | none=>rfl
   | some u=>
    rcases hA b (by rw [q];simp) with ⟨z,_⟩ | z
    ·subst z;rw [ha] at e;cases e;exact absurd rfl d1
    ·rw [tabT b z] at e;cases e;exact absurd rfl d2
  have base_of:∀ {b:Addr} {o:Obj},s₁.heap.get? b=some o→o≠{ cls:=.type "list",data:=.seq vs.toArray }→o≠PySem.W.tabObj #[]→(qad s₁.heap H).get? b=some o:=fun e d1 d2=>qR8 e (noA e d1 d2)
  have nsK:∀ {b:Addr} {m:Str→Option Value},s₁.heap.Ns b m→(qad s₁.heap H).Ns b m:=fun {b m} ⟨o,es,ep,e,d,r⟩=>⟨o,es,ep,base_of e (fun q=>by rw [q] at d;cases d) (fun q=>by rw [q] at d;cases d),d,r⟩
  have hKb:K.In (qad s₁.heap H):=fun b o e=>qR8 (KX b o e) (by
   cases q:H b with
   | none=>rfl
   | some u=>
    rcases hA b (by rw [q];simp) with ⟨z,_⟩ | z
    ·subst z
     rw [hK (by rw [q];simp)] at e;cases e
    ·have e2:=KX b o e
     rw [tabT b z] at e2
     exact absurd (Option.some.inj e2).symm (notK b o e))
  have hM:Mod K mg (qad s₁.heap H):=⟨hKb,nsK hns,⟨mb,nsK hb,hbb⟩,let ⟨mc,h1,h2⟩:=hlim;⟨mc,nsK h1,h2⟩,
   let ⟨bm,ob,b1,b2,b3,b4,b5,b6⟩:=hbm;⟨bm,ob,b1,b2,base_of b3 (fun q=>by rw [q] at b6;cases b6) (fun q=>by rw [q] at b6;cases b6),b4,b5,b6⟩,
   fun x c P h1 h2=>by
    obtain ⟨⟨o,vs',file,tf,flags,tg,inF,text,tt,e1,r1,r2⟩,_⟩:=hcode x c P h1 h2
    exact ⟨o,vs',file,tf,flags,tg,inF,text,tt,base_of e1 (fun q=>by rw [q] at r1;exact absurd (show Value.type "list"=Value.type "code" from r1) #[4]) (fun q=>by rw [q] at r1;exact absurd (show Value.none=Value.type "code" from r1) #[4]),r1,r2⟩⟩
  have e0:Env0 P w K mg (qad s₁.heap H) callerA [] s₁ H:=⟨rfl,hM,fun b o e=>qdb e,Nat.le_of_eq (qW2 _ _),trivial,fun b hb=>absurd (show b∈([]:List Addr) from hb) #[6],hok,.of_eq hg,hT⟩
  refine codeAny_mono ((F _ hKb (nsK hns)).run callerA [] s₁ H ⟨[.ref a],[]⟩ [.ref a] [.ref a] _ _ hr e0 (hbind s₁ (.ref a)) (.cons rfl .nil) (hsp H hS)) fun r s' h=>?_
  cases r with
  | error e=>exact (hCX H e s' h).elim
  | ok fl=>
   cases fl with
   | next=>exact False.elim h
   | brk=>exact False.elim h
   | cont=>exact False.elim h
   | ret u=>
    obtain ⟨v,H',os,bare,un,hok',r',q⟩:=h
    have q':v=.bl true:=q
    subst q'
    obtain rfl:u=Value.bool true:=r'
    refine ⟨rfl,⟨fun b o e=>?_,fun b o e=>un.there b o e #[6]⟩,os,bare⟩
    cases q:H b with
    | none=>exact .inl (un.keep b o e q (by intro z;exact absurd (show b∈([]:List Addr) from z) #[6]) #[6])
    | some u=>
     rcases hA b (by rw [q];simp) with ⟨rfl,ob,xs,z⟩ | z
     ·have z2:=un.frzs b ob _ z
      obtain ⟨e1,_⟩:=hok b _ z
      obtain ⟨e2,_⟩:=hok' b _ z2
      rw [e] at e1;cases e1
      exact .inl e2
     ·obtain ⟨y,c,h1,h2⟩:=z
      obtain ⟨hcd,hP⟩:=hcode y c b h1 h2
      rw [hP] at e;cases e
      obtain ⟨ps,e2,_⟩:=hok' b _ (un.tbls b _ (hT y c b h1 h2))
      exact .inr (.inl ⟨(hcd.tab hP).isCodeTable,rfl,#[],ps,rfl,by rw [Array.empty_append];exact e2⟩)
 classical
 let HT:Hp:=fun b=>if h:isT b then some (.tab (qYd (Classical.choose h))) else none
 have HTt:qa0 K HT:=fun x c P h1 h2=>by
  have z:isT P:=⟨x,c,h1,h2⟩
  show (if h:isT P then _ else _)=_
  rw [dif_pos z]
  obtain ⟨c',y1,y2⟩:=Classical.choose_spec z
  rw [hinj _ _ _ _ _ y1 h1 y2 h2]
 have HTs:∀ b u,HT b=some u→isT b∧∃ q,u=.tab q:=fun b u e=>by
  by_cases z:isT b
  ·have e':(if h:isT b then some (HO.tab (qYd (Classical.choose h))) else none)=some u:=e
   rw [dif_pos z] at e'
   exact ⟨z,_,(Option.some.inj e').symm⟩
  ·have e':(if h:isT b then some (HO.tab (qYd (Classical.choose h))) else none)=some u:=e
   rw [dif_neg z] at e';cases e'
 have okT:∀ (H:Hp) b q,isT b→qB7 P w H s₁.heap b (.tab q):=fun H b q z=>⟨#[],tabT b z,trivial,fun pos v e=>by cases e⟩
 cases hk:K.lookup a with
 | some o=>
  have e:=KX a o hk
  rw [ha] at e
  cases e
  refine core HT HTt (.inr ⟨_,vs.toArray,_,hk,rfl,rfl,rfl,by rw [List.size_toArray,lenV];exact hl,by simpa using rv⟩) (fun b u z=>?_) (fun b z=>?_) fun z=>?_
  ·obtain ⟨z1,q,rfl⟩:=HTs b u z
   exact okT _ b q z1
  ·cases q:HT b with
   | none=>exact absurd q z
   | some u=>exact .inr (HTs b u q).1
  ·cases q:HT a with
   | none=>exact absurd q z
   | some u=>exact absurd (HTs a u q).1 naT
 | none=>
  let H2:Hp:=upd HT a (.frz { cls:=.type "list",data:=.seq vs.toArray } (.lst (ns.map V.int)))
  have ne:∀ b,isT b→b≠a:=fun b z q=>by subst q;exact naT z
  refine core H2 (fun x c P h1 h2=>?_) (.inl (.inr ⟨{ cls:=.type "list",data:=.seq vs.toArray },qAu⟩)) (fun b u z=>?_) (fun b z=>?_) fun _=>hk
  ·show upd HT a _ P=_
   rw [qAo (ne P ⟨x,c,h1,h2⟩)]
   exact HTt x c P h1 h2
  ·by_cases hb:b=a
   ·subst hb
    rw [show H2 b=_ from qAu] at z
    cases z
    exact ⟨ha,by rw [List.length_map];exact hl,vs,_,rv,ha⟩
   ·rw [show H2 b=HT b from qAo hb] at z
    obtain ⟨z1,q,rfl⟩:=HTs b u z
    exact okT _ b q z1
  ·by_cases hb:b=a
   ·exact .inl ⟨hb,_,_,qAu⟩
   ·rw [show H2 b=HT b from qAo hb] at z
    cases q:HT b with
    | none=>exact absurd q z
    | some u=>exact .inr (HTs b u q).1
def qdg (q:Program)(K:PySem.W.Frag):Bool:=
 PySem.W.noTabs K && (qC6.all fun x=>match PySem.W.tabIn K x with
  | none=>true
  | some (_,P)=>((recsOf q).find? (fun e=>e.name == x)).isSome && (qC6.all fun y=>match PySem.W.tabIn K y with
   | none=>true
   | some (_,P')=>!(P == P') || x == y))
theorem walk_of {l:PySem.W.OpenLaw}{n k:Nat}{q:Program}{loose:List Str}{XP:(Str→Option Value)→Heap→Prop}{YP:World→Heap→Prop}{d:DefRec}{K:Params→PySem.W.Frag}{CX:World→CXT}{sp:World→Sp}{x:Str}
  (hn:l.most=some n) (hn2:n≤sizeLine) (hdf:d.params.defaults=[]) (hr:Room k callerA)
  (hY:∀ (w:World) (h:Heap),YP w h→(K w.params).In h) (hlam:∀ w:World,qdg q (K w.params)=true)
  (F:∀ (w:World) (mg:Str→Option Value) (fa:Addr) (h:Heap),(K w.params).In h→h.Ns mainGlobals mg→mg d.name=some (.ref fa)→
   ∃ fd:FuncData,(∀ (s:Shared) (u:Value),BindsTo s fd ⟨[u],[]⟩ [(x,u)])∧
    ∀ base:Heap,(K w.params).In base→base.Ns mainGlobals mg→FnOk l.prog w (K w.params) mg base (CX w) k fa fd [x] (sp w))
  (hsp:∀ (w:World) (H:Hp) (a:Addr) (ns:List Int),ns.length≤n→SqL (K w.params) H a (ns.map V.int)→sp w [.ref a] H (fun v _=>v=.bl true) fun _ _ _=>False)
  (hCX:∀ (w:World) (H:Hp) (s:Shared) (e:Value) (s':Shared),CX w [] H s (fun _ _ _=>False) e s'→False) :
  PySem.W.WalkO q loose XP YP l.row.toRowW d [] (fun f vs=>PySem.call f vs):=by
 refine Att.attach_call hn hdf fun w s₀ s₁ mg mb fa o pm cd doc a vs ns G Y ho hd hcd hmg hobj hints hlen hg=>?_
 have KX:=hY w _ Y
 obtain ⟨fd,hb,hF⟩:=F w mg fa _ KX G.T.g hmg
 have L:=hlam w
 unfold qdg at L
 obtain ⟨L1,L2⟩:=Bool.and_eq_true_iff.mp L
 have L3:=List.all_eq_true.mp L2
 refine qZ2 KX G.T.g G.T.b G.T.builtins G.T.nolimit hg hobj hints (Nat.le_trans hlen hn2) hr L1 G.T.bmain (fun x c P h1 h2=>?_) (fun x y c c' P h1 h2 h3 h4=>?_) hF hb (fun H hS=>hsp w H a ns hlen hS) fun H e s'=>hCX w H s₁ e s'
 ·have q:=L3 x h1
  rw [h2] at q
  obtain ⟨q1,_⟩:=Bool.and_eq_true_iff.mp q
  obtain ⟨d',hd'⟩:=Option.isSome_iff_exists.mp q1
  exact PySem.W.tab_of G.T KX hd' h2
 ·have q:=L3 x h1
  rw [h3] at q
  obtain ⟨_,q2⟩:=Bool.and_eq_true_iff.mp q
  have q3:=List.all_eq_true.mp q2 y h2
  rw [h4] at q3
  simpa using q3
open PySem PySem.Spec PyProof.Rows
theorem qM1 {p pos:Pos}{c v:Value}:∀ (l:List Value),TriplesOk l→codeAmong p (l++[rawInt pos.line,rawInt pos.col,c])=some v→codeAmong p l=some v∨v=c:=by
 intro l h e
 fun_induction TriplesOk l with
 | case1=>
  simp only [List.nil_append,codeAmong,rawInt] at e
  split at e
  ·exact .inr (Option.some.inj e).symm
  ·cases e
 | case2 a t b u x qE4 ih=>
  simp only [List.cons_append,codeAmong] at e ⊢
  split at e
  ·rename_i hc
   rw [if_pos hc]
   exact .inl e
  ·rename_i hc
   rw [if_neg hc]
   exact ih h e
 | case3 l h1 h2=>exact h.elim
structure CloAt (s:Shared) (H:Hp) (f:Addr) (fd:FuncData) (cw:Addr) (u:Value):Prop where
 fo:s.heap.get? f=some { cls:=.type "function",data:=.func fd }
 fn:H f=none
 cd:∃ c oc vs t P,fd.code=.ref c∧H c=some (.frz oc (.own P))∧oc.data=.fields vs∧vs[1]?=some (.str fd.qualname t)
 ce:s.heap.IsCell cw (some u)
 cn:H cw=none
section
variable {X:Cx}{pins:List (Addr×Obj)}{σ:St}{H:Hp}{s:Shared}{fd:FuncData}{f cw:Addr}{u:Value}
theorem CloAt.later {fs ex:List Addr}{H':Hp}{s':Shared}(C:CloAt s H f fd cw u)(un:Un fs ex H H' s.heap s'.heap)(h1:f∉fs)(h2:cw∉fs)(h3:f∉ex)(h4:cw∉ex):CloAt s' H' f fd cw u:=by
 obtain ⟨o,ho,hd⟩:=C.ce
 obtain ⟨c,oc,vs,t,P,e1,e2,e3⟩:=C.cd
 exact ⟨un.keep _ _ C.fo C.fn h1 h3,un.free _ _ C.fo C.fn h3,⟨c,oc,vs,t,P,e1,un.frzs _ _ _ e2,e3⟩,⟨o,un.keep _ _ ho C.cn h2 h4,hd⟩,un.free _ _ ho C.cn h4⟩
theorem CloAt.code (C:CloAt s H f fd cw u){P:Program}{w:World}(hok:HOk P w H s.heap):s.heap.CodeRec fd.code fd.qualname:=by
 obtain ⟨c,oc,vs,t,P',e1,e2,e3,e4⟩:=C.cd
 exact ⟨c,oc,vs,t,e1,(hok _ _ e2).1,e3,e4⟩
theorem qZ3 {x y:Str}{c P:Addr}{params:Arguments}{body:Expr}{scope:Scope}{pos:Pos}{v:V}{i:Nat}{E:Value→Shared→Prop}{Q:Value→Shared→Prop}(I:Inv X pins σ H s)(hx:x∈qC6)(ht:PySem.W.tabIn X.K x=some (c,P))(hcode:X.env.code=.ref c)(hq:X.env.qual=x++".<locals>.")
  (hdef:defaultsOf params X.env=([],[])) (hcl:closureFor scope X.env=pure [(y,cw)]) (hyc:X.env.cells.lookup y=some cw) (hky:X.env.kindOf y=some .cell) (hfn:X.fn y=true) (hst:X.stack=X.env::X.outer) (hfr:X.env.frame=some X.env.locals) (hN:X.N[i]?=some y) (hv:σ[i]?=some (some v))
  (h:∀ f s' H' pm cdv ctv u,Inv X pins σ H' s'→(H'=H∨∃ c' o,H c'=none∧H'=upd H c' o)→RelV v u→CloAt s' H' f (PySem.W.kla_fn "<lambda>" (qYd x) params body scope [(y,cw)] pm cdv ctv) cw u→f∉frs X.stack→cw∉frs X.stack→Q (.ref f) s') :
  wpAny #[9] X.A (eval (.Lambda params body scope pos) X.env) Q E s:=by
 refine PySem.W.kla_eval hdef ?_
 have eq1:X.env.qual++"<lambda>"=qYd x:=by rw [hq];rfl
 rw [eq1]
 have hPt:H P=some (.tab (qYd x)):=I.base.tbls _ _ (I.ok.tab x c P hx ht)
 obtain ⟨ps,hP,htr,hall⟩:=I.hok _ _ hPt
 have hns:s.heap.Ns mainGlobals X.mg:=I.ok.mod.glob.keeps I.bk
 have C:PySem.W.CodeHd s.heap c P:=(I.ok.mod.code x c P hx ht).keeps I.bk
 have hgP:mainGlobals≠P:=fun q=>by
  obtain ⟨o,es,ep,e,hd,_⟩:=hns
  rw [q,hP] at e;cases e;cases hd
 obtain ⟨bm,ob,b1,b2,b3,b4,b5,b6⟩:=I.ok.mod.bm
 have b3':=I.bk _ _ b3
 have hbP:bm≠P:=fun q=>by
  rw [q,hP] at b3';cases b3';cases b4
 have hbG:bm≠mainGlobals:=fun q=>by
  obtain ⟨o,es,ep,e,hd,_⟩:=hns
  rw [q,e] at b3';cases b3';rw [hd] at b6;cases b6
 have BA:s.heap.BuiltinsAt X.mg P:=⟨bm,ob,b1,b2,hbG,hbP,b3',b4,b5,b6⟩
 have hcw:cw∉X.fs:=fun hb=>by
  obtain ⟨_,o,ho,_⟩:=I.ok.funs.mem hb
  exact absurd (Nat.lt_of_lt_of_le (Heap.lt_size ho) (I.ok.cab y cw hfn hyc)) (Nat.lt_irrefl _)
 have hcs:cw∉frs X.stack:=fun hb=>by
  rw [hst] at hb
  unfold frs at hb
  rw [List.filterMap_cons,hfr] at hb
  rcases List.mem_cons.mp hb with z | z
  ·exact I.cne y cw hyc z
  ·exact hcw z
 have fns:∀ f,s.heap.objs.size≤f→f∉frs X.stack:=fun f hf hb=>by
  rcases List.mem_cons.mp (I.stkSub f hb) with z | z
  ·have:=I.lt
   rw [←z] at this
   exact absurd (Nat.lt_of_lt_of_le this hf) (Nat.lt_irrefl _)
  ·exact I.nofs hf z
 have cellOf:∀ {H':Hp} {s':Shared},Inv X pins σ H' s'→∃ u,RelV v u∧s'.heap.IsCell cw (some u):=fun {H' s'} J=>by
  obtain ⟨m,_,hl⟩:=J.loc
  obtain ⟨u,r,l⟩:=hl i y v hN hv (.inr (.inl hky))
  rcases l with ⟨k,_⟩ | ⟨_,c1,e1,e2⟩
  ·rw [hky] at k;cases k
  ·rw [hyc] at e1;cases e1
   exact ⟨u,r,e2⟩
 cases hf:codeAmong pos ps.toList with
 | some cv=>
  obtain ⟨c',oc,vs,tk,rfl,z2,z3,z4⟩:=hall pos cv hf
  refine PySem.W.kla_makeFunctionHit (mg:=X.mg) hcl I.ok.glob hns hcode C hP htr hf BA fun ctv h' tk' hk hsz=>?_
  have J:Inv X pins σ H { s with heap:=h'.push { cls:=.type "function",data:=.func (PySem.W.kla_fn "<lambda>" (qYd x) params body scope [(y,cw)] ((X.mg "__name__").getD .none) (.ref c') ctv) },toks:=tk' }:=
   I.kept (t':=tk') fun b o e=>Heap.get?_push_of_some _ (hk b o e)
  obtain ⟨u,r,hc⟩:=cellOf J
  exact h _ _ H _ _ _ u J (.inl rfl) r ⟨Heap.get?_push_size _ rfl,I.hok.fresh hsz,⟨c',oc,vs,tk,P,rfl,z2,z3,z4⟩,hc,I.freeC y cw hyc⟩ (fns _ hsz) hcs
 | none=>
  refine PySem.W.kla_makeFunction (mg:=X.mg) hcl I.ok.glob hns hcode C hP htr hf hgP BA fun c' ctv h' tk' hx' hge hlt hrec htb=>?_
  obtain ⟨c2,oc,vs,t,e2,hoc,hd,hvs⟩:=hrec
  cases e2
  have hcn:H c'=none:=I.hok.fresh hge
  have old:∀ b o,b≠P→s.heap.get? b=some o→h'.get? b=some o:=hx'
  have ncP:c'≠P:=fun z=>by rw [z,hPt] at hcn;cases hcn
  let fo:Obj:=PySem.W.kla_obj "<lambda>" (qYd x) params body scope [(y,cw)] ((X.mg "__name__").getD .none) c' ctv
  have hk2:∀ b o,h'.get? b=some o→(h'.push fo).get? b=some o:=fun b o e=>Heap.get?_push_of_some _ e
  have nP:∀ b,H b=none→b≠P:=fun b n z=>by rw [z,hPt] at n;cases n
  have neC:∀ b o,s.heap.get? b=some o→b≠c':=fun b o e=>Nat.ne_of_lt (Nat.lt_of_lt_of_le (Heap.lt_size e) hge)
  have hsz:s.heap.objs.size≤h'.objs.size:=Nat.le_trans hge (Nat.le_of_lt hlt)
  have un:Un X.fs [] H (upd H c' (.frz oc (.own P))) s.heap (h'.push fo):=by
   refine ⟨fun b o e n _ _=>hk2 b o (old b o (nP b n) e),fun b o e n _ _=>⟨o.slots,hk2 b o (old b o (nP b n) e)⟩,fun b o e n _=>by rw [qAo (neC b o e)];exact n,fun b o e _=>?_,
    fun b xs q=>by rw [qAo (qAm q hcn)];exact q,fun b o xs q=>by rw [qAo (qAm q hcn)];exact q,fun b q' q=>by rw [qAo (qAm q hcn)];exact q⟩
   by_cases hb:b=P
   ·subst hb;exact ⟨_,hk2 _ _ htb⟩
   ·exact ⟨o,hk2 b o (old b o hb e)⟩
  have hok:HOk X.prog X.w (upd H c' (.frz oc (.own P))) (h'.push fo):=fun b o e=>by
   by_cases hb:b=c'
   ·subst hb
    rw [qAu] at e;cases e
    exact ⟨hk2 _ _ hoc,_,hk2 _ _ hoc⟩
   ·rw [qAo hb] at e
    by_cases hbP':b=P
    ·subst hbP'
     rw [hPt] at e;cases e
     refine ⟨_,hk2 _ _ htb,?_,fun p v' e=>?_⟩
     ·rw [Array.toList_append];exact TriplesOk_snoc _ _ _ _ htr
     ·rw [Array.toList_append] at e
      rcases qM1 _ htr e with z | z
      ·obtain ⟨c3,oc3,vs3,t3,y1,y2,y3⟩:=hall p v' z
       exact ⟨c3,oc3,vs3,t3,y1,by rw [qAo (qAm y2 hcn)];exact y2,y3⟩
      ·exact ⟨c',oc,vs,t,z,qAu,hd,hvs⟩
    ·refine (I.hok b o e).stay (fun b' u' hc q=>hk2 _ _ (old b' u' (fun z=>?_) q)) (fun b' q=>by rw [qAo (qAm q hcn)];exact q) (fun b' xs q=>by rw [qAo (qAm q hcn)];exact q) fun b' xs q=>by rw [qAo (qAm q hcn)];exact q
     subst z
     rcases hc with z | z
     ·exact hbP' z.symm
     ·rw [hPt] at z;cases z
  have J:=I.un (t':=tk') un hok
  obtain ⟨u,r,hc⟩:=cellOf J
  refine h _ _ _ _ _ _ u J (.inr ⟨c',_,hcn,rfl⟩) r ⟨Heap.get?_push_size _ rfl,?_,⟨c',oc,vs,t,P,rfl,qAu,hd,hvs⟩,hc,J.freeC y cw hyc⟩ (fns _ hsz) hcs
  rw [qAo (Nat.ne_of_gt hlt)]
  exact I.hok.fresh hsz
end
def qat (P:Program)(w:World)(K:PySem.W.Frag)(mg:Str→Option Value)(base:Heap)(N:List Str)(qual:Str)(scope:Scope)(f:Addr)(cd:Value)(cl:List (Str×Addr))(A:Around)(outer:List Env)(s:Shared)(H:Hp):Cx where
 prog:=P
 w:=w
 K:=K
 mg:=mg
 base:=base
 A:=A.deeper (PySem.W.envX qual scope s.heap.objs.size f cd cl)
 N:=N
 s₀:=s
 H₀:=H
 env:=PySem.W.envX qual scope s.heap.objs.size f cd cl
 outer:=outer
 stack:=PySem.W.envX qual scope s.heap.objs.size f cd cl::outer
 ex:=[]
 calm:=true
 fn:=fun _=>false
 pn:=[]
 xe:=fun _ _=>False
structure LamScope (x y:Str) (sc:Scope):Prop where
 kind:sc.kind=.function
 co:sc.isCoroutine=false
 gen:sc.isGenerator=false
 loc:sc.names.lookup x=some .local
 free:sc.names.lookup y=some .free
 nocell:∀ z∈sc.names,z.2≠.cell
 only:∀ z,sc.names.lookup z=some .free→z=y
theorem qdf {P:Program}{w:World}{K:PySem.W.Frag}{mg:Str→Option Value}{base:Heap}{A:Around}{outer:List Env}{s:Shared}{H:Hp}{Q:VK}{E:XK}{k:Nat}{f cw:Addr}{qual x y:Str}{params:Arguments}{body:Expr}{scope:Scope}{pm cdv ctv ux u:Value}{vx vu:V}
  (e0:Env0 P w K mg base A outer s H) (hr:Room (k + 1) A) (C:CloAt s H f (PySem.W.kla_fn "<lambda>" qual params body scope [(y,cw)] pm cdv ctv) cw u) (S:LamScope x y scope)
  (hb:bindArgs (PySem.W.kla_fn "<lambda>" qual params body scope [(y,cw)] pm cdv ctv) ⟨[ux],[]⟩=pure [(x,ux)]) (rx:RelV vx ux) (ru:RelV vu u)
  (hbody:Room k (A.deeper (PySem.W.envX qual scope s.heap.objs.size f cdv [(y,cw)]))→∃ te,PE (qat P w K mg base [x,y] qual scope f cdv [(y,cw)] A outer s H) body te∧te [some vx,some vu] H Q) :
  codeAny (model P w) A (.call (.ref f) ⟨[ux],[]⟩) (CR CX0 outer P w H s Q E) s:=by
 have lim:s.heap.NoLimit:=e0.mod.nolimit.keeps fun b o e=>(e0.bs b o e).1
 refine PySem.W.kla_callFunE hr.depth C.fo rfl S.co S.gen rfl (C.code e0.hok) ?_
 rw [hb]
 refine wpAny_pure (wpAny_newFunctionEnv S.nocell (fun z hz=>?_) (fun h₁ hns hsb=>?_) S.kind)
 ·cases List.mem_singleton.mp hz
  exact S.loc
 have hk₁:∀ b o,s.heap.get? b=some o→h₁.get? b=some o:=fun b o e=>hsb.extBut b o (Nat.ne_of_lt (Heap.lt_size e)) (Heap.get?_push_of_some _ e)
 refine ⟨lim.keeps hk₁,?_⟩
 obtain ⟨te,ht,hq⟩:=hbody (hr.deeper _)
 have noA:∀ b:Addr,b∉(qat P w K mg base [x,y] qual scope f cdv [(y,cw)] A outer s H).ex:=fun b z=>absurd (show b∈([]:List Addr) from z) #[6]
 have look:∀ z c,(([(y,cw)]:List (Str×Addr)).lookup z=some c)→z=y∧c=cw:=fun z c e=>by
  have:=PySem.mem_of_lookup e
  cases List.mem_singleton.mp this
  exact ⟨rfl,rfl⟩
 have ly:([(y,cw)]:List (Str×Addr)).lookup y=some cw:=by simp
 obtain ⟨oc,hoc,hdc⟩:=C.ce
 have I:Inv (qat P w K mg base [x,y] qual scope f cdv [(y,cw)] A outer s H) [] [some vx,some vu] H { s with heap:=h₁,toks:=s.toks + [(x,ux)].length }:=by
  refine ⟨⟨e0.mod,S.kind,rfl,rfl,Nat.le_refl _,fun z z' c h1 h2=>(look z c h1).1.trans (look z' c h2).1.symm,fun z hz=>?_,fun z c h _=>(nomatch h),fun _=>hr.hd,Around.frames_deeper e0.frames,.inr ⟨rfl,rfl⟩,fun b z=>absurd z (noA b),e0.bs,e0.bsz,fun b _ _=>noA b,fun b z=>absurd z (noA b),e0.funs,e0.frf,e0.tab⟩,
   rfl,e0.bare,Un.kept hk₁,⟨_,hns,fun i z v h1 h2 h3=>?_⟩,fun z c h=>?_,e0.hok.fresh #[10],fun z c h=>?_,fun p hp=>absurd (show p∈([]:List #[8]) from hp) #[6],e0.hok.kept hk₁,rfl⟩
  ·have hz:scope.names.lookup z=some .cell∨scope.names.lookup z=some .free:=hz
   rcases hz with hz | hz
   ·exact absurd rfl (S.nocell _ (PySem.mem_of_lookup hz))
   ·cases S.only z hz
    exact ⟨cw,ly⟩
  ·match i,h1,h2 with
   | 0,h1,h2=>
    cases (show some x=some z from h1)
    cases (show some (some vx)=some (some v) from h2)
    exact ⟨ux,rx,.inl ⟨S.loc,by simp⟩⟩
   | 1,h1,h2=>
    cases (show some y=some z from h1)
    cases (show some (some vu)=some (some v) from h2)
    exact ⟨u,ru,.inr ⟨.inr S.free,cw,ly,oc,hk₁ _ _ hoc,hdc⟩⟩
   | i + 2,h1,h2=>simp at h2
  ·obtain ⟨rfl,rfl⟩:=look z c h
   exact ⟨_,oc,hk₁ _ _ hoc,hdc⟩
  ·obtain ⟨rfl,rfl⟩:=look z c h
   exact C.cn
 refine PySem.W.kla_codeExpr (wpAny_mono (ht [] _ [some vx,some vu] H Q I hq) (fun u' s' hs=>?_) fun _ _ z=>z.elim)
 obtain ⟨v,H',J,rv,q⟩:=hs
 exact ⟨v,H',J.os,J.bare,J.base,J.hok,rv,q⟩
open PySem PySem.Spec PyProof.Rows
section
variable {κ:Type}[DecidableEq κ]
def qP2 (kvs:List (κ×V))(k:κ):Option V:=(kvs.find? fun kv=>decide (kv.1=k)).map (·.2)
def qJj (kvs:List (κ×V))(k:κ)(v:V):List (κ×V):=
 if (kvs.any fun kv=>decide (kv.1=k))=true then kvs.map (fun kv=>if kv.1=k then (kv.1,v) else kv) else kvs++[(k,v)]
def dropK (kvs:List (κ×V))(k:κ):List (κ×V):=kvs.filter fun kv=>decide (kv.1≠k)
theorem qL2 {p:κ×V}{r:List (κ×V)}{k:κ}(e:p.1=k):qP2 (p::r) k=some p.2:=by simp [qP2,List.find?_cons,e]
theorem qL3 {p:κ×V}{r:List (κ×V)}{k:κ}(e:¬ p.1=k):qP2 (p::r) k=qP2 r k:=by simp [qP2,List.find?_cons,e]
theorem qRb (k:κ):∀ kvs:List (κ×V),(kvs.any fun kv=>decide (kv.1=k))=(qP2 kvs k).isSome
 | []=>rfl
 | p::r=>by
  rw [List.any_cons]
  by_cases e:p.1=k
  ·simp only [qL2 e,decide_eq_true e,Bool.true_or,Option.isSome_some]
  ·rw [qL3 e,decide_eq_false e,Bool.false_or];exact qRb k r
theorem qFz (kvs:List (κ×V))(k:κ)(v:V):(qJj kvs k v).length≤kvs.length + 1:=by
 unfold qJj
 split
 ·rw [List.length_map];omega
 ·rw [List.length_append,List.length_cons,List.length_nil];omega
theorem qYi.isSome_eq {o:Option V}{u:Option Value}(r:qYi o u):o.isSome=u.isSome:=by
 cases o with
 | none=>cases u with
  | none=>rfl
  | some _=>exact (show False from r).elim
 | some _=>cases u with
  | none=>exact (show False from r).elim
  | some _=>rfl
theorem qYi.getD {o:Option V}{u:Option Value}{d:V}{d':Value}(r:qYi o u)(rd:RelV d d'):RelV (o.getD d) (u.getD d'):=by
 cases o with
 | none=>cases u with
  | none=>exact rd
  | some _=>exact (show False from r).elim
 | some _=>cases u with
  | none=>exact (show False from r).elim
  | some _=>exact r
theorem KV.val {kvs:List (κ×V)}{vs:List (κ×Value)}(r:KV kvs vs)(k:κ):qYi (qP2 kvs k) (valueAt vs k):=by
 unfold KV at r
 induction r with
 | nil=>exact True.intro
 | @cons p q ps qs h t ih=>
  obtain ⟨h1,h2⟩:=h
  by_cases e:p.1=k
  ·have e':q.1=k:=h1.symm.trans e
   have b:valueAt (q::qs) k=some q.2:=by simp [valueAt,List.find?_cons,e']
   rw [qL2 e,b];exact h2
  ·have e':¬ q.1=k:=fun z=>e (h1.trans z)
   have b:valueAt (q::qs) k=valueAt qs k:=by simp [valueAt,List.find?_cons,e']
   rw [qL3 e,b];exact ih
theorem KV.any {kvs:List (κ×V)}{vs:List (κ×Value)}(r:KV kvs vs)(k:κ):(kvs.any fun kv=>decide (kv.1=k))=vs.any fun kv=>decide (kv.1=k):=by
 unfold KV at r
 induction r with
 | nil=>rfl
 | cons h t ih=>rw [List.any_cons,List.any_cons,ih,h.1]
theorem KV.repl {kvs:List (κ×V)}{vs:List (κ×Value)}(r:KV kvs vs)(k:κ){y:V}{u:Value}(ry:RelV y u) :
  KV (kvs.map fun kv=>if kv.1=k then (kv.1,y) else kv) (vs.map fun kv=>if kv.1=k then (kv.1,u) else kv):=by
 unfold KV at r ⊢
 induction r with
 | nil=>exact .nil
 | @cons p q ps qs h t ih=>
  rw [List.map_cons,List.map_cons]
  refine .cons ?_ ih
  obtain ⟨h1,h2⟩:=h
  by_cases e:p.1=k
  ·rw [if_pos e,if_pos (h1.symm.trans e)];exact ⟨h1,ry⟩
  ·rw [if_neg e,if_neg (fun z=>e (h1.trans z))];exact ⟨h1,h2⟩
theorem KV.put {kvs:List (κ×V)}{vs:List (κ×Value)}(r:KV kvs vs)(k:κ){y:V}{u:Value}(ry:RelV y u):KV (qJj kvs k y) (stored vs k u):=by
 unfold qJj stored
 rw [r.any k]
 by_cases e:(vs.any fun kv=>decide (kv.1=k))=true
 ·rw [if_pos e,if_pos e];exact r.repl k ry
 ·rw [if_neg e,if_neg e];exact Paired.snoc r ⟨rfl,ry⟩
theorem KV.drop {kvs:List (κ×V)}{vs:List (κ×Value)}(r:KV kvs vs)(k:κ):KV (dropK kvs k) (without vs k):=by
 unfold KV at r ⊢
 unfold dropK without
 induction r with
 | nil=>exact .nil
 | @cons p q ps qs h t ih=>
  obtain ⟨h1,h2⟩:=h
  rw [List.filter_cons,List.filter_cons]
  by_cases e:p.1=k
  ·have a:¬ decide (p.1≠k)=true:=by simp [e]
   have b:¬ decide (q.1≠k)=true:=by simp [h1.symm.trans e]
   rw [if_neg a,if_neg b];exact ih
  ·have e':¬ q.1=k:=fun z=>e (h1.trans z)
   have a:decide (p.1≠k)=true:=by simp [e]
   have b:decide (q.1≠k)=true:=by simp [e']
   rw [if_pos a,if_pos b];exact .cons ⟨h1,h2⟩ ih
theorem KV.length {kvs:List (κ×V)}{vs:List (κ×Value)}(r:KV kvs vs):kvs.length=vs.length:=Paired.length r
end
theorem qZ6 {P:Program}{w:World}{k:Key}{u:Value}(r:RelV (kV k) u):(qCc P w).is k u=true:=by
 cases k with
 | inl i=>obtain ⟨t,e⟩:=(show ∃ t,u=Value.int i t from r);subst e;exact qQo P w i t
 | inr x=>obtain ⟨t,e⟩:=(show ∃ t,u=Value.str x t from r);subst e;exact qQn P w x t
theorem qOr {P:Program}{w:World}:∀ {ks:List Key} {us:List Value},qBu (ks.map kV) us→ItemsAre (qCc P w) ks us
 | [],_,r=>by rw [List.map_nil] at r;cases r;exact .nil
 | k::ks,_,r=>by
  rw [List.map_cons] at r
  cases r with
  | cons h t=>exact .cons (qZ6 h) (qOr t)
abbrev KT (H:Hp):List (List Key×V)→List (List Key×Addr×Value)→Prop:=Paired fun p q=>p.1=q.1∧H q.2.1=some (.tup (p.1.map kV))∧RelV p.2 q.2.2
theorem KT.val {H:Hp}{kvs:List (List Key×V)}{xs:List (List Key×Addr×Value)}(r:KT H kvs xs)(k:List Key):qYi (qP2 kvs k) ((atKey xs k).map (·.2)):=by
 induction r with
 | nil=>exact True.intro
 | @cons p q ps qs h t ih=>
  obtain ⟨h1,_,h2⟩:=h
  by_cases e:p.1=k
  ·have e':q.1=k:=h1.symm.trans e
   have b:atKey (q::qs) k=some q.2:=by simp [atKey,List.find?_cons,e']
   rw [qL2 e,b];exact h2
  ·have e':¬ q.1=k:=fun z=>e (h1.trans z)
   have b:atKey (q::qs) k=atKey qs k:=by simp [atKey,List.find?_cons,e']
   rw [qL3 e,b];exact ih
theorem KT.repl {H:Hp}{kvs:List (List Key×V)}{xs:List (List Key×Addr×Value)}(r:KT H kvs xs)(k:List Key){y:V}{u:Value}(ry:RelV y u) :
  KT H (kvs.map fun kv=>if kv.1=k then (kv.1,y) else kv) (xs.map (putAt k u)):=by
 induction r with
 | nil=>exact .nil
 | @cons p q ps qs h t ih=>
  rw [List.map_cons,List.map_cons]
  refine .cons ?_ ih
  obtain ⟨h1,h2,h3⟩:=h
  unfold putAt
  by_cases e:p.1=k
  ·rw [if_pos e,if_pos (h1.symm.trans e)];exact ⟨h1,h2,ry⟩
  ·rw [if_neg e,if_neg (fun z=>e (h1.trans z))];exact ⟨h1,h2,h3⟩
theorem KT.put {H:Hp}{kvs:List (List Key×V)}{xs:List (List Key×Addr×Value)}(r:KT H kvs xs)(k:List Key){b:Addr}{y:V}{u:Value}(hb:H b=some (.tup (k.map kV)))(ry:RelV y u) :
  KT H (qJj kvs k y) (storedH xs k b u):=by
 have e:(kvs.any fun kv=>decide (kv.1=k))=(atKey xs k).isSome:=by
  rw [qRb,(r.val k).isSome_eq,Option.isSome_map]
 unfold qJj storedH
 rw [e]
 by_cases q:(atKey xs k).isSome=true
 ·rw [if_pos q,if_pos q];exact r.repl k ry
 ·rw [if_neg q,if_neg q];exact Paired.snoc r ⟨rfl,hb,ry⟩
theorem KT.keeps {H H':Hp}{kvs:List (List Key×V)}{xs:List (List Key×Addr×Value)}(r:KT H kvs xs)(ht:∀ b ys,H b=some (.tup ys)→H' b=some (.tup ys)):KT H' kvs xs:=
 Paired.mapP r fun _ _ z=>⟨z.1,ht _ _ z.2.1,z.2.2⟩
section
variable {P:Program}{w:World}{H:Hp}{h:Heap}{a:Addr}
theorem rd_of {u:HO}(ok:HOk P w H h)(e:Rd H a u):qB7 P w H h a u:=e.ok ok
theorem qd7 {kvs:List (Key×V)}(ok:HOk P w H h)(e:Rd H a (.dK kvs)):kvs.length≤sizeLine∧(a == sysModules)=false∧∃ vs,KV kvs vs∧h.DictOf (qCc P w) a vs:=
 show qB7 P w H h a (.dK kvs) from rd_of ok e
theorem dk_of {kvs:List (Key×V)}(ok:HOk P w H h)(e:H a=some (.dK kvs)):kvs.length≤sizeLine∧(a == sysModules)=false∧∃ vs,KV kvs vs∧h.DictOf (qCc P w) a vs:=qd7 ok (.inl e)
theorem qOq {ks:List Key}(ok:HOk P w H h)(e:H a=some (.tup (ks.map kV))):(tupleKind (qCc P w)).is h ks a:=by
 obtain ⟨_,its,r,o,h1,h2,n,h3⟩:=(show qB7 P w H h a (.tup (ks.map kV)) from ok a _ e)
 exact ⟨o,its.toArray,n,h1,h2,h3,by simpa using qOr r⟩
theorem qd5 {kvs:List (List Key×V)}(ok:HOk P w H h)(e:Rd H a (.dT kvs)):kvs.length≤sizeLine∧(a == sysModules)=false∧
  ∃ xs,KT H kvs xs∧h.DictOfH (tupleKind (qCc P w)) a xs:=by
 obtain ⟨z,y,xs,r,o,es,ep,h1,h2,h3,h4,h5⟩:=(show qB7 P w H h a (.dT kvs) from rd_of ok e)
 refine ⟨z,y,xs,r,o,es,ep,h1,h2,h3,h4,fun x hx=>?_,h5⟩
 have all:∀ {l:List (List Key×V)} {m:List (List Key×Addr×Value)},KT H l m→∀ x∈m,(tupleKind (qCc P w)).is h x.1 x.2.1:=by
  intro l m q
  induction q with
  | nil=>intro x hx;exact nomatch hx
  | @cons p q ps qs hq t ih=>
   intro x hx
   rcases List.mem_cons.mp hx with e | hx
   ·subst e
    exact qOq ok (by rw [←hq.1];exact hq.2.1)
   ·exact ih x hx
 exact all r x hx
theorem dt_of {kvs:List (List Key×V)}(ok:HOk P w H h)(e:H a=some (.dT kvs)):kvs.length≤sizeLine∧(a == sysModules)=false∧
  ∃ xs,KT H kvs xs∧h.DictOfH (tupleKind (qCc P w)) a xs:=qd5 ok (.inl e)
end
def qYj (H:Hp)(a:Addr)(y:V)(r:Option V):Prop:=
 (∃ kvs k,Rd H a (.dK kvs)∧y=kV k∧r=qP2 kvs k)∨∃ kvs k b,Rd H a (.dT kvs)∧y=.ref b∧H b=some (.tup (k.map kV))∧r=qP2 kvs k
def qbz (H:Hp)(a:Addr)(y v:V)(H':Hp):Prop:=
 (∃ kvs k,H a=some (.dK kvs)∧y=kV k∧kvs.length < sizeLine∧H'=upd H a (.dK (qJj kvs k v)))∨
 ∃ kvs k b,H a=some (.dT kvs)∧y=.ref b∧H b=some (.tup (k.map kV))∧kvs.length < sizeLine∧H'=upd H a (.dT (qJj kvs k v))
theorem qYj.k {H:Hp}{a:Addr}{kvs:List (Key×V)}{k:Key}(e:H a=some (.dK kvs)):qYj H a (kV k) (qP2 kvs k):=.inl ⟨kvs,k,.inl e,rfl,rfl⟩
theorem qYj.t {H:Hp}{a b:Addr}{kvs:List (List Key×V)}{k:List Key}(e:H a=some (.dT kvs))(eb:H b=some (.tup (k.map kV))):qYj H a (.ref b) (qP2 kvs k):=.inr ⟨kvs,k,b,.inl e,rfl,eb,rfl⟩
theorem qbz.k {H:Hp}{a:Addr}{kvs:List (Key×V)}{k:Key}{v:V}(e:H a=some (.dK kvs))(hl:kvs.length < sizeLine):qbz H a (kV k) v (upd H a (.dK (qJj kvs k v))):=.inl ⟨kvs,k,e,rfl,hl,rfl⟩
theorem qbz.t {H:Hp}{a b:Addr}{kvs:List (List Key×V)}{k:List Key}{v:V}(e:H a=some (.dT kvs))(eb:H b=some (.tup (k.map kV)))(hl:kvs.length < sizeLine) :
  qbz H a (.ref b) v (upd H a (.dT (qJj kvs k v))):=.inr ⟨kvs,k,b,e,rfl,eb,hl,rfl⟩
section
variable {X:Cx}{pins:List (Addr×Obj)}{σ:St}{H:Hp}{s:Shared}{a:Addr}{y v:V}{u r:Value}{o:Option V}{A:Around}{E:Value→Shared→Prop}
theorem Inv.big (I:Inv X pins σ H s):sysModules < s.heap.objs.size:=by
 have h:mainGlobals < s.heap.objs.size:=(I.mod.glob.keeps I.bk).lt
 exact Nat.lt_trans #[4] h
theorem d_in {Q:Value→Shared→Prop}(hu:A.units + 1 < cLine)(I:Inv X pins σ H s)(g:qYj H a y o)(ry:RelV y u)(h:∀ s',Inv X pins σ H s'→Q (.bool o.isSome) s') :
  wpAny #[9] A (compareOp .In u (.ref a)) Q E s:=by
 rcases g with ⟨kvs,k,e,ey,l⟩ | ⟨kvs,k,b,e,ey,eb,l⟩
 ·subst ey
  obtain ⟨z,hd,vs,rel,dd⟩:=qd7 I.hok e
  refine wpAny_in_of (qZ6 ry) hd dd.mapOf ?_
  rw [←(rel.val k).isSome_eq,←l]
  exact h _ (I.tok _)
 ·subst ey
  cases (show u=Value.ref b from ry)
  obtain ⟨z,hd,xs,rel,dd⟩:=qd5 I.hok e
  refine wpAny_in_heap (tupleKind_room_in1 hu) (qOq I.hok eb) hd dd ?_
  have q:=(rel.val k).isSome_eq
  rw [Option.isSome_map] at q
  rw [←q,←l]
  exact h _ (I.tok _)
theorem qd9 {Q:Value→Shared→Prop}(hu:A.units + 1 < cLine)(I:Inv X pins σ H s)(g:qYj H a y o)(ry:RelV y u)(h:∀ s',Inv X pins σ H s'→Q (.bool (!o.isSome)) s') :
  wpAny #[9] A (compareOp .NotIn u (.ref a)) Q E s:=by
 rcases g with ⟨kvs,k,e,ey,l⟩ | ⟨kvs,k,b,e,ey,eb,l⟩
 ·subst ey
  obtain ⟨z,hd,vs,rel,dd⟩:=qd7 I.hok e
  refine wpAny_notIn_of (qZ6 ry) hd dd.mapOf ?_
  rw [←(rel.val k).isSome_eq,←l]
  exact h _ (I.tok _)
 ·subst ey
  cases (show u=Value.ref b from ry)
  obtain ⟨z,hd,xs,rel,dd⟩:=qd5 I.hok e
  refine wpAny_notIn_heap (tupleKind_room_in1 hu) (qOq I.hok eb) hd dd ?_
  have q:=(rel.val k).isSome_eq
  rw [Option.isSome_map] at q
  rw [←q,←l]
  exact h _ (I.tok _)
theorem qQ3 {h':Heap}{t':Nat}{ob:HO}(I:Inv X pins σ H s)(mu:Mut (H a))(hs:Heap.SameBut a s.heap h')(he:∃ q,h'.get? a=some q)(new:qB7 X.prog X.w (upd H a ob) h' a ob) :
  Inv X pins σ (upd H a ob) { s with heap:=h',toks:=t' }:=
 I.write (x:=a) (e:=a) mu (.inl rfl) (fun b q hb z=>(hs.2 b hb).trans z) he new
theorem dk_new {P:Program}{w:World}{H':Hp}{h':Heap}{kvs:List (Key×V)}{vs:List (Key×Value)}(z:kvs.length≤sizeLine)(hd:(a == sysModules)=false)(rel:KV kvs vs)(dd:h'.DictOf (qCc P w) a vs) :
  qB7 P w H' h' a (.dK kvs):=⟨z,hd,vs,rel,dd⟩
theorem qXw {H':Hp}{Q:Unit→Shared→Prop}(hu:A.units + 1 < cLine)(I:Inv X pins σ H s)(g:qbz H a y v H')(ry:RelV y u)(rv:RelV v r)(h:∀ s',Inv X pins σ H' s'→Q () s') :
  wpAny #[9] A (setItem (.ref a) u r) Q E s:=by
 rcases g with ⟨kvs,k,e,ey,l,eH⟩ | ⟨kvs,k,b,e,ey,eb,l,eH⟩
 ·subst ey eH
  obtain ⟨z,hd,vs,rel,dd⟩:=dk_of I.hok e
  have hz:vs.length≤sizeLine:=by rw [←rel.length];exact z
  have hl:(qJj kvs k v).length≤sizeLine:=by have:=qFz kvs k v;omega
  refine wpAny_setItem_pairs (hsz:=hz) (qZ6 ry) dd fun h' dd' hs=>h _ ?_
  have he:∃ q,h'.get? a=some q:=let ⟨q,_,_,hq,_⟩:=dd';⟨q,hq⟩
  exact qQ3 I (by rw [e];exact True.intro) hs he (dk_new hl hd (rel.put k rv) dd')
 ·subst ey eH
  cases (show u=Value.ref b from ry)
  obtain ⟨z,hd,xs,rel,dd⟩:=dt_of I.hok e
  have hz:xs.length≤sizeLine:=by rw [←Paired.length rel];exact z
  have hl:(qJj kvs k v).length≤sizeLine:=by have:=qFz kvs k v;omega
  refine wpAny_setItem_heap (hsz:=hz) (tupleKind_room_in1 hu) (qOq I.hok eb) dd fun h' dd' hs=>h _ ?_
  obtain ⟨q,es,ep,hq,h2,h3,h4,_,h5⟩:=dd'
  refine qQ3 I (by rw [e];exact True.intro) hs ⟨q,hq⟩ ⟨hl,hd,_,(rel.put k eb rv).keeps fun c ys ec=>?_,q,es,ep,hq,h2,h3,h4,h5⟩
  rw [qAo (ne_of ec e #[36])]
  exact ec
end
section
variable {X:Cx}{pins:List (Addr×Obj)}{σ:St}{H:Hp}{s:Shared}{a:Addr}{kvs:List (Key×V)}{k:Key}{u:Value}{A:Around}{E:Value→Shared→Prop}
end
def tDIn (ty td:TE):TE:=fun σ H Q=>ty σ H fun y H1=>td σ H1 fun x H2=>∃ a o,x=.ref a∧qYj H2 a y o∧Q (.bl o.isSome) H2
def qb5 (ty td:TE):TE:=fun σ H Q=>ty σ H fun y H1=>td σ H1 fun x H2=>∃ a o,x=.ref a∧qYj H2 a y o∧Q (.bl (!o.isSome)) H2
def sDPut (td ty tv:TE):TS:=fun D σ H=>tv σ H fun v H1=>td σ H1 fun x H2=>ty σ H2 fun y H3=>∃ a H4,x=.ref a∧qbz H3 a y v H4∧D.nx σ H4
section
variable {X:Cx}{o i e value:Expr}{pos pos' tpos:Pos}{td ty tv:TE}
theorem pc_din (hu:X.A.units + 1 < cLine)(hi:PE X i ty)(ho:PE X o td):PC X .In i o (tDIn ty td):=by
 intro pins s σ H Q I h
 refine thn (hi pins s σ H _ I h) fun iv s1 ⟨y,H1,I1,ry,q1⟩=>thn (ho pins s1 σ H1 _ I1 q1) fun u s2 ⟨x,H2,I2,rx,a,ov,ex,g,q2⟩=>?_
 subst ex
 obtain rfl:u=Value.ref a:=rx
 exact d_in hu I2 g ry fun s3 I3=>⟨.bl ov.isSome,H2,I3,rfl,q2⟩
theorem qV0 (hu:X.A.units + 1 < cLine)(hi:PE X i ty)(ho:PE X o td):PC X .NotIn i o (qb5 ty td):=by
 intro pins s σ H Q I h
 refine thn (hi pins s σ H _ I h) fun iv s1 ⟨y,H1,I1,ry,q1⟩=>thn (ho pins s1 σ H1 _ I1 q1) fun u s2 ⟨x,H2,I2,rx,a,ov,ex,g,q2⟩=>?_
 subst ex
 obtain rfl:u=Value.ref a:=rx
 exact qd9 hu I2 g ry fun s3 I3=>⟨.bl (!ov.isSome),H2,I3,rfl,q2⟩
theorem qVs (hu:X.A.units + 1 < cLine)(ho:PE X o td)(hi:PE X i ty)(hv:PE X value tv)(hs:swapsWith value (some (.Subscript o i pos')) pos.line X.env=pure false) :
  PS X (.Assign [.Subscript o i pos'] value pos) (sDPut td ty tv):=by
 intro pins s σ H D I h
 refine wpAny_Assign_Subscript (thn (hv pins s σ H _ I h) fun r s1 ⟨v,H1,I1,rv,q1⟩=>thn (ho pins s1 σ H1 _ I1 q1) fun u s2 ⟨x,H2,I2,rx,q2⟩=>thn (hi pins s2 σ H2 _ I2 q2) fun iv s3 ⟨y,H3,I3,ry,a,H4,ex,g,q3⟩=>?_) hs
 subst ex
 obtain rfl:u=Value.ref a:=rx
 exact qXw hu I3 g ry rv fun s4 I4=>⟨σ,H4,I4,q3⟩
end
theorem qaq {P:Program}{w:World}{H:Hp}(h:Heap)(hb:sysModules < h.objs.size):qB7 P w H (h.push { cls:=.type "dict",data:=.dict #[] }) h.objs.size (.dK []):=
 ⟨Nat.zero_le _,beq_eq_false_iff_ne.mpr (Ne.symm (Nat.ne_of_lt hb)),[],.nil,Heap.DictOf.new h⟩
theorem qSt {P:Program}{w:World}{H:Hp}(h:Heap)(hb:sysModules < h.objs.size):qB7 P w H (h.push { cls:=.type "dict",data:=.dict #[] }) h.objs.size (.dT []):=
 ⟨Nat.zero_le _,beq_eq_false_iff_ne.mpr (Ne.symm (Nat.ne_of_lt hb)),[],.nil,_,#[],0,Heap.get?_push_size _ rfl,⟨rfl,rfl,rfl⟩,rfl,rfl,List.nodup_nil⟩
def tDNewK:TE:=fun _ H Q=>∀ p,H p=none→Q (.ref p) (upd H p (.dK []))
def tDNewT:TE:=fun _ H Q=>∀ p,H p=none→Q (.ref p) (upd H p (.dT []))
section
variable {X:Cx}{pos:Pos}
theorem qZo:PE X (.Dict [] [] pos) tDNewK:=fun pins s σ H Q I h=>
 wpAny_Dict_empty ⟨.ref s.heap.objs.size,_,I.laid (a:=s.heap.objs.size) (o:=.dK []) (t':=s.toks) (fun _ _ q=>Heap.get?_push_of_some _ q) #[10] (qaq s.heap I.big),rfl,h _ (I.hok.fresh #[10])⟩
theorem qRy:PE X (.Dict [] [] pos) tDNewT:=fun pins s σ H Q I h=>
 wpAny_Dict_empty ⟨.ref s.heap.objs.size,_,I.laid (a:=s.heap.objs.size) (o:=.dT []) (t':=s.toks) (fun _ _ q=>Heap.get?_push_of_some _ q) #[10] (qSt s.heap I.big),rfl,h _ (I.hok.fresh #[10])⟩
end
structure M1 (X:Cx) (o:Expr) (m:Str) (apos:Pos) (e:Expr) (cpos:Pos):Prop where
 base:attributeBase o m X.env (eval o X.env)=eval o X.env
 few:((backTo cpos (starEach [e] X.env)).all (fun x=>!x.1) && #[55].all (fun x=>x.1.isSome)
  && decide (([e]:List Expr).length + ([]:List Keyword).length + (if ([]:List Keyword).isEmpty then 0 else 1) < 30))=true
 line:(apos.endLine == cpos.line)=true
 trees:backTo cpos (starEach [e] X.env)=[#[22]]
structure M2 (X:Cx) (o:Expr) (m:Str) (apos:Pos) (e f:Expr) (cpos:Pos):Prop where
 base:attributeBase o m X.env (eval o X.env)=eval o X.env
 few:((backTo cpos (starEach [e,f] X.env)).all (fun x=>!x.1) && #[55].all (fun x=>x.1.isSome)
  && decide (([e,f]:List Expr).length + ([]:List Keyword).length + (if ([]:List Keyword).isEmpty then 0 else 1) < 30))=true
 line:(apos.endLine == cpos.line)=true
 trees:backTo cpos (starEach [e,f] X.env)=[#[22],(false,eval f X.env)]
def IsD (H:Hp)(a:Addr):Prop:=(∃ kvs,Rd H a (.dK kvs))∨∃ kvs,Rd H a (.dT kvs)
section
variable {X:Cx}{pins:List (Addr×Obj)}{σ:St}{H:Hp}{s:Shared}{a:Addr}{y d:V}{u r:Value}{o:Option V}{A:Around}{E:Value→Shared→Prop}
end
section
variable {X:Cx}{o e f:Expr}{apos cpos:Pos}{td ty tx:TE}
end
section
variable {X:Cx}{pins:List (Addr×Obj)}{σ:St}{H:Hp}{s:Shared}{a:Addr}{kvs:List (Key×V)}{A:Around}{E:Value→Shared→Prop}
end
section
variable {X:Cx}{pins:List (Addr×Obj)}{σ:St}{H:Hp}{s:Shared}{a:Addr}{y:V}{u:Value}{A:Around}{E:Value→Shared→Prop}
end
open PySem PySem.Spec PyProof.Rows
section
variable {X:Cx}
end
section
variable {κ:Type}[DecidableEq κ]
end
open PySem PySem.Spec PyProof.Rows
theorem qHw {env:Env}:∀ (names:List (Str×NameKind)) (cs:List (Str×Addr)),(∀ y∈names,y.2=.free→∃ c,env.cells.lookup y.1=some c)→
  ∃ cl,(forIn names cs fun (x:Str×NameKind) (r:List (Str×Addr))=>(if (x.2 == NameKind.free)=true then do let __do_lift ←cellOf env x.1;pure (ForInStep.yield ((x.1,__do_lift)::r)) else pure (ForInStep.yield r):Sem (ForInStep (List (Str×Addr)))))=pure cl∧
   (∀ y c,cl.lookup y=some c→env.cells.lookup y=some c∨cs.lookup y=some c)∧(∀ y,(cs.lookup y).isSome=true→(cl.lookup y).isSome=true)∧∀ y∈names,y.2=.free→(cl.lookup y.1).isSome=true
 | [],cs,_=>⟨cs,by rw [List.forIn_nil],fun y c e=>.inr e,fun y e=>e,fun y hy=>nomatch hy⟩
 | (n,k)::r,cs,h=>by
  have hr:∀ y∈r,y.2=.free→∃ c,env.cells.lookup y.1=some c:=fun y hy=>h y (List.mem_cons_of_mem _ hy)
  cases hk:(k == NameKind.free) with
  | false=>
   obtain ⟨cl,e1,e2,e3,e4⟩:=qHw r cs hr
   refine ⟨cl,?_,e2,e3,fun y hy hf=>?_⟩
   ·rw [List.forIn_cons]
    simp only [hk,Bool.false_eq_true,if_false,pure_bind]
    exact e1
   ·rcases List.mem_cons.mp hy with z | z
    ·subst z
     have hf':k=.free:=hf
     subst hf'
     cases hk
    ·exact e4 y z hf
  | true=>
   have hk':k=.free:=by cases k <;> first | rfl | cases hk
   obtain ⟨c,hc⟩:=h (n,k) List.mem_cons_self hk'
   have hcell:cellOf env n=pure c:=by unfold cellOf;rw [hc]
   obtain ⟨cl,e1,e2,e3,e4⟩:=qHw r ((n,c)::cs) hr
   refine ⟨cl,?_,fun y c' e=>?_,fun y e=>e3 y ?_,fun y hy hf=>?_⟩
   ·rw [List.forIn_cons]
    simp only [hk,if_true,hcell,pure_bind]
    exact e1
   ·rcases e2 y c' e with z | z
    ·exact .inl z
    ·rw [List.lookup_cons] at z
     cases hy:(y == n) with
     | true=>
      rw [hy] at z
      have:y=n:=by simpa using hy
      subst this
      cases z
      exact .inl hc
     | false=>rw [hy] at z;exact .inr z
   ·rw [List.lookup_cons]
    cases hy:(y == n) with
    | true=>rfl
    | false=>exact e
   ·rcases List.mem_cons.mp hy with z | z
    ·subst z
     exact e3 n (by rw [List.lookup_cons];simp)
    ·exact e4 y z hf
theorem qLv {scope:Scope}{env:Env}(h:∀ y∈scope.names,y.2=.free→∃ c,env.cells.lookup y.1=some c) :
  ∃ cl,closureFor scope env=pure cl∧(∀ y c,cl.lookup y=some c→env.cells.lookup y=some c)∧∀ y∈scope.names,y.2=.free→(cl.lookup y.1).isSome=true:=by
 obtain ⟨cl,e1,e2,_,e4⟩:=qHw scope.names [] h
 refine ⟨cl,?_,fun y c e=>?_,e4⟩
 ·simp only [closureFor]
  rw [e1]
  rfl
 ·rcases e2 y c e with z | z
  ·exact z
  ·cases z
def qB5 (X:Cx)(M:List Str)(s₀:Shared)(H₀:Hp)(C:Addr)(fp:List Addr)(x:Str)(scope:Scope)(cl:List (Str×Addr)):Cx:=
 { X with env:=compEnvC scope cl C X.env,N:=x::M,s₀:=s₀,H₀:=H₀,outer:=X.stack,stack:=X.stack,ex:=fp,fn:=fun _=>false,pn:=[],xe:=fun _ _=>False }
theorem qBz {env:Env}:∀ {names:List (Str×NameKind)} {x:Str},
  (names.map fun (n,k)=>if (k == NameKind.free && env.scope.kind == .function && env.kindOf n == some .cell) then (n,NameKind.cell) else (n,k)).lookup x =
   (names.lookup x).map fun k=>if (k == NameKind.free && env.scope.kind == .function && env.kindOf x == some .cell) then NameKind.cell else k
 | [],_=>rfl
 | (n,k)::r,x=>by
  have ih:=@qBz env r x
  show List.lookup x ((if (k == NameKind.free && env.scope.kind == .function && env.kindOf n == some .cell)=true then (n,NameKind.cell) else (n,k))::_)=_
  cases hx:x == n with
  | true=>
   have hx':x=n:=by simpa using hx
   subst hx'
   by_cases hc:(k == NameKind.free && env.scope.kind == .function && env.kindOf x == some .cell)=true
   ·simp only [if_pos hc,List.lookup_cons,hx,Option.map_some]
   ·simp only [if_neg hc,List.lookup_cons,hx,Option.map_some]
  | false=>
   by_cases hc:(k == NameKind.free && env.scope.kind == .function && env.kindOf n == some .cell)=true
   ·rw [if_pos hc];simp only [List.lookup_cons,hx];exact ih
   ·rw [if_neg hc];simp only [List.lookup_cons,hx];exact ih
structure CompScope (X:Cx) (M:List Str) (x:Str) (scope:Scope):Prop where
 cell:∀ y∈scope.names,y.2≠.cell
 kind:scope.kind=.function
 names:∀ y∈scope.names,y.2=.local→scope.names.lookup y.1=some .local
 one:∀ y∈scope.names,y.2=.local→y.1=x∨y.1=".0"
 vx:scope.names.lookup x=some .local
 free:∀ y∈scope.names,y.2=.free→X.env.kindOf y.1=some .cell∨X.env.kindOf y.1=some .free
 new:x∉M
 new0:(".0":Str)∉M
 same:∀ (i:Nat) (y:Str),M[i]?=some y→scope.names.lookup y=some .free→X.N[i]?=some y
 nd:M.Nodup
 len:M.length=X.N.length
section
variable {X:Cx}{M:List Str}{x:Str}{scope:Scope}
theorem CompScope.vis (S:CompScope X M x scope){y:Str}(h:Vis #[35] y):(y=x∨y=".0")∨scope.names.lookup y=some .free:=by
 have e:#[35].names.lookup y=(scope.names.lookup y).map fun k=>if #[60] then NameKind.cell else k:=qBz
 unfold Vis at h
 rw [e] at h
 cases q:scope.names.lookup y with
 | none=>rw [q] at h;rcases h with h | h | h <;> cases h
 | some k=>
  have hm:=PySem.mem_of_lookup q
  cases k with
  | «local»=>exact .inl (S.one _ hm rfl)
  | free=>exact .inr rfl
  | cell=>exact absurd rfl (S.cell _ hm)
  | _=>rw [q] at h;rcases h with h | h | h <;> cases h
theorem CompScope.xkind (S:CompScope X M x scope):#[35].names.lookup x=some .local:=by
 have e:#[35].names.lookup x=(scope.names.lookup x).map fun k=>if (k == NameKind.free && X.env.scope.kind == .function && X.env.kindOf x == some .cell) then NameKind.cell else k:=qBz
 rw [e,S.vx]
 rfl
theorem CompScope.fkind (S:CompScope X M x scope){y:Str}(h:scope.names.lookup y=some .free):#[35].names.lookup y=some .cell∨#[35].names.lookup y=some .free:=by
 have e:#[35].names.lookup y=(scope.names.lookup y).map fun k=>if #[60] then NameKind.cell else k:=qBz
 rw [e,h]
 simp only [Option.map_some]
 split
 ·exact .inl rfl
 ·exact .inr rfl
end
theorem Un.but {fs ex:List Addr}{H H':Hp}{h h1 h2:Heap}{C:Addr}(u:Un fs ex H H' h h1)(sb:Heap.SameBut C h1 h2)(hC:h.objs.size≤C):Un fs ex H H' h h2:=by
 have ne:∀ b o,h.get? b=some o→b≠C:=fun b o e=>Nat.ne_of_lt (Nat.lt_of_lt_of_le (Heap.lt_size e) hC)
 refine ⟨fun b o e n hb hx=>(sb.2 b (ne b o e)).trans (u.keep b o e n hb hx),fun b o e n hb hx=>?_,u.free,fun b o e hx=>?_,u.tups,u.frzs,u.tbls⟩
 ·obtain ⟨sl,q⟩:=u.slot b o e n hb hx
  exact ⟨sl,(sb.2 b (ne b o e)).trans q⟩
 ·obtain ⟨o',q⟩:=u.there b o e hx
  exact ⟨o',(sb.2 b (ne b o e)).trans q⟩
theorem HOk.but {P:Program}{w:World}{H:Hp}{h h':Heap}{C:Addr}(x:HOk P w H h)(sb:Heap.SameBut C h h')(hC:H C=none):HOk P w H h':=fun b ob e=>by
 refine (x b ob e).stay (fun c v hc q=>(sb.2 c ?_).trans q) (fun _ q=>q) (fun _ _ q=>q) fun _ _ q=>q
 rintro rfl
 rcases hc with rfl | hc
 ·rw [hC] at e;cases e
 ·rw [hC] at hc;cases hc
section
variable {X:Cx}{pins:List (Addr×Obj)}{σ:St}{H:Hp}{s:Shared}{x:Str}{scope:Scope}{cl:List (Str×Addr)}{fp:List Addr}{C:Addr}{h':Heap}{t':Nat}
theorem qea (I:Inv X pins σ H s)(S:CompScope X M x scope)(hcl:∀ y c,cl.lookup y=some c→X.env.cells.lookup y=some c)(hcs:∀ y∈scope.names,y.2=.free→(cl.lookup y.1).isSome=true)
  (hC:s.heap.objs.size≤C) (hfp:∀ b∈fp,qSy X pins H b∧b < s.heap.objs.size):(qB5 X M s H C fp x scope cl).Ok where
 mod:=I.ok.mod
 tab:=fun x c P h1 h2=>I.base.tbls _ _ (I.ok.tab x c P h1 h2)
 kind:=S.kind
 glob:=I.ok.glob
 blt:=I.ok.blt
 above:=hC
 inj:=fun y z c e1 e2=>I.ok.inj y z c (hcl y c e1) (hcl z c e2)
 has:=fun y hy=>by
  have q:scope.names.lookup y=some .free:=by
   have hv:Vis #[35] y:=by
    rcases hy with z | z
    ·exact .inr (.inl z)
    ·exact .inr (.inr z)
   have e:#[35].names.lookup y=(scope.names.lookup y).map fun k=>if #[60] then NameKind.cell else k:=qBz
   have hy':#[35].names.lookup y=some .cell∨#[35].names.lookup y=some .free:=hy
   rw [e] at hy'
   cases q:scope.names.lookup y with
   | none=>rw [q] at hy';rcases hy' with z | z <;> cases z
   | some k=>
    have hm:=PySem.mem_of_lookup q
    cases k with
    | free=>rfl
    | cell=>exact absurd rfl (S.cell _ hm)
    | _=>rw [q] at hy';rcases hy' with z | z <;> cases z
  have z:=hcs _ (PySem.mem_of_lookup q) rfl
  show ∃ c,cl.lookup y=some c
  cases e:cl.lookup y with
  | none=>
   have z':(cl.lookup y).isSome=true:=z
   rw [e] at z';cases z'
  | some c=>exact ⟨c,rfl⟩
 cab:=fun y c e=>by cases e
 hd:=I.ok.hd
 frames:=I.ok.frames
 stk:=.inl rfl
 exf:=fun b hb=>⟨Nat.ne_of_lt (Nat.lt_of_lt_of_le (hfp b hb).2 hC),fun y c e=>(hfp b hb).1.2.2.2.2.1 y c (hcl y c e)⟩
 bs:=I.bs
 bsz:=Nat.le_trans I.ok.bsz I.sz
 noex:=fun b o e hb=>by
  rcases (hfp b hb).1.2.2.2.1 with z | z
  ·exact I.ok.noex b o e z
  ·exact absurd (Nat.lt_of_lt_of_le (Nat.lt_of_lt_of_le (Heap.lt_size e) I.ok.bsz) z) (Nat.lt_irrefl _)
 exfs:=fun b hb z=>by
  have hz:b∈frs X.stack:=z
  rcases List.mem_cons.mp (I.stkSub b hz) with e | e
  ·exact (hfp b hb).1.2.1 e
  ·exact (hfp b hb).1.2.2.1 e
 funs:=I.stack
 frf:=I.stkFree
theorem qau (I:Inv X pins σ H s)(S:CompScope X M x scope)(hcl:∀ y c,cl.lookup y=some c→X.env.cells.lookup y=some c)(hcs:∀ y∈scope.names,y.2=.free→(cl.lookup y.1).isSome=true)
  (hfp:∀ b∈fp,qSy X pins H b∧b < s.heap.objs.size) {m:Str→Option Value} (hns:h'.Ns s.heap.objs.size m) (old:∀ b o,s.heap.get? b=some o→h'.get? b=some o) :
  Inv (qB5 X M s H s.heap.objs.size fp x scope cl) [] (none::σ) H { s with heap:=h',toks:=t' }:=by
 have fresh:H s.heap.objs.size=none:=I.hok.fresh #[10]
 refine ⟨qea I S hcl hcs #[10] hfp,rfl,I.bare,Un.kept old,⟨m,hns,fun i y v e1 e2 hv=>?_⟩,fun y c e=>?_,fresh,fun y c e=>I.freeC y c (hcl y c e),fun p hp=>?_,I.hok.kept old,?_⟩
 ·cases i with
  | zero=>
   have e2':(none:Option V)=some v:=Option.some.inj e2
   cases e2'
  | succ i=>
   have e1':M[i]?=some y:=e1
   have e2':σ[i]?=some (some v):=e2
   rcases S.vis hv with (z | z) | z
   ·subst z
    exact absurd (List.mem_of_getElem? e1') S.new
   ·subst z
    exact absurd (List.mem_of_getElem? e1') S.new0
   ·have hk:=S.free _ (PySem.mem_of_lookup z) rfl
    obtain ⟨mm,hn,hl⟩:=I.loc
    have hv':Vis X.env.scope y:=by
     rcases hk with k | k
     ·exact .inr (.inl k)
     ·exact .inr (.inr k)
    obtain ⟨u,r,l⟩:=hl i y v (S.same i y e1' z) e2' hv'
    refine ⟨u,r,?_⟩
    rcases l with ⟨k,_⟩ | ⟨_,c,e,q⟩
    ·rcases hk with z | z
     ·rw [show X.env.kindOf y=some .local from k] at z;cases z
     ·rw [show X.env.kindOf y=some .local from k] at z;cases z
    ·have ec:cl.lookup y=some c:=by
      have z2:=hcs _ (PySem.mem_of_lookup z) rfl
      cases e3:cl.lookup y with
      | none=>
       have z3:(cl.lookup y).isSome=true:=z2
       rw [e3] at z3;cases z3
      | some c'=>
       have:=hcl y c' e3
       rw [e] at this
       cases this
       rfl
     obtain ⟨oc,ho,hd⟩:=q
     exact .inr ⟨S.fkind z,c,ec,oc,old _ _ ho,hd⟩
 ·obtain ⟨v,o,ho,hd⟩:=I.cell y c (hcl y c e)
  exact ⟨v,o,old _ _ ho,hd⟩
 ·exact absurd (show p∈([]:List #[8]) from hp) #[6]
 ·show (none::σ).length=(x::M).length
  rw [List.length_cons,List.length_cons,I.len,S.len]
theorem qXx {s1:Shared}{σ':St}{H':Hp}(I:Inv X pins σ H s)(J:Inv (qB5 X M s H s.heap.objs.size fp x scope cl) [] σ' H' s1)(hfp:∀ b∈fp,qSy X pins H b∧b < s.heap.objs.size)
  (sb:Heap.SameBut s.heap.objs.size s1.heap h'):Inv X pins σ H' { s1 with heap:=h' }:=by
 have jb:Un (frs X.stack) fp H H' s.heap s1.heap:=J.base
 refine I.call' (s':={ s1 with heap:=h' }) (ch:=fp) J.os (jb.but sb #[10]) (J.hok.but sb J.free) J.bare fun b hb=>?_
 obtain ⟨f0,f1,f2,f3,f4,f5⟩:=(hfp b hb).1
 exact ⟨f3,f1,f4,f5⟩
end
def PTs (X:Cx)(ifs:List Expr)(t:TT):Prop:=
 ∀ (pins:List #[8]) (s:Shared) (σ:St) (H:Hp) (Q:Bool→Hp→Prop),Inv X pins σ H s→t σ H Q→
  wpAny #[9] X.A (forIn ifs true fun c r=>if r=true then do let ok ←isTrue c X.env (eval c X.env);pure (ForInStep.yield ok) else pure (ForInStep.yield r)) (TP X pins σ Q) X.xe s
def tNoIf:TT:=fun _ H Q=>Q true H
theorem qcu {X:Cx}:PTs X [] tNoIf:=by
 intro pins s σ H Q I h
 rw [List.forIn_nil]
 exact wpAny_pure ⟨H,I,h⟩
theorem qct {X:Cx}{c:Expr}{t:TT}(hc:PT X c t):PTs X [c] t:=by
 intro pins s σ H Q I h
 rw [List.forIn_cons]
 simp only [if_true,List.forIn_nil]
 refine wpAny_bind (wpAny_bind (thn (hc pins s σ H Q I h) fun b s1 q=>?_))
 exact wpAny_pure (wpAny_pure q)
theorem qQ4 {prog:Program}{w:World}{A:Around}{R:Result→Shared→Prop}{s:Shared}{elt target iter:Expr}{ifs:List Expr}{scope:Scope}{pos:Pos}{it acc:Value}{env:Env}(I:Nat→Shared→Prop)
  (turn:∀ n s,I n s→wpAny #[18] A (pyNext it) (fun r s₁=>match r with
   | none=>R (.ok .next) s₁
   | some v=>wpAny #[18] A (letOwnedTupleGo target it v) (fun _ s₀=>wpAny #[18] A (assign target env v) (fun _ s₂=>
     wpAny #[18] A (forIn ifs true fun c r=>if r=true then do let ok ←isTrue c env (eval c env);pure (ForInStep.yield ok) else pure (ForInStep.yield r)) (fun ok s₃=>
      if ok=true then wpAny #[18] A (eval elt env) (fun x s₄=>
       wpAny #[18] A (call (.builtin "list.append") [acc,x]) (fun _ s₅=>∃ m,m < n∧I m s₅) (notedBy #[18] A env fun e s'=>R (.error e) s') s₄) (notedBy (model prog w) A env fun e s'=>R (.error e) s') s₃
      else ∃ m,m < n∧I m s₃) (notedBy (model prog w) A env fun e s'=>R (.error e) s') s₂) (notedBy (model prog w) A env fun e s'=>R (.error e) s') s₀) (notedBy (model prog w) A env fun e s'=>R (.error e) s') s₁) (notedBy (model prog w) A env fun e s'=>R (.error e) s') s)
  (n:Nat) (h:I n s) :
  codeAny #[18] A (.compLoop (.ListComp elt [⟨target,iter,ifs,0⟩] scope pos) 0 it acc env) R s:=by
 refine codeAny_loop rfl I (fun n s hI=>?_) n h
 show wpAny _ A ((compTurn (.ListComp elt [⟨target,iter,ifs,0⟩] scope pos) 0 it acc env).onRaise (fun x=>do noteFrame x env;theTreesLotGoes x)) _ _ s
 refine wpAny_noted ?_
 rw [compTurn_list]
 refine wpAny_bind (wpAny_standAt (wpAny_bind (wpAny_mono (turn n s hI) (fun r s₁ h₁=>?_) fun _ _ h'=>h')))
 cases r with
 | none=>exact wpAny_pure h₁
 | some v=>
  refine wpAny_bind (wpAny_mono h₁ (fun _ s₀ h₀=>?_) fun _ _ h'=>h')
  refine wpAny_bind (wpAny_mono h₀ (fun _ s₂ h₂=>wpAny_bind (wpAny_mono h₂ (fun ok s₃ h₃=>?_) fun _ _ h'=>h')) fun _ _ h'=>h')
  cases ok with
  | false=>exact wpAny_pure ⟨rfl,h₃⟩
  | true=>
   exact wpAny_bind (wpAny_bind (wpAny_mono h₃ (fun x s₄ h₄=>wpAny_bind (wpAny_mono h₄ (fun _ s₅ h₅=>wpAny_pure (wpAny_pure ⟨rfl,h₅⟩)) fun _ _ h'=>h')) fun _ _ h'=>h'))
def qb6 (wi:TI)(tt:TT)(te:TE):TE:=fun σ H Q=>wi σ H fun J H1=>∀ l,H1 l=none→∃ W:Nat→List V→Nat→Hp→Prop,(∃ m,W 0 [] m (upd H1 l (.lst [])))∧
 ∀ i acc m H2,W i acc m H2→(J.stop i H2∧Q (.ref l) H2)∨(J.go i H2∧∀ x H3,J.yld i H2 x H3→tt (some x::σ) H3 fun b H4=>
  if b=true then te (some x::σ) H4 fun y H5=>H5 l=some (.lst acc)∧acc.length < sizeLine∧∃ m',m' < m∧W (i + 1) (acc++[y]) m' (upd H5 l (.lst (acc++[y])))
  else ∃ m',m' < m∧W (i + 1) acc m' H4)
theorem qLu {X:Cx}{elt iter:Expr}{x:Str}{px:Pos}{ifs:List Expr}{scope:Scope}{cl:List (Str×Addr)}{pos:Pos}{tt:TT}{te:TE}{RR:Value→Addr→Result→Shared→Prop}{E:Value→Shared→Prop}
  {pins:List #[8]} {σ:St} {H2:Hp} {s2:Shared} {it:Addr} {fp:List Addr} {tn:Nat→Heap→Prop} {J:It} {Q:VK}
  (hc:X.calm=true) (S:CompScope X M x scope) (hcl:∀ y c,cl.lookup y=some c→X.env.cells.lookup y=some c) (hcs:∀ y∈scope.names,y.2=.free→(cl.lookup y.1).isSome=true) (hN:X.N.Nodup)
  (ht:∀ s₀ H₀ C fp,PTs #[42] ifs tt) (he:∀ s₀ H₀ C fp,PE #[42] elt te)
  (I2:Inv X pins σ H2 s2) (T:Turn X.prog X.w X.K (.Name x px) J fp it tn) (st2:tn 0 s2.heap) (f2:∀ b∈fp,qSy X pins H2 b)
  (h:∀ l,H2 l=none→∃ W:Nat→List V→Nat→Hp→Prop,(∃ m,W 0 [] m (upd H2 l (.lst [])))∧
   ∀ i acc m H2,W i acc m H2→(J.stop i H2∧Q (.ref l) H2)∨(J.go i H2∧∀ x H3,J.yld i H2 x H3→tt (some x::σ) H3 fun b H4=>
    if b=true then te (some x::σ) H4 fun y H5=>H5 l=some (.lst acc)∧acc.length < sizeLine∧∃ m',m' < m∧W (i + 1) (acc++[y]) m' (upd H5 l (.lst (acc++[y])))
    else ∃ m',m' < m∧W (i + 1) acc m' H4))
  (hRR:∀ D C s1 H',s2.heap.objs.size=D→D < C→H' C=none→(∃ m,s1.heap.Ns C m)→Q (.ref D) H'→Inv X pins σ H' s1→RR (.ref D) C (.ok .next) s1)
  : wpAny #[9] X.A (newList []) (fun acc s₃=>wpAny #[9] X.A (newFunctionEnv scope X.env.globals cl [] X.env.qual none .none (some X.env)) (fun cenv s₄=>
   codeAny #[9] X.A (.compStart #[51] 0 (.ref it) acc { cenv with scope:=relabel scope X.env }) (RR acc cenv.locals) s₄) E s₃) E s2:=by
 refine wpAny_newObj_type (wpAny_newFunctionEnv S.cell (by intro y hy;simp at hy) (fun h₁ hns₁ hsb₁=>?_) S.kind)
 dsimp only at hns₁ hsb₁ ⊢
 have lf:H2 s2.heap.objs.size=none:=I2.hok.fresh #[10]
 have I3:Inv X pins σ (upd H2 s2.heap.objs.size (.lst [])) { s2 with heap:=s2.heap.push { cls:=.type "list",dict:=none,data:=.seq ([]:List Value).toArray } }:=
  I2.laid (t':=s2.toks) (fun b u e=>Heap.get?_push_of_some _ e) #[10] ⟨Nat.zero_le _,[],0,.nil,Heap.get?_push_size _ rfl⟩
 have f3:∀ b∈fp,qSy X pins (upd H2 s2.heap.objs.size (.lst [])) b∧b < (s2.heap.push { cls:=.type "list",dict:=none,data:=.seq ([]:List Value).toArray }).objs.size:=fun b hb=>by
  obtain ⟨o,ho,_⟩:=T.obj _ _ st2 b hb
  have hlt:=Heap.lt_size ho
  obtain ⟨f0,fr⟩:=f2 b hb
  exact ⟨⟨by rw [qAo (Nat.ne_of_lt hlt)];exact f0,fr⟩,by rw [Heap.size_push];exact Nat.lt_succ_of_lt hlt⟩
 have st3:tn 0 (s2.heap.push { cls:=.type "list",dict:=none,data:=.seq ([]:List Value).toArray }):=T.keep _ _ _ st2 fun b _ o e=>Heap.get?_push_of_some _ e
 obtain ⟨W,⟨m0,w0⟩,turn⟩:=h s2.heap.objs.size lf
 have hD:X.env.locals < s2.heap.objs.size:=I2.lt
 generalize hs3:({ s2 with heap:=s2.heap.push { cls:=.type "list",dict:=none,data:=.seq ([]:List Value).toArray } }:Shared)=s3 at I3
 have hsz:s3.heap.objs.size=s2.heap.objs.size + 1:=by rw [←hs3];exact Heap.size_push _ _
 have hp3:s2.heap.push { cls:=.type "list",dict:=none,data:=.seq ([]:List Value).toArray }=s3.heap:=by rw [←hs3]
 rw [hp3] at hns₁ hsb₁ f3 st3 ⊢
 generalize hl:s2.heap.objs.size=l at w0 turn I3 f3 hD hsz ⊢
 have hC:s3.heap.objs.size=l + 1:=hsz
 have old:∀ b o,s3.heap.get? b=some o→h₁.get? b=some o:=fun b o e=>hsb₁.extBut b o (Nat.ne_of_lt (Heap.lt_size e)) (Heap.get?_push_of_some _ e)
 have J0:Inv #[49] [] (none::σ) (upd H2 l (.lst [])) { s3 with heap:=h₁,toks:=s2.toks + ([]:List (Str×Value)).length }:=qau I3 S hcl hcs f3 hns₁ old
 have e4:({ s3 with heap:=h₁,toks:=s2.toks + ([]:List (Str×Value)).length }:Shared)={ s2 with heap:=h₁,toks:=s2.toks + ([]:List (Str×Value)).length }:=by rw [←hs3]
 rw [e4] at J0
 have st4:tn 0 h₁:=T.keep _ _ _ st3 fun b _ o e=>old b o e
 have stat:∀ {H':Hp},(∀ b∈fp,H' b=none)→∀ b∈fp,qSy #[49] [] H' b:=fun {H'} hn b hb=>by
  obtain ⟨⟨f0,f1,f2,f4,f5,f6⟩,flt⟩:=f3 b hb
  refine ⟨hn b hb,Nat.ne_of_lt flt,fun z=>?_,.inl hb,fun y c e=>f5 y c (hcl y c e),fun p hp=>absurd (show p∈([]:List #[8]) from hp) #[6]⟩
  have hz:b∈frs X.stack:=z
  rcases List.mem_cons.mp (I2.stkSub b hz) with e | e
  ·exact f1 e
  ·exact f2 e
 have hN':#[49].N.Nodup:=List.nodup_cons.mpr ⟨S.new,S.nd⟩
 have loop:codeAny #[9] X.A (.compLoop #[51] 0 (.ref it) (.ref l) (compEnvC scope cl s3.heap.objs.size X.env)) (RR (.ref l) s3.heap.objs.size)
   { s2 with heap:=h₁,toks:=s2.toks + ([]:List (Str×Value)).length }:=by
  refine qQ4 (fun n s'=>∃ i acc ov H',Inv #[49] [] (ov::σ) H' s'∧tn i s'.heap∧(∀ b∈fp,H' b=none)∧W i acc n H') ?_ m0
   ⟨0,[],none,_,J0,st4,fun b hb=>(f3 b hb).1.1,w0⟩
  rintro n s5 ⟨i,acc,ov,H5,I5,st5,fr5,w5⟩
  rcases turn i acc n H5 w5 with ⟨stop,qn⟩ | ⟨go,step⟩
  ·refine thn (T.done #[49] rfl rfl rfl hc i [] s5 _ H5 _ I5 (stat fr5) st5 stop) fun r s6 ⟨hr,I6⟩=>?_
   subst hr
   have hCC:∃ m,s6.heap.Ns s3.heap.objs.size m:=let ⟨m,hn,_⟩:=I6.loc;⟨m,hn⟩
   exact hRR l _ s6 H5 hl (by rw [hC];exact Nat.lt_succ_self _) I6.free hCC qn (qXx (h':=s6.heap) I3 I6 f3 (Heap.SameBut.refl _ _))
  ·refine wpAny_mono (T.item #[49] rfl rfl rfl hc i [] s5 _ H5 (fun _ _=>False) I5 (stat fr5) st5 go) (fun r s6 ⟨u,hr,h6⟩=>?_) fun _ _ q=>q.elim
   subst hr
   refine wpAny_mono h6 (fun _ s6' ⟨y,H6,I6,r6,y6,st6,fr6⟩=>?_) fun _ _ q=>q.elim
   have I6':=I6.pinned (stat fr6) (T.obj _ _ st6)
   refine wpAny_mono (wpAny_assign_Name (qIj (E:=fun _ _=>False) (i:=0) (x:=x) I6' hN' rfl (.inl S.xkind) r6 (fun s7 I7=>?_) (.inr S.xkind))) (fun _ _ q=>q) fun _ _ q=>q.elim
   have I7':Inv #[49] ([]++qK3 fp s6'.heap) (some y::σ) H6 s7:=I7
   have again:∀ {ov':Option V} {H8:Hp} {s8:Shared} {acc':List V} {m:Nat},Inv #[49] ([]++qK3 fp s6'.heap) (ov'::σ) H8 s8→m < n→W (i + 1) acc' m H8→
     ∃ m,m < n∧∃ i acc ov H',Inv #[49] [] (ov::σ) H' s8∧tn i s8.heap∧(∀ b∈fp,H' b=none)∧W i acc m H':=fun {ov' H8 s8 acc' m} I8 hm w8=>by
    refine ⟨m,hm,i + 1,acc',ov',H8,I8.unpinned,T.keep _ _ _ st6 fun b hb o e=>(I8.pin (b,o) (List.mem_append_right _ (List.mem_append_right _ (qE6 hb e)))).1,fun b hb=>?_,w8⟩
    obtain ⟨o,e,d⟩:=T.obj _ _ st6 b hb
    exact (I8.pin (b,o) (List.mem_append_right _ (List.mem_append_right _ (qE6 hb e)))).2.1
   refine wpAny_mono (ht s3 _ s3.heap.objs.size fp _ s7 _ H6 _ I7' (step y H6 y6)) (fun b s8 ⟨H8,I8,q8⟩=>?_) fun _ _ q=>q.elim
   cases b with
   | false=>
    rw [if_neg Bool.false_ne_true] at q8 ⊢
    obtain ⟨m',hm,w8⟩:=q8
    exact again I8 hm w8
   | true=>
    rw [if_pos rfl] at q8 ⊢
    refine wpAny_mono (he s3 _ s3.heap.objs.size fp _ s8 _ H8 _ I8 q8) (fun u9 s9 ⟨z,H9,I9,r9,e9,hz9,m',hm,w9⟩=>?_) fun _ _ q=>q.elim
    refine wpAny_mono (qOl (X:=qB5 X M s3 (upd H2 l (.lst [])) s3.heap.objs.size fp x scope cl) _ s9 _ H9 (.ref l) [z] (.ref l) [u9] (fun v H'=>v=.non∧H'=upd H9 l (.lst (acc++[z]))) I9 rfl (.cons r9 .nil)
     ⟨l,acc,z,rfl,rfl,e9,hz9,rfl,rfl⟩) (fun v10 s10 ⟨_,H10,I10,_,_,e10⟩=>?_) fun _ _ q=>q.elim
    subst e10
    exact again I10 hm w9
 exact codeAny_compStart_list loop (T.self X.A 0 _ _ _ st4 loop)
section
variable {X:Cx}{elt iter:Expr}{x y:Str}{px py:Pos}{ifs:List Expr}{scope:Scope}{pos spos:Pos}{wi:TI}{tt:TT}{te:TE}
theorem qc5 (hc:X.calm=true)(hN:X.N.Nodup)(S:CompScope X M x scope)(hi:PI X (.Name x px) iter wi)
  (ht:∀ s₀ H₀ C fp cl,PTs #[42] ifs tt) (he:∀ s₀ H₀ C fp cl,PE #[42] elt te)
  (hs:∀ x,foldedSetIterable iter X.env x=pure x:=by intro _;rfl):PE X #[51] (qb6 wi tt te):=by
 intro pins s σ H Q I h
 obtain ⟨cl,hclos,hcl,hcs⟩:=qLv (env:=X.env) (scope:=scope) fun y hy hf=>I.ok.has y.1 (S.free y hy hf)
 rw [eval_ListComp]
 refine wpAny_comprehension_free (use:=none) rfl hs hclos S.kind S.names (thn (hi pins s σ H _ I h) fun v s1 h1=>thn h1 fun itv s2 h2=>?_)
 obtain ⟨it,fp,tn,J,H2,e,I2,T,st2,f2,hW⟩:=h2
 subst e
 refine qLu (RR:=fun acc C=>compPost #[9] X.A X.xe none (EP X pins σ Q) acc C) hc S hcl hcs hN (fun s₀ H₀ C fp=>ht s₀ H₀ C fp cl) (fun s₀ H₀ C fp=>he s₀ H₀ C fp cl) I2 T st2 f2 hW ?_
 intro D C s1 H' hD hDC hCf hm q I1
 obtain ⟨m,hm⟩:=hm
 obtain ⟨g0,g1,g2,g3,g4,g5⟩:=I2.fpOk (b:=C) (H':=H') (by rw [hD];exact Nat.le_of_lt hDC) hCf
 exact ⟨m,hm,fun h' sb=>⟨.ref D,H',I1.turned (t':=s1.toks) (fun b o hb e=>(sb.2 b hb).trans e) g0 g1 g3 g4 g5,rfl,q⟩⟩
theorem qcy {i:Nat}(hc:X.calm=true)(hN:X.N.Nodup)(S:CompScope X M x scope)(hi:PI X (.Name x px) iter wi)(hiy:X.N[i]?=some y)(hy:X.env.scope.names.lookup y=some .local)
  (ht:∀ s₀ H₀ C fp cl,PTs #[42] ifs tt) (he:∀ s₀ H₀ C fp cl,PE #[42] elt te)
  (hsw:swapsWith #[51] (some (.Name y py)) spos.line X.env=pure true)
  (hs:∀ x,foldedSetIterable iter X.env x=pure x:=by intro _;rfl) :
  PS X (.Assign [.Name y py] #[51] spos) (fun D σ H=>qb6 wi tt te σ H fun v H'=>D.nx (σ.set i (some v)) H'):=by
 intro pins s σ H D I h
 obtain ⟨cl,hclos,hcl,hcs⟩:=qLv (env:=X.env) (scope:=scope) fun y hy hf=>I.ok.has y.1 (S.free y hy hf)
 rw [exec_Assign_Name_used _ _ _ _ hsw]
 refine wpAny_bind (wpAny_standAt (wpAny_bind ?_))
 show wpAny _ X.A (do let _ ←comprehension #[51] scope X.env _ (newList []) false (eval iter X.env) (some (assign (.Name y py) X.env))) _ _ s
 refine wpAny_bind (wpAny_mono (wpAny_comprehension_free (use:=some (assign (.Name y py) X.env)) (Q:=fun _ s'=>SP X pins D .next s') rfl hs hclos S.kind S.names
  (thn (hi pins s σ H _ I h) fun v s1 h1=>thn h1 fun itv s2 h2=>?_)) (fun _ s' hq=>wpAny_pure (wpAny_pure hq)) fun _ _ e=>e)
 obtain ⟨it,fp,tn,J,H2,e,I2,T,st2,f2,hW⟩:=h2
 subst e
 refine qLu (Q:=fun v H'=>D.nx (σ.set i (some v)) H') (RR:=fun acc C=>compPost #[9] X.A X.xe (some (assign (.Name y py) X.env)) (fun _ s'=>SP X pins D .next s') acc C) hc S hcl hcs hN (fun s₀ H₀ C fp=>ht s₀ H₀ C fp cl) (fun s₀ H₀ C fp=>he s₀ H₀ C fp cl) I2 T st2 f2 hW ?_
 intro D' C s1 H' hD hDC hCf hm q I1
 obtain ⟨m,hm⟩:=hm
 obtain ⟨g0,g1,g2,g3,g4,g5⟩:=I2.fpOk (b:=C) (H':=H') (by rw [hD];exact Nat.le_of_lt hDC) hCf
 show wpAny _ X.A (assign (.Name y py) X.env (.ref D')) _ _ _
 refine wpAny_assign_Name (qNh I1 hN hiy (.inl hy) (v:=.ref D') rfl (fun s2 I2' hsame=>?_) (.inr hy))
 obtain ⟨a,hsb,ha⟩:=hsame
 have hne:C≠a:=by
  rcases ha with z | ha
  ·rw [z];exact g1
  ·exact fun z=>g4 y a ha z.symm
 refine ⟨m,hm.sameBut hsb hne,fun h3 hs3=>?_⟩
 exact ⟨_,H',I2'.turned (t':=s2.toks) (fun b o hb e=>(hs3.2 b hb).trans e) g0 g1 g3 g4 g5,q⟩
end
def qPk (scope fs:Scope)(x:Str)(N:List Str):Bool:=
 scope.names.all (fun y=>(y.2 != .cell) && ((y.2 != .local) || ((scope.names.lookup y.1 == some .local) && (y.1 == x || y.1 == ".0"))) && ((y.2 != .free) || (fs.names.lookup y.1 == some .cell || fs.names.lookup y.1 == some .free)))
  && (scope.kind == .function) && (scope.names.lookup x == some .local) && !(N.contains x) && !(N.contains ".0")
theorem qBo {X:Cx}{x:Str}{scope:Scope}(fs:Scope)(N:List Str)(e1:X.env.scope=fs)(e2:X.N=N)(h:qPk scope fs x N=true)(hn:N.Nodup:=by decide +kernel):CompScope X N x scope:=by
 unfold qPk at h
 simp only [Bool.and_eq_true,Bool.not_eq_true',List.all_eq_true,Bool.or_eq_true,bne_iff_ne,beq_iff_eq] at h
 obtain ⟨⟨⟨⟨h1,h2⟩,h3⟩,h4⟩,h5⟩:=h
 refine ⟨fun y hy=>(h1 y hy).1.1,h2,fun y hy hl=>?_,fun y hy hl=>?_,h3,fun y hy hf=>?_,?_,?_,fun i y e _=>by rw [e2];exact e,hn,by rw [e2]⟩
 ·rcases (h1 y hy).1.2 with z | z
  ·exact absurd hl z
  ·exact z.1
 ·rcases (h1 y hy).1.2 with z | z
  ·exact absurd hl z
  ·exact z.2
 ·show X.env.scope.names.lookup y.1=_∨X.env.scope.names.lookup y.1=_
  rw [e1]
  rcases (h1 y hy).2 with z | z
  ·exact absurd hf z
  ·exact z
 ·intro z;rw [List.contains_iff_mem.mpr z] at h4;cases h4
 ·intro z;rw [List.contains_iff_mem.mpr z] at h5;cases h5
open PySem PySem.Spec PyProof.Rows
def Its (z:Str):It:=⟨fun i _=>i < z.cps.size,fun i H v H'=>H'=H∧∃ c,z.cps[i]?=some c∧v=.str ⟨#[c]⟩,fun i _=>i=z.cps.size⟩
theorem qRc {P:Program}{w:World}{K:PySem.W.Frag}{tg:Expr}{T:String}(z:Str)(t:Tok)(it:Addr)(hT:["enumerate","zip","dict_itemiterator","dict_reverseitemiterator","odict_iterator","itertools.zip_longest","itertools.pairwise"].contains T=false)
  (hW:∀ A':Around,A'.handled=none→Walks P w A' it [it] [it] z.cps.size (SignAt z) (fun i h=>h.IsStrIter it T z t i))
  (hS:∀ (A:Around) (i:Nat) (s:Shared) (Q:Value→Shared→Prop) (E:Value→Shared→Prop),s.heap.IsStrIter it T z t i→Q (.ref it) s→wpAny (model P w) A (pyIter (.ref it)) Q E s):Turn P w K tg (Its z) [it] it (fun i h=>h.IsStrIter it T z t i) where
 mem:=by simp
 obj:=fun i h st b hb=>by
  have e:b=it:=by simpa using hb
  subst e
  obtain ⟨o,e,c,d⟩:=st
  exact ⟨o,e,fun v z=>by rw [d] at z;cases z⟩
 keep:=fun i h h' st k=>by
  obtain ⟨o,e,r⟩:=st
  exact ⟨o,k it #[6] o e,r⟩
 item:=by
  intro X hP hw hK hc i pins s σ H E I hf st hg
  subst hP hw hK
  obtain ⟨f0,f1,f2,f3,f4,f5⟩:=hf it #[6]
  refine (hW X.A (I.ok.hd hc)).item i s _ _ hg st fun v h' tk hv st' kk=>?_
  obtain ⟨c,u,hcu,rfl⟩:=hv
  have I1:Inv X pins σ H { s with heap:=h',toks:=tk }:=I.turned (fun b o hb e=>kk b o (by simpa using hb) e) f0 f1 f3 f4 f5
  obtain ⟨o,e,c',d⟩:=id st'
  exact ⟨_,rfl,qae (s:={ s with heap:=h',toks:=tk }) e c' d hT ⟨.str ⟨#[c]⟩,H,I1,⟨u,rfl⟩,⟨rfl,c,hcu,rfl⟩,st',fun b hb=>(hf b hb).1⟩⟩
 done:=by
  intro X hP hw hK hc i pins s σ H E I hf st hg
  subst hP hw hK
  obtain ⟨f0,f1,f2,f3,f4,f5⟩:=hf it #[6]
  have hg':i=z.cps.size:=hg
  subst hg'
  exact (hW X.A (I.ok.hd hc)).done s _ _ st fun h' tk kk=>⟨rfl,I.turned (fun b o hb e=>kk b o (by simpa using hb) e) f0 f1 f3 f4 f5⟩
 self:=hS
theorem Inv.laidTurn {X:Cx}{pins:List #[8]}{σ:St}{H:Hp}{s:Shared}{h':Heap}{t':Nat}{ch:List Addr}{a:Addr}{o:HO}(I:Inv X pins σ H s)(hf:∀ b∈ch,qSy X pins H b)
  (k:∀ b u,b∉ch→s.heap.get? b=some u→h'.get? b=some u) (hp:s.heap.objs.size≤a) (new:qB7 X.prog X.w (upd H a o) h' a o):Inv X pins σ (upd H a o) { s with heap:=h',toks:=t' }:=by
 have hn:H a=none:=I.hok.fresh hp
 have ntr:∀ b u,H b=some u→b∉ch:=fun b u e z=>by rw [(hf b z).1] at e;cases e
 have nea:∀ b u,s.heap.get? b=some u→b≠a:=fun b u e=>Nat.ne_of_lt (Nat.lt_of_lt_of_le (Heap.lt_size e) hp)
 refine I.step (g':=s.gens) (d':=s.drawn) (ch:=ch) (fun b hb=>?_) (fun b u _ _ hc e _=>k b u hc e) (fun b u _ _ hc e _=>⟨u.slots,k b u hc e⟩) (fun b u _ e n=>by rw [qAo (nea b u e)];exact n)
  (fun b u hc e=>⟨u,k b u hc e⟩) (fun b xs e=>by rw [qAo (qAm e hn)];exact e) (fun b u xs e=>by rw [qAo (qAm e hn)];exact e) (fun b ps e=>by rw [qAo (qAm e hn)];exact e) (fun m hm=>?_) (fun b u e=>?_) I.bare
 ·obtain ⟨f0,f1,f2,f3,f4,f5⟩:=hf b hb
  exact ⟨f3,f1,f4,f5⟩
 ·obtain ⟨ob,es,ep,ho,r⟩:=hm
  exact ⟨ob,es,ep,k _ ob (fun z=>(hf _ z).2.1 rfl) ho,r⟩
 ·by_cases hb:b=a
  ·subst hb;rw [qAu] at e;cases e;exact new
  ·rw [qAo hb] at e
   refine (I.hok b u e).stay (fun c v hc q=>k c v ?_ q) (fun c q=>by rw [qAo (qAm q hn)];exact q) (fun c xs q=>by rw [qAo (qAm q hn)];exact q) fun c xs q=>by rw [qAo (qAm q hn)];exact q
   rcases hc with z | z
   ·rw [z];exact ntr b u e
   ·exact ntr c _ z
section
variable {prog:Program}{w:World}{A:Around}{E:Value→Shared→Prop}{s:Shared}
theorem qD7 {it l:Addr}{i:Nat}{items}{x:Value}{Q:Value→Shared→Prop}(hit:s.heap.IsTupleIter it l i)
  (hl:s.heap.IsTuple l items) (hx:items[i]?=some x)
  (hQ:∀ h',h'.IsTupleIter it l (i + 1)→Heap.SameBut it s.heap h'→Q x { s with heap:=h' }) :
  wpAny #[18] A (Builtin.SmallTypes.nextOf (.ref it)) Q E s:=by
 obtain ⟨o,ho,hc,hd⟩:=id hit
 obtain ⟨ol,hol,_,nl,hdl⟩:=hl
 unfold Builtin.SmallTypes.nextOf
 refine wpAny_bind (wpAny_callSpecial?_slot (name:=Str.ofString "__next__") hit.typeIs F.slot_tuple_iterator_next
  (wpAny_call_entry F.slot_tuple_iterator_next hit.typeIs F.entry_tuple_iterator_next ?_ (F.args_tuple_iterator_next_1 _)))
 show wpAny _ _ (field (.ref it) 0>>=_) _ _ s
 refine wpAny_bind (wpAny_field ho hd (x:=.ref l) rfl ?_)
 show wpAny _ _ (if (Value.ref l == Value.none)=true then _ else _) _ _ s
 rw [if_neg (show ¬ ((Value.ref l == Value.none)=true) from Bool.false_ne_true)]
 show wpAny _ _ (field (.ref it) 1>>=_) _ _ s
 refine wpAny_bind (wpAny_field ho hd (x:=.int i 0) rfl ?_)
 show wpAny _ _ (seqItems? (.ref l)>>=_) _ _ s
 refine wpAny_bind (wpAny_seqItems hol hdl ?_)
 simp only [Int.toNat_natCast,hx]
 refine wpAny_bind (wpAny_setField ho hd #[6] (wpAny_pure ⟨x,rfl,wpAny_pure (hQ _ ?_ (Heap.SameBut.update ..))⟩))
 exact ⟨_,Heap.get?_update_self _ ho (Obj.isFreed_of_fields (Obj.data_mapFields hd _)),(Obj.cls_mapFields ..).trans hc,by
  rw [Obj.data_mapFields hd];simp [rawInt]⟩
theorem qEn {it l:Addr}{i:Nat}{items}{Q:Value→Shared→Prop}(hh:A.handled=none)
  (hit:s.heap.IsTupleIter it l i) (hl:s.heap.IsTuple l items) (hx:items[i]?=none)
  (hE:∀ h' e,Heap.ExtBut it s.heap h'→(∃ o,h'.get? e=some o∧o.cls=.type "StopIteration")→E (.ref e) { s with heap:=h' }) :
  wpAny #[18] A (Builtin.SmallTypes.nextOf (.ref it)) Q E s:=by
 obtain ⟨o,ho,hc,hd⟩:=id hit
 obtain ⟨ol,hol,_,nl,hdl⟩:=hl
 unfold Builtin.SmallTypes.nextOf
 refine wpAny_bind (wpAny_callSpecial?_slot (name:=Str.ofString "__next__") hit.typeIs F.slot_tuple_iterator_next
  (wpAny_call_entry F.slot_tuple_iterator_next hit.typeIs F.entry_tuple_iterator_next ?_ (F.args_tuple_iterator_next_1 _)))
 show wpAny _ _ (field (.ref it) 0>>=_) _ _ s
 refine wpAny_bind (wpAny_field ho hd (x:=.ref l) rfl ?_)
 show wpAny _ _ (if (Value.ref l == Value.none)=true then _ else _) _ _ s
 rw [if_neg (show ¬ ((Value.ref l == Value.none)=true) from Bool.false_ne_true)]
 show wpAny _ _ (field (.ref it) 1>>=_) _ _ s
 refine wpAny_bind (wpAny_field ho hd (x:=.int i 0) rfl ?_)
 show wpAny _ _ (seqItems? (.ref l)>>=_) _ _ s
 refine wpAny_bind (wpAny_seqItems hol hdl ?_)
 simp only [Int.toNat_natCast,hx]
 refine wpAny_bind (wpAny_rule (wpAny_bind (wpAny_setField ho hd #[6] ?_)))
 show wpAny _ _ (newExc (.type "StopIteration") []>>=_) _ _ _
 refine wpAny_bind ?_
 simp only [newExc,newTuple]
 refine wpAny_bind (wpAny_newObj_type ?_ (by size_fits))
 refine wpAny_bind (m:=firstArgMember _ _) (wpAny_of_eq (a:=Value.none) (by first | rfl | (simp only [firstArgMember];rfl)) ?_)
 refine wpAny_newObj_type ?_ (by size_fits)
 simp only [raiseNew]
 refine wpAny_bind (wpAny_handled ?_)
 first | rw [show A.in1.handled=none from hh] | rw [hh]
 refine wpAny_bind (wpAny_pure (wpAny_throw ?_))
 exact hE _ _ (((Heap.SameBut.update ..).extBut.push _).push _) ⟨_,Heap.get?_push_size _ rfl,rfl⟩
theorem qLs (hh:A.handled=none)(it l:Addr)(hne:l≠it)(items:Array Value) :
  Draws prog w A it [it,l] items.size (fun i v=>items[i]?=some v) (fun i h=>h.IsTupleIter it l i∧h.IsTuple l items) where
 live:=fun _ _ st=>let ⟨o,ho,_⟩:=st.1;⟨o,ho⟩
 frame:=fun _ _ _ st hk=>⟨let ⟨o,ho,r⟩:=st.1;⟨o,hk it #[6] o ho,r⟩,let ⟨o,ho,r⟩:=st.2;⟨o,hk l #[6] o ho,r⟩⟩
 item:=fun i s Q E hi st hQ=>by
  refine qD7 st.1 st.2 (x:=items[i]) (by simp [hi]) fun h' hit' hs'=>?_
  exact hQ _ h' s.toks (by simp [hi]) ⟨hit',let ⟨o,ho,r⟩:=st.2;⟨o,hs'.extBut l o hne ho,r⟩⟩ hs'
 done:=fun s Q E st hE=>qEn hh st.1 st.2 #[6] hE
end
theorem qFc (l:Addr)(items:Array Value)(n:Nat)(dct:Option Addr)(sl:Array (Option Value)) :
  Meets (Builtin.«enumerate.__new__» ⟨[.type "enumerate",.ref l],[]⟩) (fun _ R s=>s.heap.get? l=some { cls:=.type "tuple",dict:=dct,data:=.seq items n,slots:=sl }∧
   R (.ok (.ret (.ref #[61].objs.size)))
    { s with heap:=#[61].push { cls:=.type "enumerate",data:=.fields #[.none,.bool false,.ref s.heap.objs.size,rawInt 0,.none,.none] } }):=
 .of_wp fun prog w A R s h=>by
  obtain ⟨hp,g,d,tk,os⟩:=s;obtain ⟨hl,h⟩:=h
  have hsub:=sub_enumerate
  have hL:Heap.IsTuple (Shared.heap ⟨hp,g,d,tk,os⟩) l items:=⟨_,hl,rfl,n,rfl⟩
  wp_walk using AutoSeq1.wpAny_loadPart' hl
  refine wpAny_stack_any fun st=>wpAny_pure ?_
  split
  ·rename_i c _ _ _ _ _
   cases (c == Value.type "enumerate")
   ·wp_walk using AutoSeq1.wpAny_loadPart' hl,wpAny_pyIter_tuple hL
    exact ⟨_,rfl,h⟩
   ·wp_walk using AutoSeq1.wpAny_loadPart' hl,wpAny_pyIter_tuple hL
    exact ⟨_,rfl,h⟩
  ·wp_walk using AutoSeq1.wpAny_loadPart' hl,wpAny_pyIter_tuple hL
   exact ⟨_,rfl,h⟩
theorem qFd {prog:Program}{w:World}{A:Around}{E:Value→Shared→Prop}{s:Shared}{l:Addr}{items:Array Value}{Q:Value→Shared→Prop}(hL:s.heap.IsTuple l items)
  (h:∀ h',IsEnum h' (s.heap.objs.size + 1) s.heap.objs.size 0 .none→h'.IsTupleIter s.heap.objs.size l 0→h'.objs.size=s.heap.objs.size + 2→
   (∀ b o,s.heap.get? b=some o→h'.get? b=some o)→Q (.ref (s.heap.objs.size + 1)) { s with heap:=h' }) :
  wpAny #[18] A (call (.type "enumerate") [.ref l]) Q E s:=by
 obtain ⟨⟨c,dct,dt,sl⟩,hl,hc,n,hd⟩:=hL
 replace hc:c=.type "tuple":=hc
 replace hd:dt=.seq items n:=hd
 subst hc hd
 refine callType_new F.called_enumerate #[4] (F.typeCall_enumerate_1 _) (F.newCall_enumerate_1 _) (fun obj=>F.args_object_init_2 obj _) F.entry_enumerate_new
  (qFc l items n dct sl) ⟨hl,?_⟩
 have hz:#[61].objs.size=s.heap.objs.size + 1:=Heap.size_push ..
 show _∧_
 rw [hz]
 have he:IsEnum (#[61].push
   { cls:=.type "enumerate",data:=.fields #[.none,.bool false,.ref s.heap.objs.size,rawInt 0,.none,.none] }) (s.heap.objs.size + 1) s.heap.objs.size 0 .none:=by
  have:=Heap.get?_push_size #[61]
   (o:={ cls:=.type "enumerate",data:=.fields #[.none,.bool false,.ref s.heap.objs.size,rawInt 0,.none,.none] }) rfl
  rw [hz] at this;exact this
 refine ⟨⟨_,he,rfl⟩,h _ he ⟨_,Heap.get?_push_of_some _ (Heap.get?_push_size _ rfl),rfl,rfl⟩ (by rw [Heap.size_push,hz]) fun b o x=>Heap.get?_push_of_some _ (Heap.get?_push_of_some _ x)⟩
def IeL (K:PySem.W.Frag)(a:Addr):It:=
 ⟨fun i H=>∃ xs x,SqL K H a xs∧xs[i]?=some x,fun i H x H'=>∃ p v,x=.ref p∧H p=none∧(∀ xs,SqL K H a xs→xs[i]?=some v)∧H'=upd H p (.tup [.int (i:Int),v]),fun i H=>∃ xs,SqL K H a xs∧xs.length=i⟩
theorem qS2 {P:Program}{w:World}{K:PySem.W.Frag}{elts:List Expr}{kk:Nat}{tpos:Pos}(a it e:Addr)(hei:e≠it)(hai:a≠it) :
  Turn P w K (.Tuple elts kk tpos) (IeL K a) [e,it] e (fun i h=>(∃ old,IsEnum h e it i old)∧h.IsListIter it a i) where
 mem:=by simp
 obj:=fun i h st b hb=>by
  obtain ⟨⟨old,he⟩,o,ho,c,d⟩:=st
  rcases List.mem_cons.mp hb with rfl | hb
  ·exact ⟨_,he,fun v z=>by
    have z':Data.fields _=Data.cell v:=z
    cases z'⟩
  ·have:b=it:=by simpa using hb
   subst this
   exact ⟨o,ho,fun v z=>by rw [d] at z;cases z⟩
 keep:=fun i h h' st k=>by
  obtain ⟨⟨old,he⟩,o,ho,r⟩:=st
  exact ⟨⟨old,k e #[6] _ he⟩,o,k it #[6] o ho,r⟩
 item:=by
  intro X hP hw hK hc i pins s σ H E I hf st hg
  subst hP hw hK
  obtain ⟨xs,x,hq,hx⟩:=hg
  obtain ⟨its,rv,p,hz⟩:=I.list hq
  obtain ⟨u,hu,ru⟩:=rv.get hx
  obtain ⟨⟨old,he⟩,hit⟩:=st
  have hil:i < its.length:=(List.getElem?_eq_some_iff.mp hu).1
  have hea:e≠a:=fun z=>by
   subst z
   obtain ⟨oa,na,ea,ec,_⟩:=p
   rw [he] at ea;cases ea
   exact absurd (show Value.type "enumerate"=Value.type "list" from ec) #[4]
  have D:=Draws.list (prog:=X.prog) (w:=X.w) (A:=X.A.in1) (I.ok.hd hc) it a hai its.toArray
  refine wpAny_pyNext_enum_itemD D he ⟨hit,p.isList⟩ (by simpa using hil) hei (by simp [hei,hea]) fun y h' tk hy ho hs' hT hsz hk=>?_
  have ey:y=u:=by
   have hy':its[i]?=some y:=by simpa using hy
   rw [hu] at hy'
   exact (Option.some.inj hy').symm
  subst ey
  refine ⟨_,rfl,wpAny_letOwnedTupleGo_enum ho fun h2 he2 hs2=>?_⟩
  have hlt:e < s.heap.objs.size:=Heap.lt_size he
  have keep2:∀ b o,b∉[e,it]→s.heap.get? b=some o→h2.get? b=some o:=fun b o hb q=>by
   have hb1:b≠e:=fun z=>hb (by simp [z])
   have hb2:b≠it:=fun z=>hb (by simp [z])
   exact (hs2.2 b hb1).trans (hk b o hb1 hb2 q)
  have hTe:s.heap.objs.size≠e:=Nat.ne_of_gt hlt
  have hT2:h2.get? s.heap.objs.size=some { cls:=.type "tuple",data:=.seq #[.int i tk,y] }:=(hs2.2 _ hTe).trans hT
  have I2:Inv X pins σ (upd H s.heap.objs.size (.tup [.int (i:Int),x])) { s with heap:=h2,toks:=tk + 1 }:=
   I.laidTurn (ch:=[e,it]) hf keep2 #[10] ⟨by rw [show ([.int (i:Int),x]:List V).length=2 from rfl,sizeLine_eq];decide,[.int i tk,y],.cons ⟨tk,rfl⟩ (.cons ru .nil),_,hT2,rfl,_,rfl⟩
  have fr:H s.heap.objs.size=none:=I.hok.fresh #[10]
  refine ⟨.ref s.heap.objs.size,_,I2,rfl,⟨_,x,rfl,fr,fun ys hy=>by rw [I.list_inj hy hq];exact hx,rfl⟩,⟨⟨y,by simpa using he2⟩,?_⟩,fun b hb=>?_⟩
  ·obtain ⟨⟨o,ho',r⟩,_⟩:=hs'
   exact ⟨o,(hs2.2 it (Ne.symm hei)).trans ho',r⟩
  ·have hb2:b < s.heap.objs.size:=by
    rcases List.mem_cons.mp hb with rfl | hb
    ·exact hlt
    ·have:b=it:=by simpa using hb
     subst this
     obtain ⟨o,ho',_⟩:=hit
     exact Heap.lt_size ho'
   rw [qAo (Nat.ne_of_lt hb2)]
   exact (hf b hb).1
 done:=by
  intro X hP hw hK hc i pins s σ H E I hf st hg
  subst hP hw hK
  obtain ⟨xs,hq,hx⟩:=hg
  obtain ⟨its,rv,p,hz⟩:=I.list hq
  obtain ⟨⟨old,he⟩,hit⟩:=st
  have hl:=rv.length
  have D:=Draws.list (prog:=X.prog) (w:=X.w) (A:=X.A.in1) (I.ok.hd hc) it a hai its.toArray
  have hn:its.toArray.size=i:=by simp;omega
  refine wpAny_pyNext_enum_endD D he (by rw [hn];exact ⟨hit,p.isList⟩) fun h' eb=>⟨rfl,?_⟩
  obtain ⟨f0,f1,f2,f3,f4,f5⟩:=hf it #[6]
  exact I.turned (t':=s.toks) (fun b o hb q=>eb b o hb q) f0 f1 f3 f4 f5
 self:=fun A i s Q E st h=>by
  obtain ⟨⟨old,he⟩,_⟩:=st
  exact wpAny_pyIter_enum he h
def IeT (K:PySem.W.Frag)(a:Addr):It:=
 ⟨fun i H=>∃ xs x,SqT K H a xs∧xs[i]?=some x,fun i H x H'=>∃ p v,x=.ref p∧H p=none∧(∀ xs,SqT K H a xs→xs[i]?=some v)∧H'=upd H p (.tup [.int (i:Int),v]),fun i H=>∃ xs,SqT K H a xs∧xs.length=i⟩
theorem qS1 {P:Program}{w:World}{K:PySem.W.Frag}{elts:List Expr}{kk:Nat}{tpos:Pos}(a it e:Addr)(hei:e≠it)(hai:a≠it) :
  Turn P w K (.Tuple elts kk tpos) (IeT K a) [e,it] e (fun i h=>(∃ old,IsEnum h e it i old)∧h.IsTupleIter it a i) where
 mem:=by simp
 obj:=fun i h st b hb=>by
  obtain ⟨⟨old,he⟩,o,ho,c,d⟩:=st
  rcases List.mem_cons.mp hb with rfl | hb
  ·exact ⟨_,he,fun v z=>by
    have z':Data.fields _=Data.cell v:=z
    cases z'⟩
  ·have:b=it:=by simpa using hb
   subst this
   exact ⟨o,ho,fun v z=>by rw [d] at z;cases z⟩
 keep:=fun i h h' st k=>by
  obtain ⟨⟨old,he⟩,o,ho,r⟩:=st
  exact ⟨⟨old,k e #[6] _ he⟩,o,k it #[6] o ho,r⟩
 item:=by
  intro X hP hw hK hc i pins s σ H E I hf st hg
  subst hP hw hK
  obtain ⟨xs,x,hq,hx⟩:=hg
  obtain ⟨its,rv,p,hz⟩:=I.tuple hq
  obtain ⟨u,hu,ru⟩:=rv.get hx
  obtain ⟨⟨old,he⟩,hit⟩:=st
  have hil:i < its.length:=(List.getElem?_eq_some_iff.mp hu).1
  have hea:e≠a:=fun z=>by
   subst z
   obtain ⟨oa,ea,ec,_⟩:=p
   rw [he] at ea;cases ea
   exact absurd (show Value.type "enumerate"=Value.type "tuple" from ec) #[4]
  have D:=qLs (prog:=X.prog) (w:=X.w) (A:=X.A.in1) (I.ok.hd hc) it a hai its.toArray
  refine wpAny_pyNext_enum_itemD D he ⟨hit,p⟩ (by simpa using hil) hei (by simp [hei,hea]) fun y h' tk hy ho hs' hT hsz hk=>?_
  have ey:y=u:=by
   have hy':its[i]?=some y:=by simpa using hy
   rw [hu] at hy'
   exact (Option.some.inj hy').symm
  subst ey
  refine ⟨_,rfl,wpAny_letOwnedTupleGo_enum ho fun h2 he2 hs2=>?_⟩
  have hlt:e < s.heap.objs.size:=Heap.lt_size he
  have keep2:∀ b o,b∉[e,it]→s.heap.get? b=some o→h2.get? b=some o:=fun b o hb q=>by
   have hb1:b≠e:=fun z=>hb (by simp [z])
   have hb2:b≠it:=fun z=>hb (by simp [z])
   exact (hs2.2 b hb1).trans (hk b o hb1 hb2 q)
  have hTe:s.heap.objs.size≠e:=Nat.ne_of_gt hlt
  have hT2:h2.get? s.heap.objs.size=some { cls:=.type "tuple",data:=.seq #[.int i tk,y] }:=(hs2.2 _ hTe).trans hT
  have I2:Inv X pins σ (upd H s.heap.objs.size (.tup [.int (i:Int),x])) { s with heap:=h2,toks:=tk + 1 }:=
   I.laidTurn (ch:=[e,it]) hf keep2 #[10] ⟨by rw [show ([.int (i:Int),x]:List V).length=2 from rfl,sizeLine_eq];decide,[.int i tk,y],.cons ⟨tk,rfl⟩ (.cons ru .nil),_,hT2,rfl,_,rfl⟩
  have fr:H s.heap.objs.size=none:=I.hok.fresh #[10]
  refine ⟨.ref s.heap.objs.size,_,I2,rfl,⟨_,x,rfl,fr,fun ys hy=>by rw [I.tuple_inj hy hq];exact hx,rfl⟩,⟨⟨y,by simpa using he2⟩,?_⟩,fun b hb=>?_⟩
  ·obtain ⟨⟨o,ho',r⟩,_⟩:=hs'
   exact ⟨o,(hs2.2 it (Ne.symm hei)).trans ho',r⟩
  ·have hb2:b < s.heap.objs.size:=by
    rcases List.mem_cons.mp hb with rfl | hb
    ·exact hlt
    ·have:b=it:=by simpa using hb
     subst this
     obtain ⟨o,ho',_⟩:=hit
     exact Heap.lt_size ho'
   rw [qAo (Nat.ne_of_lt hb2)]
   exact (hf b hb).1
 done:=by
  intro X hP hw hK hc i pins s σ H E I hf st hg
  subst hP hw hK
  obtain ⟨xs,hq,hx⟩:=hg
  obtain ⟨its,rv,p,hz⟩:=I.tuple hq
  obtain ⟨⟨old,he⟩,hit⟩:=st
  have hl:=rv.length
  have D:=qLs (prog:=X.prog) (w:=X.w) (A:=X.A.in1) (I.ok.hd hc) it a hai its.toArray
  have hn:its.toArray.size=i:=by simp;omega
  refine wpAny_pyNext_enum_endD D he (by rw [hn];exact ⟨hit,p⟩) fun h' eb=>⟨rfl,?_⟩
  obtain ⟨f0,f1,f2,f3,f4,f5⟩:=hf it #[6]
  exact I.turned (t':=s.toks) (fun b o hb q=>eb b o hb q) f0 f1 f3 f4 f5
 self:=fun A i s Q E st h=>by
  obtain ⟨⟨old,he⟩,_⟩:=st
  exact wpAny_pyIter_enum he h
section
variable {X:Cx}{elts:List Expr}{kk:Nat}{tpos p pos:Pos}{a:Expr}{ta:TA}
def iEnum (K:PySem.W.Frag)(ta:TA):TI:=fun σ H R=>ta σ H fun vs H1=>∃ a,vs=[.ref a]∧(((∃ xs,SqL K H1 a xs)∧R (IeL K a) H1)∨((∃ xs,SqT K H1 a xs)∧R (IeT K a) H1))
theorem qc2 (hg:Gl X "enumerate")(hm:X.mg "enumerate"=none)(ha:PA X [a] ta)(hs:starEach [a] X.env=[(false,eval a X.env)]:=by rfl):PI X (.Tuple elts kk tpos) (.Call (.Name "enumerate" p) [a] [] pos) (iEnum X.K ta):=by
 intro pins s σ H R I h
 refine Call_ (qFg I hg hm boot_enumerate (PyProof.Rows.callWith_type1 (thn (ha pos pins s σ H _ I h) fun us s1 ⟨vs,H1,I1,r1,q1⟩=>?_) hs rfl))
 obtain ⟨c,e,q⟩:=q1
 subst e
 cases r1 with
 | cons r rr=>
  cases rr
  cases (show _=Value.ref c from r)
  rcases q with ⟨⟨xs,hq⟩,q⟩ | ⟨⟨xs,hq⟩,q⟩
  ·obtain ⟨its,rv,pl,hz⟩:=I1.list hq
   refine call_enumerate_list pl.isList fun h' he hit hsz hk=>?_
   refine wpAny_pyIter_enum he ?_
   have hc:c < s1.heap.objs.size:=pl.lt
   refine ⟨s1.heap.objs.size + 1,[s1.heap.objs.size + 1,s1.heap.objs.size],_,_,H1,rfl,I1.kept (t':=s1.toks) hk,qS2 c s1.heap.objs.size (s1.heap.objs.size + 1) (Nat.ne_of_gt (Nat.lt_succ_self _)) (Nat.ne_of_lt hc),⟨⟨_,he⟩,hit⟩,fun b hb=>?_,q⟩
   have hb2:s1.heap.objs.size≤b:=by
    rcases List.mem_cons.mp hb with z | z
    ·rw [z];exact Nat.le_succ _
    ·have:b=s1.heap.objs.size:=by simpa using z
     rw [this];exact Nat.le_refl _
   exact I1.fpOk hb2 (I1.hok.fresh hb2)
  ·obtain ⟨its,rv,pl,hz⟩:=I1.tuple hq
   refine qFd (show s1.heap.IsTuple c its.toArray from pl) fun h' he hit hsz hk=>?_
   refine wpAny_pyIter_enum he ?_
   have hc:c < s1.heap.objs.size:=by obtain ⟨o,e,_⟩:=pl;exact Heap.lt_size e
   refine ⟨s1.heap.objs.size + 1,[s1.heap.objs.size + 1,s1.heap.objs.size],_,_,H1,rfl,I1.kept (t':=s1.toks) hk,qS1 c s1.heap.objs.size (s1.heap.objs.size + 1) (Nat.ne_of_gt (Nat.lt_succ_self _)) (Nat.ne_of_lt hc),⟨⟨_,he⟩,hit⟩,fun b hb=>?_,q⟩
   have hb2:s1.heap.objs.size≤b:=by
    rcases List.mem_cons.mp hb with z | z
    ·rw [z];exact Nat.le_succ _
    ·have:b=s1.heap.objs.size:=by simpa using z
     rw [this];exact Nat.le_refl _
   exact I1.fpOk hb2 (I1.hok.fresh hb2)
def iSeq (K:PySem.W.Frag)(tl:TE):TI:=fun σ H R=>tl σ H fun x H1=>(∃ a,x=.ref a∧(((∃ xs,SqL K H1 a xs)∧R (Itl K a) H1)∨((∃ xs,SqT K H1 a xs)∧R (Itt K a) H1)))∨∃ z,x=.str z∧R (Its z) H1
theorem qVw {tg l:Expr}{tl:TE}(hl:PE X l tl):PI X tg l (iSeq X.K tl):=by
 intro pins s σ H R I h
 refine thn (hl pins s σ H _ I h) fun v s1 ⟨x,H1,I1,r1,q1⟩=>?_
 have fp1:∀ b∈[s1.heap.objs.size],qSy X pins H1 b:=fun b hb=>by
  have e:b=s1.heap.objs.size:=by simpa using hb
  subst e
  exact I1.fpOk #[10] (I1.hok.fresh #[10])
 rcases q1 with ⟨c,e,q⟩ | ⟨z,e,q⟩
 ·subst e
  cases r1
  rcases q with ⟨⟨xs,hq⟩,q⟩ | ⟨⟨xs,hq⟩,q⟩
  ·obtain ⟨its,rv,p,hz⟩:=I1.list hq
   refine wpAny_pyIter_list p.isList ?_
   exact ⟨s1.heap.objs.size,[s1.heap.objs.size],_,_,H1,rfl,I1.kept (t':=s1.toks) fun b o e=>Heap.get?_push_of_some _ e,qUk c _,⟨_,Heap.get?_push_size _ rfl,rfl,rfl⟩,fp1,q⟩
  ·obtain ⟨its,rv,p,hz⟩:=I1.tuple hq
   refine wpAny_pyIter_tuple (show s1.heap.IsTuple c its.toArray from p) ?_
   exact ⟨s1.heap.objs.size,[s1.heap.objs.size],_,_,H1,rfl,I1.kept (t':=s1.toks) fun b o e=>Heap.get?_push_of_some _ e,qSz c _,⟨_,Heap.get?_push_size _ rfl,rfl,rfl⟩,fp1,q⟩
 ·subst e
  obtain ⟨t,rfl⟩:=r1
  cases ha:z.cps.all (· < 128)
  ·refine wpAny_pyIter_wide ha ?_
   exact ⟨s1.heap.objs.size,[s1.heap.objs.size],_,_,H1,rfl,I1.kept (t':=s1.toks) fun b o e=>Heap.get?_push_of_some _ e,qRc (T:="str_iterator") z t _ #[4] (fun A' hA=>Walks.strWide hA _ z t) (fun A i s Q E st h=>wpAny_pyIter_striter_wide st h),⟨_,Heap.get?_push_size _ rfl,rfl,rfl⟩,fp1,q⟩
  ·refine wpAny_pyIter_ascii ha ?_
   exact ⟨s1.heap.objs.size,[s1.heap.objs.size],_,_,H1,rfl,I1.kept (t':=s1.toks) fun b o e=>Heap.get?_push_of_some _ e,qRc (T:="str_ascii_iterator") z t _ #[4] (fun A' hA=>Walks.strAscii hA _ z t) (fun A i s Q E st h=>wpAny_pyIter_striter_ascii st h),⟨_,Heap.get?_push_size _ rfl,rfl,rfl⟩,fp1,q⟩
end
open PySem PySem.Spec PyProof.Rows
def qKh (σ:List Str)(v:Str):List Str:=if σ.any (· == v) then σ else σ++[v]
def qHa (val:Nat→Str):Nat→List Str
 | 0=>[]
 | i + 1=>qKh (qHa val i) (val i)
theorem qUp (σ:List Str)(v k:Str):(qKh σ v).any (· == k)=(σ.any (· == k) || decide (k=v)):=by
 unfold qKh
 by_cases h:σ.any (· == v)=true
 ·rw [if_pos h]
  by_cases e:k=v
  ·subst e;rw [h];simp
  ·simp [e]
 ·rw [if_neg h,List.any_append]
  by_cases e:k=v
  ·subst e;simp
  ·have hb:(v == k)=false:=by simpa [beq_iff_eq] using (fun h':v=k=>e h'.symm)
   simp [hb,e]
theorem qNj (σ:List Str)(v:Str):(qKh σ v).length=if σ.any (· == v) then σ.length else σ.length + 1:=by
 unfold qKh;split <;> simp
theorem qR3 (val:Nat→Str):∀ i,(qHa val i).length≤i
 | 0=>Nat.le_refl _
 | i + 1=>by
  have ih:=qR3 val i
  rw [qHa,qNj]
  split <;> omega
section
variable {prog:Program}{w:World}{A:Around}{R:Result→Shared→Prop}{I:Addr}{fp wr:List Addr}{n:Nat}{P:Nat→Value→Prop}{St:Nat→Heap→Prop}
theorem qSl (W:Walks prog w A.in1 I fp wr n P St)(S:Addr)(hSf:S∉fp)(val:Nat→Str)(hval:∀ i v,P i v→∃ t,v=.str (val i) t)(hb:n + 1 < scanBound) :
  ∀ (k i:Nat) (s:Shared),n - i=k→i≤n→St i s.heap→s.heap.SetOf (strKind prog w) S (fun k'=>(qHa val i).any (· == k')) (qHa val i).length→
   (∀ h' tk,(∀ b o,b∉S::wr→s.heap.get? b=some o→h'.get? b=some o)→h'.SetOf (strKind prog w) S (fun k'=>(qHa val n).any (· == k')) (qHa val n).length→R (.ok (.ret .none)) { s with heap:=h',toks:=tk })→
   codeAny #[18] A (.builtin "set.update.loop" ⟨[.ref S,.ref I],[]⟩) R s:=by
 have hSw:S∉wr:=fun h=>hSf (W.sub _ h)
 intro k
 induction k with
 | zero=>
  intro i s hk hi hst hS hR
  obtain rfl:i=n:=by omega
  refine codeAny_builtin PyProof.Rows.F.entry_set_update_loop ?_
  rw [Around.under_plainId PyProof.Rows.F.plain_set_update_loop _]
  show wpAny _ A.in1 (pyNext (.ref I)>>=_) _ _ s
  refine wpAny_bind (W.done s _ _ hst fun h' tk kp=>?_)
  show wpAny _ A.in1 (ret Value.none) _ _ _
  obtain ⟨o,es,ep,t,ho,qE4⟩:=hS
  exact wpAny_pure (hR h' tk (fun b o hb e=>kp b o (fun z=>hb (List.mem_cons_of_mem _ z)) e) ⟨o,es,ep,t,kp S o hSw ho,qE4⟩)
 | succ k ih=>
  intro i s hk hi hst hS hR
  have hlt:i < n:=by omega
  refine codeAny_builtin PyProof.Rows.F.entry_set_update_loop ?_
  rw [Around.under_plainId PyProof.Rows.F.plain_set_update_loop _]
  show wpAny _ A.in1 (pyNext (.ref I)>>=_) _ _ s
  refine wpAny_bind (W.item i s _ _ hlt hst fun v h1 tk1 hP hst1 kp=>?_)
  obtain ⟨t,rfl⟩:=hval i v hP
  have hS1:h1.SetOf (strKind prog w) S (fun k'=>(qHa val i).any (· == k')) (qHa val i).length:=by
   obtain ⟨o,es,ep,tb,ho,qE4⟩:=hS
   exact ⟨o,es,ep,tb,kp S o hSw ho,qE4⟩
  show wpAny _ A.in1 (holding [Value.str (val i) t] (setAdd S (.str (val i) t))>>=_) _ _ _
  refine wpAny_bind (wpAny_holding ?_)
  unfold setAdd
  refine wpAny_holding ?_
  have his:(strKind prog w).is (val i) (.str (val i) t)=true:=strKind_is _ _ _ _
  refine wpAny_bind ((strKind prog w).pyHash (k:=val i) his ?_)
  have hroom:(qHa val i).length + 1 < scanBound:=by have:=qR3 val i;omega
  refine wpAny_setAddHashed_of (knd:=strKind prog w) (s:={ s with heap:=h1,toks:=tk1 + 1 }) his rfl hS1 hroom fun h2 hsb hS2=>?_
  have hSi:h2.SetOf (strKind prog w) S (fun k'=>(qHa val (i + 1)).any (· == k')) (qHa val (i + 1)).length:=
   SetOf_congr hS2 (fun k'=>by rw [qHa,qUp]) (by rw [qHa,qNj])
  refine wpAny_pure ⟨plainId_quiet PyProof.Rows.F.plain_set_update_loop _,ih (i + 1) _ #[0] hlt (W.frame _ h1 _ hst1 fun b hb o e=>?_) hSi fun h3 tk3 kp3 hS3=>hR h3 tk3 (fun b o hb e=>kp3 b o hb ?_) hS3⟩
  ·rw [hsb.2 b (fun h:b=S=>hSf (by rw [←h];exact hb))];exact e
  ·rw [hsb.2 b (fun h:b=S=>hb (by rw [h];exact List.mem_cons_self))];exact kp b o (fun z=>hb (List.mem_cons_of_mem _ z)) e
end
theorem qL5:isSubtype (.type "list") (.type "set")=pure false:=by rw [isSubtype_type];kernel_rfl
theorem qFl:isSubtype (.type "list") (.type "frozenset")=pure false:=by rw [isSubtype_type];kernel_rfl
theorem qP9 {prog:Program}{w:World}{A:Around}{E:Value→Shared→Prop}{s:Shared}{l:Addr}{items:Array Value}{val:Nat→Str}{Q:Value→Shared→Prop}
  (hh:A.handled=none) (hl:s.heap.IsList l items) (hi:∀ (i:Nat) (v:Value),items[i]?=some v→∃ t,v=Value.str (val i) t) (hb:items.size + 1 < scanBound)
  (h:∀ (h':Heap) (tk:Nat),h'.SetOf (strKind prog w) s.heap.objs.size (fun k'=>(qHa val items.size).any (· == k')) (qHa val items.size).length→
   (∀ b o,b < s.heap.objs.size→s.heap.get? b=some o→h'.get? b=some o)→Q #[38] { s with heap:=h',toks:=tk }) :
  wpAny #[18] A (call (.type "set") [.ref l]) Q E s:=by
 obtain ⟨c,tl,hmro⟩:=PySem.F.called_set.mro
 have hmade:=PySem.F.called_set.made
 have hsub:=PySem.F.called_set.sub
 refine wpAny_call (codeAny_of_tree ?_)
 show wpAny _ _ (callAny (.type "set") _) _ _ _
 refine wpAny_pure ⟨Code.quiet_builtin _ #[19],codeAny_builtin PySem.F.entry_type_call ?_⟩
 rw [Around.under_plain (weight_type_call_type "set" [.ref l] []) rfl]
 have h1:=PySem.F.called_set.notType
 have h2:=PySem.F.called_set.canCreate
 have hct:=PySem.F.typeCall_set_1 (.ref l)
 repeat (any_goals (first | assumption | wp_step))
 refine codeAny_mono #[69] fun r s₁ hr=>?_
 cases r with
 | error e=>exact hr
 | ok fl=>
  cases fl with
  | ret obj=>
   obtain ⟨led,rfl,rfl⟩:=hr
   have hS:#[41].get? s.heap.objs.size=some { cls:=.type "set",dict:=none,data:=.set #[] 0 (.fresh 0 0 led) }:=Heap.get?_push_size _ rfl
   have hT:Shared.TypeIs { s with heap:=s.heap.push { cls:=.type "set",dict:=none,data:=.set #[] 0 (.fresh 0 0 led) } } #[38] "set":=⟨_,hS,rfl⟩
   have hli:=PySem.F.called_set.init.lookup
   have hbi:=PySem.F.called_set.init.bind #[38]
   repeat (any_goals (first | assumption | wp_step))
   refine codeAny_mono (codeAny_call_builtin (R:=wants (fun r s₂=>r=.none∧∃ h' tk,s₂={ s with heap:=h',toks:=tk }∧
     h'.SetOf (strKind prog w) s.heap.objs.size (fun k'=>(qHa val items.size).any (· == k')) (qHa val items.size).length∧
     (∀ b o,b < s.heap.objs.size→s.heap.get? b=some o→h'.get? b=some o)) E) PySem.F.called_set.init.plain PySem.F.entry_set_init (check_set_init_1 hT ?_)) fun r₂ s₂ hr₂=>?_
   ·obtain ⟨⟨ocls,odict,odata,oslots⟩,hol,hcl,nl,hdl⟩:=hl
    simp only at hcl hdl
    subst hcl;subst hdl
    have hol':#[41].get? l=some { cls:=.type "list",dict:=odict,data:=.seq items nl,slots:=oslots }:=Heap.get?_push_of_some _ hol
    have hsls:=qL5
    have hslf:=qFl
    have hne:(Value.type "list" == Value.type "dict")=false:=by decide
    have hl1:#[41].IsList l items:=⟨_,hol',rfl,nl,rfl⟩
    unfold Builtin.«set.__init__» noKeywords Builtin.Frozenset.updateFrom
    generalize hPI:pyIter=PI
    wp_walk
    subst hPI
    refine wpAny_pyIter_list hl1 ?_
    refine wpAny_bind (wpAny_runValue ?_)
    have hlS:l < s.heap.objs.size:=Heap.lt_size hol
    have hh3:A.in1.in1.in1.handled=none:=by simp [hh]
    have hneI:l≠#[41].objs.size:=by
     rw [Heap.size_push];exact Nat.ne_of_lt (Nat.lt_succ_of_lt hlS)
    have hSf:s.heap.objs.size∉[#[41].objs.size,l]:=by
     rw [Heap.size_push];simp only [List.mem_cons,List.mem_singleton,List.not_mem_nil,or_false,not_or]
     exact ⟨Nat.ne_of_lt (Nat.lt_succ_self _),Nat.ne_of_gt hlS⟩
    refine qSl (Walks.list hh3 _ l hneI items) s.heap.objs.size hSf val hi hb (items.size - 0) 0 _ #[0] (Nat.zero_le _) ⟨⟨_,Heap.get?_push_size _ rfl,rfl,rfl⟩,?hl2⟩ ?hS0 ?hR
    case hl2=>exact ⟨_,Heap.get?_push_of_some _ hol',rfl,nl,rfl⟩
    case hS0=>
     have hget:(#[41].push { cls:=.type "list_iterator",data:=.fields #[.ref l,.int 0 0] }).get? s.heap.objs.size
       = some { cls:=.type "set",dict:=none,data:=.set #[] 0 (.fresh 0 0 led) }:=Heap.get?_push_of_some _ hS
     exact SetOf_congr ((setObjOf_fresh (knd:=strKind prog w) led).setOf hget (by unfold scanBound;omega)) (fun _=>rfl) rfl
    case hR=>
     intro h' tk' kp hS'
     show wpAny _ _ _ _ _ _
     refine wpAny_pure ?_
     show wpAny _ _ (ret Value.none) _ _ _
     refine wpAny_pure ⟨rfl,h',tk',rfl,hS',fun b o hb e=>?_⟩
     have hb1:b≠s.heap.objs.size:=Nat.ne_of_lt hb
     have hb2:b≠#[41].objs.size:=by
      rw [Heap.size_push];exact Nat.ne_of_lt (Nat.lt_succ_of_lt hb)
     exact kp b o (by simp only [List.mem_cons,List.mem_singleton,List.not_mem_nil,or_false,not_or];exact ⟨hb1,hb2⟩) (Heap.get?_push_of_some _ (Heap.get?_push_of_some _ e))
   ·cases r₂ with
    | error e=>exact hr₂
    | ok fl₂=>
     cases fl₂ with
     | ret r=>
      obtain ⟨rfl,h',tk,rfl,hS',hk'⟩:=hr₂
      repeat (any_goals (first | assumption | wp_step))
      exact h _ _ hS' hk'
     | _=>exact hr₂.elim
  | _=>exact hr.elim
theorem qKg:isSubtype (.type "tuple") (.type "set")=pure false:=by rw [isSubtype_type];kernel_rfl
theorem qFa:isSubtype (.type "tuple") (.type "frozenset")=pure false:=by rw [isSubtype_type];kernel_rfl
theorem qNm {prog:Program}{w:World}{A:Around}{E:Value→Shared→Prop}{s:Shared}{l:Addr}{items:Array Value}{val:Nat→Str}{Q:Value→Shared→Prop}
  (hh:A.handled=none) (hl:s.heap.IsTuple l items) (hi:∀ (i:Nat) (v:Value),items[i]?=some v→∃ t,v=Value.str (val i) t) (hb:items.size + 1 < scanBound)
  (h:∀ (h':Heap) (tk:Nat),h'.SetOf (strKind prog w) s.heap.objs.size (fun k'=>(qHa val items.size).any (· == k')) (qHa val items.size).length→
   (∀ b o,b < s.heap.objs.size→s.heap.get? b=some o→h'.get? b=some o)→Q #[38] { s with heap:=h',toks:=tk }) :
  wpAny #[18] A (call (.type "set") [.ref l]) Q E s:=by
 obtain ⟨c,tl,hmro⟩:=PySem.F.called_set.mro
 have hmade:=PySem.F.called_set.made
 have hsub:=PySem.F.called_set.sub
 refine wpAny_call (codeAny_of_tree ?_)
 show wpAny _ _ (callAny (.type "set") _) _ _ _
 refine wpAny_pure ⟨Code.quiet_builtin _ #[19],codeAny_builtin PySem.F.entry_type_call ?_⟩
 rw [Around.under_plain (weight_type_call_type "set" [.ref l] []) rfl]
 have h1:=PySem.F.called_set.notType
 have h2:=PySem.F.called_set.canCreate
 have hct:=PySem.F.typeCall_set_1 (.ref l)
 repeat (any_goals (first | assumption | wp_step))
 refine codeAny_mono #[69] fun r s₁ hr=>?_
 cases r with
 | error e=>exact hr
 | ok fl=>
  cases fl with
  | ret obj=>
   obtain ⟨led,rfl,rfl⟩:=hr
   have hS:#[41].get? s.heap.objs.size=some { cls:=.type "set",dict:=none,data:=.set #[] 0 (.fresh 0 0 led) }:=Heap.get?_push_size _ rfl
   have hT:Shared.TypeIs { s with heap:=s.heap.push { cls:=.type "set",dict:=none,data:=.set #[] 0 (.fresh 0 0 led) } } #[38] "set":=⟨_,hS,rfl⟩
   have hli:=PySem.F.called_set.init.lookup
   have hbi:=PySem.F.called_set.init.bind #[38]
   repeat (any_goals (first | assumption | wp_step))
   refine codeAny_mono (codeAny_call_builtin (R:=wants (fun r s₂=>r=.none∧∃ h' tk,s₂={ s with heap:=h',toks:=tk }∧
     h'.SetOf (strKind prog w) s.heap.objs.size (fun k'=>(qHa val items.size).any (· == k')) (qHa val items.size).length∧
     (∀ b o,b < s.heap.objs.size→s.heap.get? b=some o→h'.get? b=some o)) E) PySem.F.called_set.init.plain PySem.F.entry_set_init (check_set_init_1 hT ?_)) fun r₂ s₂ hr₂=>?_
   ·obtain ⟨⟨ocls,odict,odata,oslots⟩,hol,hcl,nl,hdl⟩:=hl
    simp only at hcl hdl
    subst hcl;subst hdl
    have hol':#[41].get? l=some { cls:=.type "tuple",dict:=odict,data:=.seq items nl,slots:=oslots }:=Heap.get?_push_of_some _ hol
    have hsls:=qKg
    have hslf:=qFa
    have hne:(Value.type "tuple" == Value.type "dict")=false:=by decide
    have hl1:#[41].IsTuple l items:=⟨_,hol',rfl,nl,rfl⟩
    unfold Builtin.«set.__init__» noKeywords Builtin.Frozenset.updateFrom
    generalize hPI:pyIter=PI
    wp_walk
    subst hPI
    refine wpAny_pyIter_tuple hl1 ?_
    refine wpAny_bind (wpAny_runValue ?_)
    have hlS:l < s.heap.objs.size:=Heap.lt_size hol
    have hh3:A.in1.in1.in1.handled=none:=by simp [hh]
    have hneI:l≠#[41].objs.size:=by
     rw [Heap.size_push];exact Nat.ne_of_lt (Nat.lt_succ_of_lt hlS)
    have hSf:s.heap.objs.size∉[#[41].objs.size,l]:=by
     rw [Heap.size_push];simp only [List.mem_cons,List.mem_singleton,List.not_mem_nil,or_false,not_or]
     exact ⟨Nat.ne_of_lt (Nat.lt_succ_self _),Nat.ne_of_gt hlS⟩
    refine qSl (Walks.tuple hh3 _ l hneI items) s.heap.objs.size hSf val hi hb (items.size - 0) 0 _ #[0] (Nat.zero_le _) ⟨⟨_,Heap.get?_push_size _ rfl,rfl,rfl⟩,?hl2⟩ ?hS0 ?hR
    case hl2=>exact ⟨_,Heap.get?_push_of_some _ hol',rfl,nl,rfl⟩
    case hS0=>
     have hget:(#[41].push { cls:=.type "tuple_iterator",data:=.fields #[.ref l,.int 0 0] }).get? s.heap.objs.size
       = some { cls:=.type "set",dict:=none,data:=.set #[] 0 (.fresh 0 0 led) }:=Heap.get?_push_of_some _ hS
     exact SetOf_congr ((setObjOf_fresh (knd:=strKind prog w) led).setOf hget (by unfold scanBound;omega)) (fun _=>rfl) rfl
    case hR=>
     intro h' tk' kp hS'
     show wpAny _ _ _ _ _ _
     refine wpAny_pure ?_
     show wpAny _ _ (ret Value.none) _ _ _
     refine wpAny_pure ⟨rfl,h',tk',rfl,hS',fun b o hb e=>?_⟩
     have hb1:b≠s.heap.objs.size:=Nat.ne_of_lt hb
     have hb2:b≠#[41].objs.size:=by
      rw [Heap.size_push];exact Nat.ne_of_lt (Nat.lt_succ_of_lt hb)
     exact kp b o (by simp only [List.mem_cons,List.mem_singleton,List.not_mem_nil,or_false,not_or];exact ⟨hb1,hb2⟩) (Heap.get?_push_of_some _ (Heap.get?_push_of_some _ e))
   ·cases r₂ with
    | error e=>exact hr₂
    | ok fl₂=>
     cases fl₂ with
     | ret r=>
      obtain ⟨rfl,h',tk,rfl,hS',hk'⟩:=hr₂
      repeat (any_goals (first | assumption | wp_step))
      exact h _ _ hS' hk'
     | _=>exact hr₂.elim
  | _=>exact hr.elim
open PySem PySem.Spec PyProof.Rows
theorem qTs:typeLookup (.type "list_reverseiterator") "__len__"=pure none:=by rw [typeLookup_type,builtinLookup_eq_fast];kernel_rfl
theorem qZ1:typeLookup (.type "list_reverseiterator") "__length_hint__"=pure (some (.builtin "list_reverseiterator.__length_hint__")):=by rw [typeLookup_type,builtinLookup_eq_fast];kernel_rfl
section
variable {prog:Program}{w:World}{A:Around}{E:Value→Shared→Prop}{s:Shared}{r:Addr}
theorem qY0 {Q:Bool→Shared→Prop}(hT:s.TypeIs (.ref r) "list_reverseiterator")(h:Q false s):wpAny #[18] A (Builtin.List.listLengthHint (.ref r)) Q E s:=by
 unfold Builtin.List.listLengthHint
 refine wpAny_bind (wpAny_specialOf hT qTs ?_)
 show wpAny _ _ (specialOf (Value.ref r) (Str.ofString "__length_hint__")>>=_) _ _ _
 refine wpAny_bind (wpAny_specialOf hT qZ1 ?_)
 generalize hid:("list_reverseiterator.__length_hint__":String)=id0
 wp_delta
 rw [show splitId id0=some ("list_reverseiterator","__length_hint__") from by subst hid;decide +kernel]
 subst hid
 refine wpAny_bind (wpAny_isInstance (T:="list_reverseiterator") (b:=true) hT (by rw [isSubtype_type];kernel_rfl) ?_)
 refine wpAny_ite_split (fun hab=>absurd hab #[4]) (fun _=>?_)
 refine wpAny_ite_split (fun _=>?_) (fun hab=>absurd #[19] hab)
 refine wpAny_ite_split (fun hab=>absurd hab #[19]) (fun _=>?_)
 exact wpAny_pure h
theorem qTi {l I:Addr}{items:Array Value}{R:Result→Shared→Prop}(hh:A.handled=none)(hne:l≠I)(S:Addr)(hSI:S≠I)(hSl:S≠l)(res:Value)(c₀:Nat)(hit:s.heap.IsRevIter I l ((items.size:Int) - 1))(hl:s.heap.IsList l items)(hS:s.heap.get? S=some { cls:=.type "list",data:=.seq #[] c₀ })
  (hR:∀ h' tk acc' c',(∀ b o,b≠S→b≠I→s.heap.get? b=some o→h'.get? b=some o)→h'.get? S=some { cls:=.type "list",dict:=none,data:=.seq acc' c',slots:=#[] }→ItemsOf (fun i v=>items[items.size - 1 - i]?=some v) acc' items.size→R (.ok (.ret res)) { s with heap:=h',toks:=tk }) (hn:items.size≤sizeLine) :
  wpAny #[18] A.in1 (Builtin.List.listExtendWith (.ref S) (.ref I) res)
   (fun fin s'=>match fin with | .done f=>R (.ok f) s' | .again c'=>c'.quiet=true∧codeAny #[18] A c' R s') (fun e s'=>R (.error e) s') s:=by
 have W:=Walks.listRev (prog:=prog) (w:=w) (A:=A.in1) hh I l hne items
 have hSf:S∉[I,l]:=by simp only [List.mem_cons,List.not_mem_nil,or_false,not_or];exact ⟨hSI,hSl⟩
 unfold Builtin.List.listExtendWith
 refine wpAny_bind (wpAny_typeOf hit.typeIs ?_)
 have h1:Builtin.List.listSameRef (.ref S) (.ref I)=false:=by simp [Builtin.List.listSameRef,hSI]
 have h2:(Value.type "list_reverseiterator" == Value.type "list")=false:=by decide
 have h3:(Value.type "list_reverseiterator" == Value.type "tuple")=false:=by decide
 simp only [h1,h2,h3,Bool.or_false,Bool.false_eq_true,if_false]
 refine wpAny_bind (wpAny_pyIter_revIter hit ?_)
 refine wpAny_bind (wpAny_holding (qY0 hit.typeIs ?_))
 refine wpAny_ite_split (fun hab=>absurd hab #[19]) (fun _=>?_)
 refine wpAny_pure ⟨plainId_quiet PySem.F.plain_extend_loop _,codeAny_extend_loopS W.toS hn S hSf res items.size 0 _ #[] c₀ rfl (Nat.zero_le _) ⟨Nat.zero_le _,by simpa using hit,hl⟩ hS (ItemsOf.nil _) fun s' acc' c' hm hS' hacc=>?_⟩
 rw [Moved.eq_with hm]
 refine hR s'.heap s'.toks acc' c' (fun b o hb hb2 e=>hm.heap b o (fun hmem=>?_) e) hS' hacc
 rcases List.mem_cons.mp hmem with e' | hmem
 ·exact hb e'
 ·exact hb2 (List.mem_singleton.mp hmem)
theorem qYz {l:Addr}{items:Array Value}{Q:Value→Shared→Prop}(hh:A.handled=none)(hl:s.heap.IsList l items)(hn:items.size≤sizeLine)
  (hQ:∀ h' tk acc' c' n,s.heap.objs.size≤n→(∀ b o,s.heap.get? b=some o→h'.get? b=some o)→h'.get? n=some { cls:=.type "list",dict:=none,data:=.seq acc' c',slots:=#[] }→ItemsOf (fun i v=>items[items.size - 1 - i]?=some v) acc' items.size→Q (.ref n) { s with heap:=h',toks:=tk }) :
  wpAny #[18] A (call (.type "reversed") [.ref l]) (fun v s'=>wpAny #[18] A (call (.type "list") [v]) Q E s') E s:=by
 refine call_reversed_list hl ?_
 have hI:(s.heap.push (revObj l ((items.size:Int) - 1))).IsRevIter s.heap.objs.size l ((items.size:Int) - 1):=⟨_,Heap.get?_push_size _ rfl,rfl,rfl⟩
 have hl2:(s.heap.push (revObj l ((items.size:Int) - 1))).IsList l items:=hl.at fun o e=>Heap.get?_push_of_some _ e
 generalize hg:s.heap.push (revObj l ((items.size:Int) - 1))=g at *
 have hgs:s.heap.objs.size < g.objs.size:=by obtain ⟨o,ho,_⟩:=hI;exact Heap.lt_size ho
 have hlt:l < s.heap.objs.size:=by obtain ⟨o,ho,_⟩:=hl;exact Heap.lt_size ho
 refine callType_codes (Q₁:=fun obj s₁=>obj=.ref g.objs.size∧s₁={ s with heap:=g.push { cls:=.type "list",data:=.seq #[] } }) PySem.F.called_list (PySem.F.typeCall_list_1 _) PySem.F.entry_list_init
  (code_list_new _ ⟨rfl,rfl⟩) fun obj s₁ h₁=>?_
 obtain ⟨rfl,rfl⟩:=h₁
 have hS:(g.push { cls:=.type "list",data:=.seq #[] }).get? g.objs.size=some { cls:=.type "list",data:=.seq #[] }:=Heap.get?_push_size _ rfl
 refine ⟨⟨_,hS,rfl⟩,PySem.F.args_list_init_2 _ _,?_⟩
 show wpAny _ _ (do let old ←Builtin.List.listItems (.ref g.objs.size);Builtin.List.listUpdate (.ref g.objs.size) (fun _=>#[]);letGo old.toList.reverse;Builtin.List.listExtendWith (.ref g.objs.size) #[38] .none) _ _ _
 refine wpAny_bind ?_
 unfold Builtin.List.listItems
 refine wpAny_bind (wpAny_seqItems hS rfl (wpAny_pure ?_))
 show wpAny _ _ (updateSeq g.objs.size (fun _=>#[])>>=fun _=>letGo (#[]:Array Value).toList.reverse>>=fun _=>Builtin.List.listExtendWith (.ref g.objs.size) #[38] .none) _ _ _
 refine wpAny_bind (wpAny_updateSeq hS rfl ?_)
 have hS₂:=Heap.get?_update_self (Obj.mapSeq (fun _=>(#[]:Array Value))) hS rfl
 have oth:∀ b o,b≠g.objs.size→g.get? b=some o→((g.push { cls:=.type "list",data:=.seq #[] }).update g.objs.size (Obj.mapSeq (fun _=>(#[]:Array Value)))).get? b=some o:=
  fun b o hb e=>(Heap.get?_update_other _ _ (Ne.symm hb)).trans (Heap.get?_push_of_some _ e)
 refine wpAny_bind (wpAny_letGo ?_)
 refine qTi (A:=A.in1) (I:=s.heap.objs.size) (l:=l) (items:=items) hh (Nat.ne_of_lt hlt) g.objs.size (Nat.ne_of_gt hgs) (Nat.ne_of_gt (Nat.lt_trans hlt hgs)) .none _ (hI.at fun o e=>oth _ o (Nat.ne_of_lt hgs) e) (hl2.at fun o e=>oth _ o (Nat.ne_of_lt (Nat.lt_trans hlt hgs)) e) hS₂ (fun h' tk acc' c' hk hS' hacc=>?_) hn
 refine ⟨rfl,hQ h' tk acc' c' _ (Nat.le_of_lt hgs) (fun b o e=>?_) hS' hacc⟩
 have hb:=Heap.lt_size e
 refine hk b o (Nat.ne_of_lt (Nat.lt_trans hb hgs)) (Nat.ne_of_lt hb) (oth b o (Nat.ne_of_lt (Nat.lt_trans hb hgs)) ?_)
 rw [←hg];exact Heap.get?_push_of_some _ e
end
open PySem PySem.Spec PyProof.Rows PySem.W
def OkT {α:Type}(lt:Nat→Nat→Bool)(n:Nat)(P:α→Prop):KasT α→Prop
 | .ret a=>P a
 | .ask i j k=>i < n∧j < n∧OkT lt n P (k (lt i j))
section
variable {lt:Nat→Nat→Bool}{n:Nat}
theorem ok_bind {α β:Type}{P:α→Prop}{R:β→Prop}{f:α→KasT β}:∀ (t:KasT α),OkT lt n P t→(∀ a,P a→OkT lt n R (f a))→OkT lt n R (t.bind f)
 | .ret a,h,hf=>hf a h
 | .ask i j k,h,hf=>⟨h.1,h.2.1,ok_bind (k (lt i j)) h.2.2 hf⟩
theorem qFu {α:Type}{P R:α→Prop}(hf:∀ a,P a→R a):∀ (t:KasT α),OkT lt n P t→OkT lt n R t
 | .ret a,h=>hf a h
 | .ask i j k,h=>⟨h.1,h.2.1,qFu hf (k (lt i j)) h.2.2⟩
theorem ok_wp {α:Type}{cmp:Nat→Nat→(Bool→Shared→Prop)→Shared→Prop}{P:α→Prop}{Q:α→Shared→Prop}{J:Shared→Prop}(hc:∀ i j C s,i < n→j < n→J s→(∀ s',J s'→C (lt i j) s')→cmp i j C s)
  (hq:∀ a s,P a→J s→Q a s):∀ (t:KasT α) (s:Shared),OkT lt n P t→J s→t.kasWp cmp Q s
 | .ret a,s,h,hj=>hq a s h hj
 | .ask i j k,s,h,hj=>hc i j _ s h.1 h.2.1 hj fun s' hj'=>ok_wp hc hq (k (lt i j)) s' h.2.2 hj'
def Up (lt:Nat→Nat→Bool)(p:Array Nat)(a k:Nat):Prop:=∀ i j,a≤i→i < j→j < k→lt (p.getD j 0) (p.getD i 0)=false
def Dn (lt:Nat→Nat→Bool)(p:Array Nat)(k:Nat):Prop:=∀ i j,i < j→j < k→lt (p.getD i 0) (p.getD j 0)=false
def Al (lt:Nat→Nat→Bool)(p:Array Nat)(a k:Nat):Prop:=∀ i j,a≤i→i < k→a≤j→j < k→lt (p.getD i 0) (p.getD j 0)=false
structure Pm (n:Nat) (p:Array Nat):Prop where
 sz:p.size=n
 lo:∀ i,p.getD i 0 < n
 pm:p.Perm (List.range n).toArray
theorem qc1 (h0:0 < n){p:Array Nat}(h:p.Perm (List.range n).toArray):Pm n p:=by
 have sz:p.size=n:=by rw [h.size_eq];simp
 refine ⟨sz,fun i=>?_,h⟩
 by_cases hi:i < p.size
 ·have e:p.getD i 0=p[i]:=by simp [Array.getD,hi]
  have:p[i]∈(List.range n).toArray:=h.mem_iff.mp (Array.getElem_mem hi)
  rw [e];simpa using this
 ·have e:p.getD i 0=0:=by simp [Array.getD,hi]
  rw [e];exact h0
theorem qEd {p q:Array Nat}{i j:Nat}(h:p[i]?=q[j]?):p.getD i 0=q.getD j 0:=by
 rw [Array.getD_eq_getD_getElem?,Array.getD_eq_getD_getElem?,h]
theorem qK1 {p:Array Nat}{i j:Nat}(hj:j≤p.size)(hij:i≤j)(k:Nat):(kas_rev p i j).getD k 0=if i≤k∧k < j then p.getD (i + j - 1 - k) 0 else p.getD k 0:=by
 unfold kas_rev
 have e:=getElem?_mirror (xs:=p) (i:=i) (j:=j) hj ((j - i) / 2) #[0] k
 by_cases h:i≤k∧k < j
 ·rw [if_pos h]
  apply qEd
  rw [e]
  by_cases h2:(i≤k∧k < i + (j - i) / 2)∨(j - (j - i) / 2≤k∧k < j)
  ·rw [if_pos h2]
  ·rw [if_neg h2]
   have:i + j - 1 - k=k:=by omega
   rw [this]
 ·rw [if_neg h]
  apply qEd
  rw [e,if_neg #[0]]
theorem qRs (h0:0 < n){p:Array Nat}(h:Pm n p)(i j:Nat):Pm n (kas_rev p i j):=qc1 h0 ((mirror_perm _ _ _ _).trans h.pm)
theorem qbv {p:Array Nat}{k l:Nat}(hk:k < p.size)(hl:l≤k)(i:Nat):(bubble p k (k - l)).getD i 0=if i=l then p.getD k 0 else if l < i∧i≤k then p.getD (i - 1) 0 else p.getD i 0:=by
 have e:=getElem?_bubble (xs:=p) (src:=k) hk (k - l) #[0] i
 have e2:k - (k - l)=l:=by omega
 rw [e2] at e
 by_cases h:i=l
 ·rw [if_pos h];apply qEd;rw [e,if_pos h]
 ·rw [if_neg h]
  by_cases h2:l < i∧i≤k
  ·rw [if_pos h2];apply qEd;rw [e,if_neg h,if_pos h2]
  ·rw [if_neg h2];apply qEd;rw [e,if_neg h,if_neg h2]
variable (as:∀ i j,lt i j=true→lt j i=false)(tr:∀ i j k,lt j i=false→lt k j=false→lt k i=false)
include as tr
theorem irr (i:Nat):lt i i=false:=by
 cases h:lt i i with
 | false=>rfl
 | true=>have:=as i i h;rw [h] at this;exact this
theorem up_one (p:Array Nat){k:Nat}(hk:1≤k)(u:Up lt p 0 k)(h:lt (p.getD k 0) (p.getD (k - 1) 0)=false):Up lt p 0 (k + 1):=fun i j ha hi hj=>by
 by_cases e:j=k
 ·subst e
  by_cases e2:i=j - 1
  ·subst e2;exact h
  ·exact tr _ _ _ (u i (j - 1) ha #[0] #[0]) h
 ·exact u i j ha hi #[0]
theorem qV7 {p:Array Nat}(hp:Pm n p):∀ (f m:Nat),1≤m→Up lt p 0 m→OkT lt n (fun r=>m≤r∧r≤m + f∧Up lt p 0 r∧(r < m + f→lt (p.getD r 0) (p.getD (r - 1) 0)=true)) (kas_asc p f m)
 | 0,m,h1,u=>⟨Nat.le_refl _,by omega,u,fun h=>absurd h #[0]⟩
 | f + 1,m,h1,u=>by
  refine ⟨hp.lo _,hp.lo _,?_⟩
  cases h:lt (p.getD m 0) (p.getD (m - 1) 0) with
  | true=>exact ⟨Nat.le_refl _,by omega,u,fun _=>h⟩
  | false=>exact qFu (fun r q=>⟨by omega,by omega,q.2.2.1,fun z=>q.2.2.2 #[0]⟩) _ (qV7 hp f (m + 1) #[0] (up_one as tr p h1 u h))
theorem qbs {p:Array Nat}{k:Nat}(hk:1≤k)(u:Dn lt p k)(h:lt (p.getD (k - 1) 0) (p.getD k 0)=false):Dn lt p (k + 1):=fun i j hi hj=>by
 by_cases e:j=k
 ·subst e
  by_cases e2:i=j - 1
  ·subst e2;exact h
  ·exact tr _ _ _ h (u i (j - 1) #[0] #[0])
 ·exact u i j hi #[0]
theorem qbr {p:Array Nat}{m q k:Nat}(hm:m≤p.size)(hq:q < m)(hk:m≤k)(u:Dn lt p k)(al:Al lt p (m - (q + 1)) m):Dn lt (kas_rev p (m - (q + 1)) m) k:=fun i j hi hj=>by
 rw [qK1 hm #[0],qK1 hm #[0]]
 by_cases h1:m - (q + 1)≤i∧i < m
 ·rw [if_pos h1]
  by_cases h2:m - (q + 1)≤j∧j < m
  ·rw [if_pos h2];exact al _ _ #[0] #[0] #[0] #[0]
  ·rw [if_neg h2];exact u _ _ #[0] hj
 ·rw [if_neg h1]
  by_cases h2:m - (q + 1)≤j∧j < m
  ·rw [if_pos h2];exact u _ _ #[0] #[0]
  ·rw [if_neg h2];exact u _ _ hi hj
theorem qMp (h0:0 < n):∀ (f:Nat) (p:Array Nat) (m q:Nat),Pm n p→q < m→m + f≤n→Dn lt p m→Al lt p (m - (q + 1)) m→
  OkT lt n (fun r=>Pm n r.1∧m≤r.2.1∧r.2.1≤m + f∧r.2.2 < r.2.1∧Dn lt r.1 r.2.1∧Al lt r.1 (r.2.1 - (r.2.2 + 1)) r.2.1) (kas_desc f p m q)
 | 0,p,m,q,hp,hq,hf,u,al=>⟨hp,Nat.le_refl _,Nat.le_add_right _ _,hq,u,al⟩
 | f + 1,p,m,q,hp,hq,hf,u,al=>by
  refine ⟨hp.lo _,hp.lo _,?_⟩
  have one:∀ (p':Array Nat),Al lt p' (m + 1 - (0 + 1)) (m + 1):=fun p' i j a b c d=>by
   have e1:i=m:=by omega
   have e2:j=m:=by omega
   subst e1;subst e2;exact irr as tr _
  cases h:lt (p.getD m 0) (p.getD (m - 1) 0) with
  | true=>
   simp only [if_true]
   have u':Dn lt p (m + 1):=qbs as tr #[0] u (as _ _ h)
   by_cases hq0:q > 0
   ·rw [if_pos hq0]
    exact qFu (fun r z=>⟨z.1,by omega,by omega,z.2.2.2.1,z.2.2.2.2.1,z.2.2.2.2.2⟩) _ (qMp h0 f _ (m + 1) 0 (qRs h0 hp _ _) #[0] #[0] (qbr as tr (by rw [hp.sz];omega) hq #[0] u' al) (one _))
   ·rw [if_neg hq0]
    exact qFu (fun r z=>⟨z.1,by omega,by omega,z.2.2.2.1,z.2.2.2.2.1,z.2.2.2.2.2⟩) _ (qMp h0 f _ (m + 1) 0 hp #[0] #[0] u' (one _))
  | false=>
   simp only [Bool.false_eq_true,if_false]
   refine ⟨hp.lo _,hp.lo _,?_⟩
   cases h':lt (p.getD (m - 1) 0) (p.getD m 0) with
   | true=>simp only [if_true];exact ⟨hp,Nat.le_refl _,Nat.le_add_right _ _,hq,u,al⟩
   | false=>
    simp only [Bool.false_eq_true,if_false]
    refine qFu (fun r z=>⟨z.1,by omega,by omega,z.2.2.2.1,z.2.2.2.2.1,z.2.2.2.2.2⟩) _ (qMp h0 f _ (m + 1) (q + 1) hp #[0] #[0] (qbs as tr #[0] u h') fun i j a b c d=>?_)
    by_cases e1:i=m
    ·by_cases e2:j=m
     ·subst e1;subst e2;exact irr as tr _
     ·subst e1;exact tr _ _ _ (al _ _ #[0] #[0] #[0] #[0]) h
    ·by_cases e2:j=m
     ·subst e2;exact tr _ _ _ h' (al _ _ #[0] #[0] #[0] #[0])
     ·exact al i j #[0] #[0] #[0] #[0]
theorem qRz (h0:0 < n){p:Array Nat}{m:Nat}(hp:Pm n p)(h1:1≤m)(hm:m≤n)(u:Dn lt p m):OkT lt n (fun r=>Pm n r.2∧1≤r.1∧r.1≤n∧Up lt r.2 0 r.1) (kas_tail3 m n p):=by
 have hr:=qRs h0 hp 0 m
 have up:Up lt (kas_rev p 0 m) 0 m:=fun i j ha hi hj=>by
  rw [qK1 (by rw [hp.sz];exact hm) #[0],qK1 (by rw [hp.sz];exact hm) #[0],if_pos #[0],if_pos #[0]]
  exact u _ _ #[0] #[0]
 exact ok_bind _ (qV7 as tr hr (n - m) m h1 up) fun r q=>⟨hr,by omega,by omega,q.2.2.1⟩
theorem qJp (h0:0 < n){p:Array Nat}{m:Nat}(hp:Pm n p)(h1:1≤m)(hm:m + 1≤n)(u:Dn lt p (m + 1)):OkT lt n (fun r=>Pm n r.2∧1≤r.1∧r.1≤n∧Up lt r.2 0 r.1) (kas_descPart m n p):=by
 refine ok_bind _ (qMp as tr h0 (n - (m + 1)) p (m + 1) 0 hp #[0] #[0] u fun i j a b c d=>?_) fun r z=>?_
 ·have e1:i=m:=by omega
  have e2:j=m:=by omega
  subst e1;subst e2;exact irr as tr _
 ·obtain ⟨z1,z2,z3,z4,z5,z6⟩:=z
  by_cases hq:r.2.2 > 0
  ·rw [if_pos hq]
   exact qRz as tr h0 (qRs h0 z1 _ _) #[0] #[0] (qbr as tr (by rw [z1.sz];omega) z4 #[10] z5 z6)
  ·rw [if_neg hq]
   exact qRz as tr h0 z1 #[0] #[0] z5
theorem qZs (h0:0 < n){p:Array Nat}(hp:Pm n p):OkT lt n (fun r=>Pm n r.2∧1≤r.1∧r.1≤n∧Up lt r.2 0 r.1) (kas_count n p):=by
 refine ok_bind _ (qV7 as tr hp (n - 1) 1 #[10] fun i j a b c=>absurd c #[0]) fun m z=>?_
 obtain ⟨z1,z2,z3,z4⟩:=z
 by_cases e1:(m == n)=true
 ·rw [if_pos e1];exact ⟨hp,z1,by omega,z3⟩
 ·rw [if_neg e1]
  have hmn:m≠n:=fun q=>e1 (by rw [q];exact beq_self_eq_true _)
  have hlt:=z4 #[0]
  by_cases e2:m > 1
  ·rw [if_pos e2]
   refine ⟨hp.lo _,hp.lo _,?_⟩
   cases h:lt (p.getD 0 0) (p.getD (m - 1) 0) with
   | true=>simp only [if_true];exact ⟨hp,z1,by omega,z3⟩
   | false=>
    simp only [Bool.false_eq_true,if_false]
    refine qJp as tr h0 (qRs h0 hp _ _) z1 #[0] ?_
    have al:Al lt p 0 m:=fun i j _ hi _ hj=>by
     have a1:lt (p.getD i 0) (p.getD 0 0)=false:=by
      by_cases z:i=0
      ·subst z;exact irr as tr _
      ·exact z3 0 i #[10] #[0] hi
     have a2:lt (p.getD (m - 1) 0) (p.getD j 0)=false:=by
      by_cases z:j=m - 1
      ·subst z;exact irr as tr _
      ·exact z3 j (m - 1) (Nat.zero_le _) #[0] #[0]
     exact tr _ _ _ a2 (tr _ _ _ h a1)
    intro i j hi hj
    rw [qK1 (by rw [hp.sz];omega) #[0],qK1 (by rw [hp.sz];omega) #[0],if_pos #[0]]
    by_cases e:j=m
    ·subst e
     rw [if_neg #[0]]
     exact tr _ _ _ (as _ _ hlt) (al _ _ #[0] #[0] #[0] #[0])
    ·rw [if_pos #[0]]
     exact al _ _ #[0] #[0] #[0] #[0]
  ·rw [if_neg e2]
   refine qJp as tr h0 hp z1 #[0] fun i j hi hj=>?_
   have e:m=1:=by omega
   subst e
   have e3:i=0:=by omega
   have e4:j=1:=by omega
   subst e3;subst e4
   exact as _ _ hlt
theorem qMo {p:Array Nat}{k:Nat}(hp:Pm n p)(u:Up lt p 0 k):∀ (f l r:Nat),l≤r→r≤k→r - l≤f→(∀ i,i < l→lt (p.getD k 0) (p.getD i 0)=false)→(∀ i,r≤i→i < k→lt (p.getD k 0) (p.getD i 0)=true)→
  OkT lt n (fun x=>x≤k∧(∀ i,i < x→lt (p.getD k 0) (p.getD i 0)=false)∧(∀ i,x≤i→i < k→lt (p.getD k 0) (p.getD i 0)=true)) (kas_place p k f l r)
 | 0,l,r,h1,h2,h3,a,b=>⟨by omega,a,fun i hi=>b i #[0]⟩
 | f + 1,l,r,h1,h2,h3,a,b=>by
  unfold kas_place
  by_cases e:l ≥ r
  ·rw [if_pos e];exact ⟨by omega,a,fun i hi=>b i #[0]⟩
  ·rw [if_neg e]
   refine ⟨hp.lo _,hp.lo _,?_⟩
   cases h:lt (p.getD k 0) (p.getD ((l + r) / 2) 0) with
   | true=>
    simp only [if_true]
    refine qMo hp u f l _ #[0] #[0] #[0] a fun i hi hk=>?_
    by_cases z:i=(l + r) / 2
    ·subst z;exact h
    ·cases q:lt (p.getD k 0) (p.getD i 0) with
     | true=>rfl
     | false=>
      have:=tr _ _ _ (u ((l + r) / 2) i (Nat.zero_le _) #[0] hk) q
      rw [h] at this;exact this.symm
   | false=>
    simp only [Bool.false_eq_true,if_false]
    refine qMo hp u f _ r #[0] h2 #[0] (fun i hi=>?_) b
    by_cases z:i=(l + r) / 2
    ·subst z;exact h
    ·exact tr _ _ _ (u i ((l + r) / 2) (Nat.zero_le _) #[0] #[0]) h
theorem qbg (h0:0 < n):∀ (f:Nat) (p:Array Nat) (k:Nat),Pm n p→1≤k→k + f=n→Up lt p 0 k→OkT lt n (fun p=>Pm n p∧Up lt p 0 n) (kas_bin f p k)
 | 0,p,k,hp,h1,h2,u=>by
  have e:k=n:=by omega
  subst e;exact ⟨hp,u⟩
 | f + 1,p,k,hp,h1,h2,u=>by
  refine ok_bind _ (qMo as tr hp u k 0 k (Nat.zero_le _) #[10] #[0] (fun i hi=>absurd hi #[0]) fun i hi hk=>absurd hk #[0]) fun l z=>?_
  obtain ⟨z1,z2,z3⟩:=z
  have hk:k < p.size:=by rw [hp.sz];omega
  refine qbg h0 f _ (k + 1) (qc1 h0 ((bubble_perm _ _ _).trans hp.pm)) #[0] #[0] fun i j _ hi hj=>?_
  rw [qbv hk z1,qbv hk z1]
  by_cases e1:i=l
  ·rw [if_pos e1,if_neg #[0],if_pos #[0]]
   exact as _ _ (z3 _ #[0] #[0])
  ·rw [if_neg e1]
   by_cases e2:l < i∧i≤k
   ·rw [if_pos e2,if_neg #[0],if_pos #[0]]
    exact u _ _ (Nat.zero_le _) #[0] #[0]
   ·rw [if_neg e2]
    by_cases e3:j=l
    ·rw [if_pos e3];exact z2 _ #[0]
    ·rw [if_neg e3]
     by_cases e4:l < j∧j≤k
     ·rw [if_pos e4]
      exact u _ _ (Nat.zero_le _) #[0] #[0]
     ·rw [if_neg e4];exact u _ _ (Nat.zero_le _) hi #[0]
theorem qV6 (h0:0 < n):OkT lt n (fun p=>Pm n p∧Up lt p 0 n) (kas_sort n):=by
 refine ok_bind _ (qZs as tr h0 (qc1 h0 (Array.Perm.refl _))) fun r z=>?_
 obtain ⟨z1,z2,z3,z4⟩:=z
 by_cases h:r.1 < n
 ·rw [if_pos h]
  have e:max r.1 1=r.1:=by omega
  rw [e]
  exact qbg as tr h0 _ _ _ z1 z2 #[0] z4
 ·rw [if_neg h]
  have e:r.1=n:=by omega
  rw [e] at z4
  exact ⟨z1,z4⟩
end
open PySem PySem.Spec PyProof.Rows PySem.W
theorem qUu:∀ {vs:List Value},vs.length < 2→(vs.toArray.zip vs.toArray).map (·.2)=List.toArray ((List.range vs.length).toArray.toList.map fun i=>vs.getD i Value.none)
 | [],_=>by simp
 | [v],_=>by simp [List.range_succ]
 | _::_::_,h=>absurd h #[6]
section
variable {prog:Program}{w:World}{A:Around}{E:Value→Shared→Prop}{s:Shared}{a:Addr}{vs:List Value}{κ:SortKind}{lt:Nat→Nat→Bool}{PP:Array Nat→Prop}
theorem qRe {n:Nat}{P:PySem.Fin→Shared→Prop}(ho:s.heap.get? a=some (seqObj "list" vs.toArray n))(h64:vs.length < 64)
  (hkind:2≤vs.length→∀ h1:Heap,(∀ b o,b≠a→s.heap.get? b=some o→h1.get? b=some o)→∀ Q:SortKind→Shared→Prop,Q κ { s with heap:=h1 }→wpAny #[18] A (keyKind' vs.toArray) Q (fun _ _=>False) { s with heap:=h1 })
  (hcmp:∀ (h1:Heap) (tk i j:Nat) (C:Bool→Shared→Prop),(∀ b o,b≠a→s.heap.get? b=some o→h1.get? b=some o)→i < vs.length→j < vs.length→(∀ tk',C (lt i j) { s with heap:=h1,toks:=tk' })→kas_ask prog w A κ vs i j C { s with heap:=h1,toks:=tk })
  (ok:2≤vs.length→OkT lt vs.length PP (kas_sort vs.length)) (ok1:vs.length < 2→PP (List.range vs.length).toArray)
  (hQ:∀ (h':Heap) (tk c:Nat) (p:Array Nat),PP p→(∀ b o,b≠a→s.heap.get? b=some o→h'.get? b=some o)→h'.get? a=some (seqObj "list" (List.toArray (p.toList.map fun i=>vs.getD i Value.none)) c)→P (.done (.ret .none)) { s with heap:=h',toks:=tk }) :
  wpAny #[18] A (Builtin.«list.sort» ⟨[.ref a],[]⟩) P E s:=by
 have ha:a < s.heap.objs.size:=Heap.lt_size ho
 obtain ⟨e1,ho1⟩:∃ e1,(s.heap.update a (Obj.mapSeq fun _=>(#[]:Array Value))).get? a=some (seqObj "list" #[] e1):=⟨_,get?_update_seq ho fun _=>#[]⟩
 have s1:=Heap.SameBut.update s.heap a (Obj.mapSeq fun _=>(#[]:Array Value))
 have kp:∀ b o,b≠a→s.heap.get? b=some o→(#[65].push (seqObj "list" #[] 0)).get? b=some o:=fun b o hb e=>
  Heap.get?_push_of_some _ (Heap.get?_push_of_some _ ((s1.2 b hb).trans e))
 have ho6:(#[65].push (seqObj "list" #[] 0)).get? a=some (seqObj "list" #[] e1):=Heap.get?_push_of_some _ (Heap.get?_push_of_some _ ho1)
 rw [list_sort_plain]
 refine wpAny_bind (listItems_at ho rfl ?_)
 refine wpAny_bind (listUpdate_at ho rfl ?_ (by rw [List.size_toArray,sizeLine_eq];omega) (Nat.zero_le _))
 refine wpAny_bind (seqEpoch_at ho1 rfl ?_)
 refine wpAny_bind (wpAny_newTuple ?_ (by show vs.length≤_;rw [sizeLine_eq];omega))
 refine wpAny_bind (wpAny_newList ?_ (Nat.zero_le _))
 refine wpAny_holding ?_
 show wpAny #[18] A _ P E { s with heap:=#[65].push (seqObj "list" #[] 0) }
 dsimp only
 generalize hg:#[65].push (seqObj "list" #[] 0)=g at *
 have last:∀ (tk:Nat) (out:Array Value) (p:Array Nat),out=List.toArray (p.toList.map fun i=>vs.getD i Value.none)→PP p→P (.done (.ret .none)) { s with heap:=g.update a (Obj.mapSeq fun _=>out),toks:=tk }:=fun tk out p eo hp=>by
  have s2:=Heap.SameBut.update g a (Obj.mapSeq fun _=>out)
  obtain ⟨c2,hc2⟩:∃ c2,(g.update a (Obj.mapSeq fun _=>out)).get? a=some (seqObj "list" out c2):=⟨_,get?_update_seq ho6 fun _=>out⟩
  refine hQ _ tk c2 p hp (fun b o hb e=>(s2.2 b hb).trans (kp b o hb e)) ?_
  rw [←eo];exact hc2
 by_cases h2:vs.toArray.size < 2
 ·have h2':vs.length < 2:=by simpa using h2
  rw [if_pos h2,if_pos h2]
  refine wpAny_bind (wpAny_pure ?_)
  rw [StateT.run_pure]
  refine wpAny_bind (wpAny_pure ?_)
  dsimp only
  refine wpAny_bind (seqEpoch_at ho6 rfl ?_)
  refine wpAny_bind (listUpdate_at ho6 rfl ?_ (Nat.zero_le _) (by rw [Array.size_map];show (pairsOf vs).size≤_;rw [pairsOf_size,sizeLine_eq];omega))
  simp only [bne_self_eq_false,Bool.false_eq_true,if_false]
  refine wpAny_pure (last s.toks _ _ ?_ (ok1 h2'))
  show (vs.toArray.zip vs.toArray).map (·.2)=_
  exact qUu h2'
 ·have h2':2≤vs.length:=by simpa using h2
  rw [if_neg h2,if_neg h2]
  refine wpAny_bind (wpAny_mono (hkind h2' g kp (fun κ' s'=>κ'=κ∧s'={ s with heap:=g }) ⟨rfl,rfl⟩) (fun κ' s0 hk=>?_) fun _ _ x=>x.elim)
  obtain ⟨rfl,rfl⟩:=hk
  have wp:=ok_wp (J:=fun s'=>∃ tk,s'={ s with heap:=g,toks:=tk }) (cmp:=kas_ask prog w A κ' vs) (Q:=fun p s'=>PP p∧∃ tk,s'={ s with heap:=g,toks:=tk }) (P:=PP) (fun i j C s' hi hj hJ hC=>by
   obtain ⟨tk,rfl⟩:=hJ
   exact hcmp g tk i j C kp hi hj fun tk'=>hC _ ⟨tk',rfl⟩) (fun p s' hp hJ=>⟨hp,hJ⟩) (kas_sort vs.length) { s with heap:=g } (ok h2') ⟨s.toks,rfl⟩
  refine wpAny_bind (wpAny_mono (kat_run (Q:=fun st' s'=>∃ p:Array Nat,p.size=vs.length∧arrOf st'=p.map (kas_item (vs.toArray.zip vs.toArray))∧failedOf st'=none∧PP p∧∃ tk,s'={ s with heap:=g,toks:=tk })
   rfl h2' h64 (fun p' st' s' a1 a2 a3 a4=>⟨p',a1,a2,a3,a4⟩) wp) ?_ fun _ _ e=>e)
  rintro ⟨⟨⟩,st'⟩ s' ⟨p,hp,har,hf,hPP,tk,rfl⟩
  dsimp only
  have hout:=kat_snds rfl har
  have hsz:(List.toArray (p.toList.map fun i=>vs.getD i Value.none)).size=vs.length:=by rw [List.size_toArray,List.length_map,Array.length_toList,hp]
  rw [hout]
  refine wpAny_bind (seqEpoch_at (s:={ s with heap:=g,toks:=tk }) ho6 rfl ?_)
  refine wpAny_bind (listUpdate_at (s:={ s with heap:=g,toks:=tk }) ho6 rfl ?_ (Nat.zero_le _) (Nat.le_trans (Nat.le_of_eq hsz) (by rw [sizeLine_eq];omega)))
  rw [hf]
  simp only [bne_self_eq_false,Bool.false_eq_true,if_false]
  exact wpAny_pure (last tk _ p rfl hPP)
theorem qYp {l:Addr}{Q:Value→Shared→Prop}(hl:s.heap.IsList l vs.toArray)(h64:vs.length < 64)
  (hkind:2≤vs.length→∀ h1:Heap,(∀ b o,s.heap.get? b=some o→h1.get? b=some o)→∀ Q:SortKind→Shared→Prop,Q κ { s with heap:=h1 }→wpAny #[18] A.in1.in1 (keyKind' vs.toArray) Q (fun _ _=>False) { s with heap:=h1 })
  (hcmp:∀ (h1:Heap) (tk i j:Nat) (C:Bool→Shared→Prop),(∀ b o,s.heap.get? b=some o→h1.get? b=some o)→i < vs.length→j < vs.length→(∀ tk',C (lt i j) { s with heap:=h1,toks:=tk' })→kas_ask prog w A.in1.in1 κ vs i j C { s with heap:=h1,toks:=tk })
  (ok:2≤vs.length→OkT lt vs.length PP (kas_sort vs.length)) (ok1:vs.length < 2→PP (List.range vs.length).toArray)
  (hQ:∀ (h':Heap) (tk c n:Nat) (p:Array Nat),PP p→s.heap.objs.size≤n→(∀ b o,s.heap.get? b=some o→h'.get? b=some o)→h'.get? n=some (seqObj "list" (List.toArray (p.toList.map fun i=>vs.getD i Value.none)) c)→Q (.ref n) { s with heap:=h',toks:=tk }) :
  wpAny #[18] A (call (.builtin "sorted") [.ref l]) Q E s:=by
 refine Calls.call_function_entry kind_sorted plain_sorted entry_sorted (args_sorted1 _) ?_
 unfold Builtin.«sorted»
 refine wpAny_bind (m:=checkCount "sorted" 1 1 _) (wpAny_pure ?_)
 refine wpAny_bind (collect_list hl ?_ (by rw [sizeLine_eq];omega))
 refine wpAny_bind (wpAny_newList ?_ (by rw [sizeLine_eq];omega))
 have hsz:#[57].objs.size=s.heap.objs.size + 1:=by
  rw [Heap.size_update,size_push']
 have hoL:(#[57].push (seqObj "list" vs.toArray 0)).get? (s.heap.objs.size + 1)=some (seqObj "list" vs.toArray 0):=by
  rw [←hsz];exact Heap.get?_push_size _ rfl
 have keep:∀ b o,s.heap.get? b=some o→(#[57].push (seqObj "list" vs.toArray 0)).get? b=some o:=fun b o q=>by
  have hlt:b < s.heap.objs.size:=Heap.lt_size q
  rw [Heap.get?_push_ne _ _ _ (by rw [hsz];exact Nat.ne_of_lt (Nat.lt_succ_of_lt hlt)),Heap.get?_update_ne _ _ _ _ (Nat.ne_of_lt hlt),Heap.get?_push_ne _ _ _ (Nat.ne_of_lt hlt)]
  exact q
 have keep2:∀ h1:Heap,(∀ b o,b≠s.heap.objs.size + 1→(#[57].push (seqObj "list" vs.toArray 0)).get? b=some o→h1.get? b=some o)→∀ b o,s.heap.get? b=some o→h1.get? b=some o:=fun h1 k b o q=>
  k b o (Nat.ne_of_lt (Nat.lt_succ_of_lt (Heap.lt_size q))) (keep b o q)
 show wpAny _ _ _ _ _ { s with heap:=#[57].push (seqObj "list" vs.toArray 0) }
 rw [hsz]
 refine wpAny_bind (wpAny_holding (wpAny_call_entry slot_list_sort ⟨_,hoL,rfl⟩ entry_list_sort ?body (args_list_sort _)))
 case body=>
  refine qRe (s:={ s with heap:=#[57].push (seqObj "list" vs.toArray 0) }) (κ:=κ) (lt:=lt) (PP:=PP) hoL h64
   (fun h2 h1 k Q q=>hkind h2 h1 (keep2 h1 k) Q q) (fun h1 tk i j C k hi hj hC=>hcmp h1 tk i j C (keep2 h1 k) hi hj hC) ok ok1 fun h' tk c p hp k e=>?_
  exact ⟨_,rfl,wpAny_pure ⟨_,rfl,hQ h' tk c _ p hp (Nat.le_succ _) (keep2 h' k) e⟩⟩
end
end L2
namespace PySem
open Sem (wp)
open Builtin
theorem qId:fillsNumberSlot (.type "tuple") "mul"=pure false:=
 fillsNumberSlot_seq (id:="tuple.__mul__") (r:=some (.builtin "tuple.__rmul__")) F.slot_tuple_mul.lookup #[19] F.slot_tuple_rmul.lookup #[19]
theorem qN5:seqRepeat? (.type "tuple")=pure (some (.builtin "tuple.__mul__")):=by
 unfold seqRepeat?
 rw [seqSlot_of (T:="tuple") (name:="__mul__") (id:="tuple.__mul__") F.slot_tuple_mul.lookup #[19],seqSlot_of (T:="tuple") (name:="__rmul__") (id:="tuple.__rmul__") F.slot_tuple_rmul.lookup #[19]]
 rfl
theorem qKn (a:Int)(t:Tok)(l:Addr)(items:Array Value)(n:Nat)(d:Option Addr)(sl:Array (Option Value)) :
  Meets (Builtin.«int.__rmul__» ⟨[.int a t,.ref l],[]⟩) (fun _ R s=>s.heap.get? l=some { cls:=.type "tuple",dict:=d,data:=.seq items n,slots:=sl }∧R (.ok (.ret Value.notImplemented)) s):=
 .of_wp fun prog w A R s h=>by obtain ⟨hp,g,d,tk,os⟩:=s;obtain ⟨hl,h⟩:=h;wp_walk;exact ⟨_,rfl,h⟩
theorem qY1 (n:Nat)(xs:Array Value):(List.foldl (fun x1 x2=>x1++x2) #[] (List.replicate n xs)).size=n * xs.size:=by
 have h:∀ (m:Nat) (ys:Array Value),(List.foldl (fun x1 x2=>x1++x2) ys (List.replicate m xs)).size=ys.size + m * xs.size:=by
  intro m
  induction m with
  | zero=>intro ys;simp
  | succ m ih=>intro ys;rw [List.replicate_succ,List.foldl_cons,ih,Array.size_append,Nat.succ_mul];omega
 have:=h n #[]
 simpa using this
theorem qUl (l:Addr)(items:Array Value)(n:Nat)(d:Option Addr)(sl:Array (Option Value))(x:Int)(u:Tok)(h2:2≤x)(hx:x < 1000)(hs0:items.size≠0)(hs:items.size < 1000) :
  Meets (Builtin.«tuple.__mul__» ⟨[.ref l,.int x u],[]⟩) (fun _ R s=>s.heap.get? l=some { cls:=.type "tuple",dict:=d,data:=.seq items n,slots:=sl }∧R (.ok (.ret (Value.ref s.heap.objs.size))) { s with heap:=s.heap.push { cls:=Value.type "tuple",data:=Data.seq (List.foldl (fun x1 x2=>x1++x2) #[] (List.replicate x.toNat items)) },toks:=s.toks }):=
 .of_wp fun prog w A R s h=>by
  obtain ⟨hp,g,d,tk,os⟩:=s;obtain ⟨hl,h⟩:=h
  have e1:(decide (x < -2 ^ 63) || decide (x ≥ 2 ^ 63))=false:=by simp;omega
  have e2:items.isEmpty=false:=by
   cases h:items.isEmpty with
   | false=>rfl
   | true=>exact absurd (by simpa using h) hs0
  have e3:(x == 1)=false:=by simp;omega
  have e4:decide (x≤0)=false:=decide_eq_false #[0]
  have e5:¬ ((items.size:Int) * x > (2 ^ 63 - 1) / 8):=by
   have:(items.size:Int) * x≤1000 * 1000:=Int.mul_le_mul #[0] #[0] #[0] #[0]
   omega
  have e6:Tuple.tupleTooMany ((items.size:Int) * x)=false:=by
   have:(items.size:Int) * x≤1000 * 1000:=Int.mul_le_mul #[0] #[0] #[0] #[0]
   simp [Tuple.tupleTooMany,sizeLine];omega
  wp_walk
  rw [e1]
  have hsz:(List.foldl (fun x1 x2=>x1++x2) #[] (List.replicate x.toNat items)).size≤sizeLine:=by
   rw [qY1]
   have:x.toNat * items.size≤1000 * 1000:=Nat.mul_le_mul #[0] #[0]
   simp only [sizeLine];omega
  wp_walk
  refine wpAny_ite_false (decide_eq_false e5) ?_
  wp_walk
  exact ⟨_,rfl,h⟩
end PySem
namespace PD
open PySem PySem.Spec PyProof.Rows
section
variable {prog:Program}{w:World}{A:Around}{E:Value→Shared→Prop}{s:Shared}
theorem qRt {α:Type}(n:Nat)(xs:List α):List.foldl (fun x1 x2=>x1++x2) #[] (List.replicate n xs.toArray)=((List.replicate n xs).flatten).toArray:=by
 have h:∀ (m:Nat) (ys:List α),List.foldl (fun x1 x2=>x1++x2) ys.toArray (List.replicate m xs.toArray)=(ys++(List.replicate m xs).flatten).toArray:=by
  intro m
  induction m with
  | zero=>intro ys;simp
  | succ m ih=>
   intro ys
   rw [List.replicate_succ,List.foldl_cons,List.replicate_succ,List.flatten_cons]
   have:ys.toArray++xs.toArray=(ys++xs).toArray:=by simp
   rw [this,ih,List.append_assoc]
 have:=h n []
 simpa using this
theorem qTr {t:Addr}{its:List Value}{x:Int}{u:Tok}{Q:Value→Shared→Prop}(ht:IsTup s.heap t its.toArray)(h2:2≤x)(hx:x < 1000)(h0:its≠[])(hl:its.length < 1000)
  (h:Q #[38] { s with heap:=s.heap.push { cls:=.type "tuple",data:=.seq ((List.replicate x.toNat its).flatten).toArray } }):wpAny #[18] A (binaryOp .Mult (.ref t) (.int x u)) Q E s:=by
 obtain ⟨⟨cls,dd,data,sl⟩,ho,hc,n,hd⟩:=id ht
 simp only at hc hd
 subst hc hd
 refine wpAny_binaryOp_repeat_ref (T:="tuple") (U:="int") #[4] ⟨_,ho,rfl⟩ (fun s'=>typeIs_int s' x u) qId F.fills_int_mul F.slot_int_rmul qN5 F.slot_int_index.lookup
  (call_meets F.slot_int_rmul (typeIs_int s x u) F.entry_int_rmul (F.args_int_rmul_2 _ _) (qKn x u t its.toArray n dd sl)
   ⟨ho,rfl,⟨_,ho,rfl⟩,call_meets F.slot_tuple_mul ⟨_,ho,rfl⟩ F.entry_tuple_mul (F.args_tuple_mul_2 _ _)
    (qUl t its.toArray n dd sl x u h2 hx (by simpa using h0) (by simpa using hl))
    ⟨ho,?_⟩⟩)
 rw [qRt];exact h
theorem qWa {l:Addr}{its:List Value}{n:Nat}{x:Int}{u:Tok}{Q:Value→Shared→Prop}(ho:s.heap.get? l=some { cls:=.type "list",data:=.seq its.toArray n })(h2:2≤x)(hx:x < 1000)(h0:its≠[])(hl:its.length < 1000)
  (h:Q #[38] { s with heap:=s.heap.push { cls:=.type "list",data:=.seq ((List.replicate x.toNat its).flatten).toArray } }):wpAny #[18] A (binaryOp .Mult (.ref l) (.int x u)) Q E s:=by
 have hm:its.length * x.toNat≤1000 * 1000:=Nat.mul_le_mul #[0] #[0]
 refine wpAny_binaryOp_repeat_ref (T:="list") (U:="int") #[4] ⟨_,ho,rfl⟩ (fun s'=>typeIs_int s' x u) noFill_list_mul F.fills_int_mul F.slot_int_rmul repeat_list F.slot_int_index.lookup
  (call_meets F.slot_int_rmul (typeIs_int s x u) F.entry_int_rmul (F.args_int_rmul_2 _ _) (int___rmul___int_list x u l its.toArray n)
   ⟨ho,rfl,⟨_,ho,rfl⟩,call_meets F.slot_list_mul ⟨_,ho,rfl⟩ F.entry_list_mul (F.args_list_mul_2 _ _)
    (AutoListH.list___mul___list_int_3 l its.toArray n x u (by simp [Builtin.List.listFitsIndex];omega) (by rw [List.size_toArray];omega) (by simp [Builtin.List.listTooLong,sizeLine];omega))
    ⟨ho,?_⟩⟩)
 have:its.toArray.isEmpty=false:=by cases its with | nil=>exact absurd rfl h0 | cons _ _=>rfl
 rw [this,if_neg Bool.false_ne_true,qRt];exact h
end
end PD
namespace L2
open PySem PySem.Spec PyProof.Rows PySem.W
def DEn (h:Heap)(d:Addr)(es:Array DictEntry)(ep:Nat):Prop:=∃ od,h.get? d=some od∧od.ExactDict∧od.data=.dict es ep
theorem DEn.mov {h g:Heap}{d:Addr}{es:Array DictEntry}{ep:Nat}(x:DEn h d es ep)(k:∀ q,h.get? d=some q→g.get? d=some q):DEn g d es ep:=let ⟨q,e,r⟩:=x;⟨q,k q e,r⟩
theorem DEn.ty {s:Shared}{d:Addr}{es:Array DictEntry}{ep:Nat}(x:DEn s.heap d es ep):s.TypeIs (.ref d) "dict":=let ⟨q,e,c,_⟩:=x;⟨q,e,c.1⟩
section
variable {prog:Program}{w:World}{A:Around}{E:Value→Shared→Prop}{s:Shared}{d I:Addr}{es:Array DictEntry}{ep:Nat}
abbrev keyItO (d:Addr)(n ep:Nat):Obj:={ cls:=.type "dict_keyiterator",data:=.fields #[.ref d,.int 0 0,.int n 0,.int ep 0] }
theorem qar {Q:Value→Shared→Prop}(lo:(d == sysModules)=false)(x:DEn s.heap d es ep)(q:Q #[38] { s with heap:=s.heap.push (keyItO d es.size ep) }):wpAny #[18] A (pyIter (.ref d)) Q E s:=by
 obtain ⟨od,h1,h2,h3⟩:=id x
 refine wpAny_pyIter_slot x.ty PySem.F.slot_dict_iter (wpAny_call_entry PySem.F.slot_dict_iter x.ty PySem.F.entry_dict_iter ?b (PySem.F.args_dict_iter_1 _))
 case b=>
  unfold Builtin.«dict.__iter__» Builtin.Dict.dictSlotNone
  refine wpAny_bind (wpAny_bind (wpAny_notOrdered_dict x.ty (wpAny_pure ?_)))
  show wpAny _ _ (Builtin.Dict.showsAll d>>=_) _ _ s;unfold Builtin.Dict.showsAll
  rw [if_neg (by rw [lo];decide)]
  refine wpAny_bind (wpAny_pure (wpAny_bind (wpAny_dictEntries h1 h3 (wpAny_bind (wpAny_dictEpoch h1 h3 (wpAny_bind (wpAny_newObj_type (wpAny_pure ⟨_,rfl,"dict_keyiterator",_,⟨_,Heap.get?_push_size _ rfl,rfl⟩,PySem.F.slot_dict_keyiterator_next.lookup,?z⟩))))))))
  case z=>simpa [rawInt] using q
theorem qas {i:Nat}{Q:Option Value→Shared→Prop}(it:s.heap.IsKeyIter I d i es.size ep)(x:DEn s.heap d es ep)(hi:i < es.size)
  (q:∀ g,g.IsKeyIter I d (i + 1) es.size ep→Heap.SameBut I s.heap g→Q (some es[i].key) { s with heap:=g }):wpAny #[18] A (pyNext (.ref I)) Q E s:=by
 obtain ⟨oi,i1,i2,i3⟩:=id it
 obtain ⟨od,h1,h2,h3⟩:=id x
 have ow:Builtin.Dict_items.ownsTuple "dict_keyiterator"=false:=by decide
 unfold pyNext
 refine wpAny_bind #[68]
 case b=>
  refine wpAny_bind (wpAny_pure (wpAny_bind (wpAny_bind ?c)))
  case c=>
   first | refine wpAny_bind (wpAny_typeNameOfWhole_keyiter it.typeIs (wpAny_pure (wpAny_bind (wpAny_fieldsOf i1 i3 ?d)))) | refine wpAny_bind (wpAny_typeNameOf_keyiter it.typeIs (wpAny_pure (wpAny_bind (wpAny_fieldsOf i1 i3 ?d))))
   case d=>
    simp only [ow,Bool.false_eq_true,if_false]
    show wpAny _ _ (if (Value.ref d == Value.none)=true then _ else _) _ _ s;rw [if_neg (fun z:(Value.ref d == Value.none)=true=>Bool.false_ne_true z)]
    refine wpAny_bind (wpAny_pure (wpAny_bind (wpAny_dictEntries h1 h3 ?e)))
    case e=>
     rw [if_neg #[6]];refine wpAny_bind (wpAny_pure (wpAny_bind (wpAny_dictEpoch h1 h3 ?f)))
     case f=>
      rw [if_neg #[6]];refine wpAny_pure ?g
      case g=>
       simp only [show ¬ ((i:Int) < 0) by omega,if_false,Int.toNat_natCast,Array.getElem?_eq_getElem hi]
       refine wpAny_bind ?h
       case h=>
        first | refine wpAny_bind (wpAny_typeNameOfWhole_keyiter it.typeIs (wpAny_pure (wpAny_bind (wpAny_isOneOf_keyiter it.typeIs ?k)))) | refine wpAny_bind (wpAny_typeNameOf_keyiter it.typeIs (wpAny_pure (wpAny_bind (wpAny_isOneOf_keyiter it.typeIs ?k))))
        case k=>
         show wpAny _ _ (setField (.ref I) 1 (rawInt ((i:Int) + 1))>>=_) _ _ s;refine wpAny_bind (wpAny_setField i1 i3 #[6] ?l)
         case l=>
          have it2:(s.heap.update I (Obj.mapFields (·.setIfInBounds 1 (rawInt ((i:Int) + 1))))).IsKeyIter I d (i + 1) es.size ep:=⟨_,Heap.get?_update_self _ i1 (Obj.isFreed_of_fields (Obj.data_mapFields i3 _)),(Obj.cls_mapFields ..).trans i2,by rw [Obj.data_mapFields i3];simp [rawInt]⟩
          refine wpAny_bind (wpAny_holding (wpAny_bind (wpAny_isOneOf_keyiter (s:={ s with heap:=s.heap.update I (Obj.mapFields (·.setIfInBounds 1 (rawInt ((i:Int) + 1)))) }) it2.typeIs ?m)))
          case m=>show wpAny _ _ (pure es[i].key) _ _ _;exact wpAny_pure (wpAny_pure ⟨_,rfl,wpAny_pure (q _ it2 (Heap.SameBut.update ..))⟩)
theorem qd8 {Q:Option Value→Shared→Prop}(hh:A.handled=none)(it:s.heap.IsKeyIter I d es.size es.size ep)(x:DEn s.heap d es ep)(q:∀ g,Heap.ExtBut I s.heap g→Q none { s with heap:=g }):wpAny #[18] A (pyNext (.ref I)) Q E s:=by
 obtain ⟨oi,i1,i2,i3⟩:=id it
 obtain ⟨od,h1,h2,h3⟩:=id x
 have ow:Builtin.Dict_items.ownsTuple "dict_keyiterator"=false:=by decide
 unfold pyNext
 refine wpAny_bind #[68]
 case b=>
  refine wpAny_bind (wpAny_pure (wpAny_bind (wpAny_bind ?c)))
  case c=>
   first | refine wpAny_bind (wpAny_typeNameOfWhole_keyiter it.typeIs (wpAny_pure (wpAny_bind (wpAny_fieldsOf i1 i3 ?d)))) | refine wpAny_bind (wpAny_typeNameOf_keyiter it.typeIs (wpAny_pure (wpAny_bind (wpAny_fieldsOf i1 i3 ?d))))
   case d=>
    simp only [ow,Bool.false_eq_true,if_false]
    show wpAny _ _ (if (Value.ref d == Value.none)=true then _ else _) _ _ s;rw [if_neg (fun z:(Value.ref d == Value.none)=true=>Bool.false_ne_true z)]
    refine wpAny_bind (wpAny_pure (wpAny_bind (wpAny_dictEntries h1 h3 ?e)))
    case e=>
     rw [if_neg #[6]];refine wpAny_bind (wpAny_pure (wpAny_bind (wpAny_dictEpoch h1 h3 ?f)))
     case f=>
      rw [if_neg #[6]];refine wpAny_pure ?g
      case g=>
       simp only [show ¬ (((es.size:Nat):Int) < 0) by omega,if_false,Int.toNat_natCast,Array.getElem?_eq_none #[10]]
       refine wpAny_bind ?h
       case h=>
        first | refine wpAny_bind (wpAny_typeNameOfWhole_keyiter it.typeIs (wpAny_pure ?k)) | refine wpAny_bind (wpAny_typeNameOf_keyiter it.typeIs (wpAny_pure ?k))
        case k=>
         show wpAny _ _ (setField (.ref I) 0 .none>>=_) _ _ s;refine wpAny_bind (wpAny_setField i1 i3 #[6] ?l)
         case l=>
          show wpAny _ _ (newExc (.type "StopIteration") []>>=_) _ _ _;refine wpAny_bind ?m
          case m=>
           simp only [newExc,newTuple];refine wpAny_bind (wpAny_newObj_type ?n (by size_fits))
           case n=>
            refine wpAny_bind (m:=firstArgMember _ _) (wpAny_of_eq (a:=Value.none) (by first | rfl | (simp only [firstArgMember];rfl)) (wpAny_newObj_type ?o (by size_fits)))
            case o=>
             simp only [raiseNew];refine wpAny_bind (wpAny_handled ?r)
             case r=>
              rw [show A.in1.handled=none from hh];refine wpAny_bind (wpAny_pure (wpAny_throw ?t))
              case t=>
               refine wpAny_bind (wpAny_isInstance (b:=true) (T:="StopIteration") ⟨_,Heap.get?_push_size _ rfl,rfl⟩ isSubtype_stop ?u)
               case u=>exact wpAny_pure (q _ (((Heap.SameBut.update ..).extBut.push _).push _))
theorem qXu (hh:A.handled=none)(hne:d≠I):Walks prog w A I [I,d] [I] es.size (fun i v=>∃ e,es[i]?=some e∧v=e.key) (fun i h=>h.IsKeyIter I d i es.size ep∧DEn h d es ep) where
 sub:=fun b hb=>by simp at hb;simp [hb]
 frame:=fun _ _ _ st k=>⟨st.1.at fun o e=>k I #[6] o e,st.2.mov fun o e=>k d #[6] o e⟩
 item:=fun i s Q E hi st hQ=>qas st.1 st.2 hi fun g g1 g2=>hQ _ g s.toks ⟨es[i],by simp [hi],rfl⟩ ⟨g1,st.2.mov fun o e=>g2.extBut d o hne e⟩ fun b o hb e=>g2.extBut b o (fun z=>hb (by simp [z])) e
 done:=fun s Q E st hQ=>qd8 hh st.1 st.2 fun g g1=>hQ g s.toks fun b o hb e=>g1 b o (fun z=>hb (by simp [z])) e
 self:=fun _ _ _ _ st hQ=>wpAny_pyIter_keyiter st.1 hQ
theorem qXv (lo:(d == sysModules)=false):KdlSrc prog w "dict" d d es.size (fun i v=>∃ e,es[i]?=some e∧v=e.key) (fun h=>DEn h d es ep) where
 type:=fun _ x=>x.ty
 there:=fun _ x=>let ⟨_,e,_⟩:=x;⟨Heap.lt_size e,Heap.lt_size e⟩
 keep:=fun _ _ x k=>x.mov fun o e=>k d (.inl rfl) o e
 notList:=by decide
 notTuple:=by decide
 hint:=fun _ _ _ _ x q=>kdl_hint_dict x.ty q
 iter:=fun _ s hh x=>⟨_,_,(fun _ _ q=>qar lo x q),qXu hh (Nat.ne_of_lt (let ⟨_,e,_⟩:=x;Heap.lt_size e)),⟨⟨_,Heap.get?_push_size _ rfl,rfl,rfl⟩,x.mov fun o e=>Heap.get?_push_of_some _ e⟩⟩
theorem qQ2 {Q:List Value→Shared→Prop}(hh:A.handled=none)(lo:(d == sysModules)=false)(x:DEn s.heap d es ep)(hz:es.size≤sizeLine)
  (q:∀ g tk,(∀ b o,s.heap.get? b=some o→g.get? b=some o)→s.heap.objs.size < g.objs.size→Q (es.toList.map (·.key)) { s with heap:=g,toks:=tk }):wpAny #[18] A (collect (.ref d)) Q E s:=by
 have dl:d < s.heap.objs.size:=let ⟨_,e,_⟩:=x;Heap.lt_size e
 unfold collect
 refine wpAny_bind (wpAny_runValue (codeAny_builtin entry_proto_collect' ?a))
 case a=>
  show wpAny _ _ (do again (.builtin "list.__iadd__" ⟨[←newList [],.ref d],[]⟩)) _ _ s
  refine wpAny_bind (wpAny_newList (wpAny_pure ⟨Code.quiet_builtin _ #[19],codeAny_builtin entry_list_iadd' ?b⟩))
  case b=>
   refine kdl_extend (R:=fun r s'=>match r with
    | .ok (.ret v)=>wpAny #[18] A (match v with
     | .ref b=>do
      let ob ←load b
      match ob.data with
      | .seq xs _=>pure xs.toList
      | _=>unsupported "internal:collect"
     | _=>unsupported "internal:collect") Q E s'
    | .ok _=>False
    | .error e=>E e s') (s:={ s with heap:=s.heap.push (seqObj "list" #[] 0) }) (qXv (prog:=prog) (w:=w) (es:=es) (ep:=ep) lo) hh (x.mov fun o e=>Heap.get?_push_of_some _ e) s.heap.objs.size (Nat.ne_of_gt dl) (Nat.ne_of_gt dl) (.ref s.heap.objs.size) 0 (Heap.get?_push_size _ rfl) (fun g tk acc c k hS hi=>?c) hz
   case c=>
    refine wpAny_bind (wpAny_load hS ?_)
    have ea:acc.toList=es.toList.map (·.key):=by
     apply List.ext_getElem?
     intro j
     rw [List.getElem?_map,Array.getElem?_toList,Array.getElem?_toList]
     cases e:acc[j]? with
     | some v=>
      obtain ⟨en,e1,e2⟩:=hi.2 j v e
      rw [e1,e2];rfl
     | none=>
      have:es[j]?=none:=by
       rw [Array.getElem?_eq_none_iff] at e ⊢
       rw [←hi.1];exact e
      rw [this];rfl
    show wpAny _ _ (pure acc.toList) Q E _
    rw [ea]
    exact wpAny_pure (q g tk (fun b o e=>k b o (Nat.ne_of_lt (Heap.lt_size e)) (Heap.get?_push_of_some _ e)) (Heap.lt_size hS))
end
open PySem PySem.Spec PyProof.Rows
structure CompScope2 (X:Cx) (M:List Str) (x x2:Str) (scope:Scope):Prop where
 cell:∀ y∈scope.names,y.2≠.cell
 kind:scope.kind=.function
 names:∀ y∈scope.names,y.2=.local→scope.names.lookup y.1=some .local
 one:∀ y∈scope.names,y.2=.local→y.1=x∨y.1=x2∨y.1=".0"
 vx:scope.names.lookup x=some .local
 vz:scope.names.lookup x2=some .local
 free:∀ y∈scope.names,y.2=.free→X.env.kindOf y.1=some .cell∨X.env.kindOf y.1=some .free
 new:x∉M
 newz:x2∉M
 ne:x≠x2
 new0:(".0":Str)∉M
 same:∀ (i:Nat) (y:Str),M[i]?=some y→scope.names.lookup y=some .free→X.N[i]?=some y
 nd:M.Nodup
 len:M.length=X.N.length
section
variable {X:Cx}{M:List Str}{x x2:Str}{scope:Scope}
theorem CompScope2.vis (S:CompScope2 X M x x2 scope){y:Str}(h:Vis #[35] y):(y=x∨y=x2∨y=".0")∨scope.names.lookup y=some .free:=by
 have e:#[35].names.lookup y=(scope.names.lookup y).map fun k=>if #[60] then NameKind.cell else k:=qBz
 unfold Vis at h
 rw [e] at h
 cases q:scope.names.lookup y with
 | none=>rw [q] at h;rcases h with h | h | h <;> cases h
 | some k=>
  have hm:=PySem.mem_of_lookup q
  cases k with
  | «local»=>exact .inl (S.one _ hm rfl)
  | free=>exact .inr rfl
  | cell=>exact absurd rfl (S.cell _ hm)
  | _=>rw [q] at h;rcases h with h | h | h <;> cases h
theorem CompScope2.xkind (S:CompScope2 X M x x2 scope):#[35].names.lookup x=some .local:=by
 have e:#[35].names.lookup x=(scope.names.lookup x).map fun k=>if (k == NameKind.free && X.env.scope.kind == .function && X.env.kindOf x == some .cell) then NameKind.cell else k:=qBz
 rw [e,S.vx]
 rfl
theorem CompScope2.fkind (S:CompScope2 X M x x2 scope){y:Str}(h:scope.names.lookup y=some .free):#[35].names.lookup y=some .cell∨#[35].names.lookup y=some .free:=by
 have e:#[35].names.lookup y=(scope.names.lookup y).map fun k=>if #[60] then NameKind.cell else k:=qBz
 rw [e,h]
 simp only [Option.map_some]
 split
 ·exact .inl rfl
 ·exact .inr rfl
end
section
variable {X:Cx}{pins:List (Addr×Obj)}{σ:St}{H:Hp}{s:Shared}{x x2:Str}{scope:Scope}{cl:List (Str×Addr)}{fp:List Addr}{C:Addr}{h':Heap}{t':Nat}
end
section
variable {X:Cx}{elt iter:Expr}{x x2 y:Str}{px py pz tpos:Pos}{kz:Nat}{ifs:List Expr}{scope:Scope}{pos spos:Pos}{wi:TI}{tt:TT}{te:TE}
end
end L2
namespace PD
open PySem PySem.Spec PyProof.Rows L2
inductive D where
 | non | bl (b:Bool) | int (i:Int) | str (x:Str) | tup (xs:List D) | lst (xs:List D) | fn (a:Addr) | clo (f:Addr) (vw:V) (d:D)
mutual
def IsD (K:PySem.W.Frag)(B:Hp):D→V→Prop
 | .non,v=>v=.non
 | .bl b,v=>v=.bl b
 | .int i,v=>v=.int i
 | .str x,v=>v=.str x
 | .fn a,v=>v=.ref a
 | .clo f vw d,v=>v=.ref f∧IsD K B d vw
 | .tup ds,v=>∃ a vs,v=.ref a∧B a=some (.tup vs)∧IsDs K B ds vs
 | .lst ds,v=>∃ a vs,v=.ref a∧SqL K B a vs∧IsDs K B ds vs
def IsDs (K:PySem.W.Frag)(B:Hp):List D→List V→Prop
 | [],vs=>vs=[]
 | d::ds,vs=>∃ v r,vs=v::r∧IsD K B d v∧IsDs K B ds r
end
section
variable {K:PySem.W.Frag}{B B' H H':Hp}
theorem qA5.sqT (e:qA5 H H'){a:Addr}{xs:List V}(h:SqT K H a xs):SqT K H' a xs:=by
 rcases h with (h | ⟨o,h⟩) | h
 ·exact .inl (.inl (e _ _ h))
 ·exact .inl (.inr ⟨o,e _ _ h⟩)
 ·exact .inr h
theorem qA5.tp (e:qA5 H H'){a:Addr}{xs:List V}(h:H a=some (.tup xs)):SqT K H' a xs:=SqT.of (e _ _ h)
theorem qA5.rdl (e:qA5 H H'){a:Addr}{u:HO}(h:Rd H a u):Rd H' a u:=by
 rcases h with h | ⟨o,h⟩
 ·exact .inl (e _ _ h)
 ·exact .inr ⟨o,e _ _ h⟩
mutual
theorem IsD.mono (e:qA5 B B'):∀ (d:D) (v:V),IsD K B d v→IsD K B' d v
 | .non,v,h=>h
 | .bl b,v,h=>h
 | .int i,v,h=>h
 | .str x,v,h=>h
 | .fn a,v,h=>h
 | .clo f vw d,v,h=>⟨h.1,IsD.mono e d vw h.2⟩
 | .tup ds,v,h=>by
  obtain ⟨a,vs,e1,e2,e3⟩:=h
  exact ⟨a,vs,e1,e _ _ e2,IsDs.mono e ds vs e3⟩
 | .lst ds,v,h=>by
  obtain ⟨a,vs,e1,e2,e3⟩:=h
  exact ⟨a,vs,e1,e.seq e2,IsDs.mono e ds vs e3⟩
theorem IsDs.mono (e:qA5 B B'):∀ (ds:List D) (vs:List V),IsDs K B ds vs→IsDs K B' ds vs
 | [],vs,h=>h
 | d::ds,vs,h=>by
  obtain ⟨v,r,e1,e2,e3⟩:=h
  exact ⟨v,r,e1,IsD.mono e d v e2,IsDs.mono e ds r e3⟩
end
theorem IsDs.len:∀ {ds:List D} {vs:List V},IsDs K B ds vs→ds.length=vs.length
 | [],vs,h=>by cases #[40];rfl
 | d::ds,vs,h=>by
  obtain ⟨v,r,e1,e2,e3⟩:=h
  subst e1
  rw [List.length_cons,List.length_cons,IsDs.len e3]
theorem IsDs.get:∀ {ds:List D} {vs:List V} {i:Nat} {d:D},IsDs K B ds vs→ds[i]?=some d→∃ v,vs[i]?=some v∧IsD K B d v
 | [],_,_,_,_,e=>by simp at e
 | d::ds,vs,0,d',h,e=>by
  obtain ⟨v,r,e1,e2,e3⟩:=h
  subst e1
  simp at e
  subst e
  exact ⟨v,rfl,e2⟩
 | d::ds,vs,i + 1,d',h,e=>by
  obtain ⟨v,r,e1,e2,e3⟩:=h
  subst e1
  obtain ⟨v',h1,h2⟩:=IsDs.get (i:=i) (d:=d') e3 (by simpa using e)
  exact ⟨v',by simpa using h1,h2⟩
theorem IsDs.app:∀ {ds es:List D} {vs us:List V},IsDs K B ds vs→IsDs K B es us→IsDs K B (ds++es) (vs++us)
 | [],es,vs,us,h,h'=>by cases #[40];exact h'
 | d::ds,es,vs,us,h,h'=>by
  obtain ⟨v,r,e1,e2,e3⟩:=h
  subst e1
  exact ⟨v,r++us,rfl,e2,IsDs.app e3 h'⟩
theorem IsDs.one {d:D}{v:V}(h:IsD K B d v):IsDs K B [d] [v]:=⟨v,[],rfl,h,rfl⟩
theorem IsDs.take:∀ {ds:List D} {vs:List V} (n:Nat),IsDs K B ds vs→IsDs K B (ds.take n) (vs.take n)
 | _,_,0,_=>by simp [IsDs]
 | [],vs,n + 1,h=>by cases #[40];simp [IsDs]
 | d::ds,vs,n + 1,h=>by
  obtain ⟨v,r,e1,e2,e3⟩:=h
  subst e1
  exact ⟨v,r.take n,rfl,e2,IsDs.take n e3⟩
theorem IsDs.drop:∀ {ds:List D} {vs:List V} (n:Nat),IsDs K B ds vs→IsDs K B (ds.drop n) (vs.drop n)
 | _,_,0,h=>h
 | [],vs,n + 1,h=>by cases #[40];simp [IsDs]
 | d::ds,vs,n + 1,h=>by
  obtain ⟨v,r,e1,e2,e3⟩:=h
  subst e1
  exact IsDs.drop n e3
theorem IsDs.mem:∀ {ds:List D} {vs:List V} {v:V},IsDs K B ds vs→v∈vs→∃ d,d∈ds∧IsD K B d v
 | [],vs,v,h,hm=>by cases #[40];cases hm
 | d::ds,vs,v',h,hm=>by
  obtain ⟨v,r,e1,e2,e3⟩:=h
  subst e1
  rcases List.mem_cons.mp hm with z | z
  ·subst z;exact ⟨d,List.mem_cons_self,e2⟩
  ·obtain ⟨d',q1,q2⟩:=IsDs.mem e3 z
   exact ⟨d',List.mem_cons_of_mem _ q1,q2⟩
end
structure XD where
 tag:Nat
 why:D
inductive Rs (α:Type) where
 | no | ok (a:α) | ex (x:XD)
def Rs.bind {α β:Type}:Rs α→(α→Rs β)→Rs β
 | .no,_=>.no
 | .ok a,f=>f a
 | .ex x,_=>.ex x
instance:Monad Rs where
 pure:=Rs.ok
 bind:=Rs.bind
@[simp] theorem ok_bind {α β:Type} (a:α) (f:α→Rs β):(Rs.ok a>>=f)=f a:=rfl
@[simp] theorem no_bind {α β:Type} (f:α→Rs β):(Rs.no>>=f)=Rs.no:=rfl
@[simp] theorem ex_bind {α β:Type} (x:XD) (f:α→Rs β):(Rs.ex x>>=f)=Rs.ex x:=rfl
@[simp] theorem pure_ok {α:Type} (a:α):(pure a:Rs α)=Rs.ok a:=rfl
inductive W where
 | im (d:D) | li (f:Bool) (ds:List D)
def IsW (K:PySem.W.Frag)(B H0 H:Hp):W→V→Prop
 | .im d,v=>IsD K B d v
 | .li false ds,v=>∃ a vs,v=.ref a∧Rd H a (.lst vs)∧IsDs K B ds vs
 | .li true ds,v=>∃ a vs,v=.ref a∧H0 a=none∧B a=none∧H a=some (.lst vs)∧IsDs K B ds vs
def qNa (K:PySem.W.Frag)(B H0 H:Hp):List W→List V→Prop
 | [],vs=>vs=[]
 | w::ws,vs=>∃ v r,vs=v::r∧IsW K B H0 H w v∧qNa K B H0 H ws r
def Nw (H:Hp)(a:Addr)(o:HO):Prop:=H a=none∨(H a=some o∧∃ vs,o=.tup vs)
theorem Nw.older {H H':Hp}(s:qA5 H H'){a:Addr}{o:HO}(h:Nw H' a o):Nw H a o:=by
 rcases h with h | ⟨h,t⟩
 ·exact .inl (s.free h)
 ·cases e:H a with
  | none=>exact .inl e
  | some u=>
   have:=s _ _ e
   rw [h] at this;cases this
   exact .inr ⟨e,t⟩
structure Grow (B H B' H':Hp):Prop where
 sb:qA5 B B'
 sh:qA5 H H'
 bh:qA5 B' H'
 nw:∀ a o,B' a=some o→B a=some o∨Nw H a o
section
variable {K:PySem.W.Frag}{B H B' H' B1 H1 B2 H2 H0 H0':Hp}
theorem Grow.refl (h:qA5 B H):Grow B H B H:=⟨qA5.refl _,qA5.refl _,h,fun _ _ e=>.inl e⟩
theorem Grow.trans (g:Grow B H B1 H1)(g':Grow B1 H1 B2 H2):Grow B H B2 H2:=
 ⟨g.sb.trans g'.sb,g.sh.trans g'.sh,g'.bh,fun a o e=>(g'.nw a o e).elim (fun z=>g.nw a o z) fun z=>.inr (z.older g.sh)⟩
theorem Grow.free (g:Grow B H B' H'){a:Addr}(hb:B a=none){o:HO}(hh:H a=some o)(ht:∀ vs,o≠.tup vs:=by intro _ q;cases q):B' a=none:=by
 cases e:B' a with
 | none=>rfl
 | some u=>
  rcases g.nw a u e with z | z
  ·rw [hb] at z;cases z
  ·rcases z with z | ⟨z,vs,t⟩
   ·rw [hh] at z;cases z
   ·rw [hh] at z;cases z;exact absurd t (ht vs)
theorem IsW.grow (g:Grow B H B' H'):∀ {w:W} {v:V},IsW K B H0 H w v→IsW K B' H0 H' w v
 | .im d,v,h=>IsD.mono g.sb d v h
 | .li false ds,v,h=>by
  obtain ⟨a,vs,e1,e2,e3⟩:=h
  exact ⟨a,vs,e1,qA5.rdl g.sh e2,IsDs.mono g.sb ds vs e3⟩
 | .li true ds,v,h=>by
  obtain ⟨a,vs,e1,e2,e3,e4,e5⟩:=h
  exact ⟨a,vs,e1,e2,g.free e3 e4,g.sh _ _ e4,IsDs.mono g.sb ds vs e5⟩
theorem IsW.older (s:qA5 H0 H0'):∀ {w:W} {v:V},IsW K B H0' H w v→IsW K B H0 H w v
 | .im d,v,h=>h
 | .li false ds,v,h=>h
 | .li true ds,v,h=>by
  obtain ⟨a,vs,e1,e2,e3,e4,e5⟩:=h
  exact ⟨a,vs,e1,s.free e2,e3,e4,e5⟩
theorem qNa.grow (g:Grow B H B' H'):∀ {ws:List W} {vs:List V},qNa K B H0 H ws vs→qNa K B' H0 H' ws vs
 | [],vs,h=>h
 | w::ws,vs,h=>by
  obtain ⟨v,r,e1,e2,e3⟩:=h
  exact ⟨v,r,e1,e2.grow g,qNa.grow g e3⟩
theorem qNa.older (s:qA5 H0 H0'):∀ {ws:List W} {vs:List V},qNa K B H0' H ws vs→qNa K B H0 H ws vs
 | [],vs,h=>h
 | w::ws,vs,h=>by
  obtain ⟨v,r,e1,e2,e3⟩:=h
  exact ⟨v,r,e1,e2.older s,qNa.older s e3⟩
theorem qNa.len:∀ {ws:List W} {vs:List V},qNa K B H0 H ws vs→ws.length=vs.length
 | [],vs,h=>by cases #[40];rfl
 | w::ws,vs,h=>by
  obtain ⟨v,r,e1,e2,e3⟩:=h
  subst e1
  rw [List.length_cons,List.length_cons,qNa.len e3]
theorem Grow.new (hs:qA5 B H){p:Addr}{o:HO}(hp:H p=none)(hb:B p=none):Grow B H B (upd H p o):=
 ⟨qA5.refl _,fun b u e=>by rw [qAo (qAm e hp)];exact e,fun b u e=>by rw [qAo (qAm e hb)];exact hs b u e,fun _ _ e=>.inl e⟩
theorem Grow.newB (hs:qA5 B H){p:Addr}{o:HO}(hp:H p=none):Grow B H (upd B p o) (upd H p o):=by
 have hb:B p=none:=hs.free hp
 refine ⟨fun b u e=>by rw [qAo (qAm e hb)];exact e,fun b u e=>by rw [qAo (qAm e hp)];exact e,fun b u e=>?_,fun b u e=>?_⟩
 ·by_cases hbp:b=p
  ·subst hbp;rw [qAu] at e ⊢;exact e
  ·rw [qAo hbp] at e ⊢;exact hs b u e
 ·by_cases hbp:b=p
  ·subst hbp;exact .inr (.inl hp)
  ·rw [qAo hbp] at e;exact .inl e
theorem Grow.freeze (g:Grow B H B' H'){a:Addr}{vs:List V}(h0:H a=none)(hb:B' a=none)(hh:H' a=some (.lst vs)):Grow B H (upd B' a (.lst vs)) H':=by
 refine ⟨fun b u e=>by rw [qAo (qAm (g.sb b u e) hb)];exact g.sb b u e,g.sh,fun b u e=>?_,fun b u e=>?_⟩
 ·by_cases hba:b=a
  ·subst hba;rw [qAu] at e;cases e;exact hh
  ·rw [qAo hba] at e;exact g.bh b u e
 ·by_cases hba:b=a
  ·subst hba;exact .inr (.inl h0)
  ·rw [qAo hba] at e;exact g.nw b u e
end
inductive Sl where
 | un | im (d:D) | rd (ds:List D) | own (ds:List D) | dct (ks:List (Key×D)) | exc (x:Str) | dtt (ks:List (List Key×D))
def qYg (a C:Addr):HO:=.ext fun h=>∃ o vs,h.get? a=some o∧o.cls=.ref C∧o.dict=none∧o.data=.fields vs
abbrev qAj:=List Sl
def KD (K:PySem.W.Frag)(B:Hp)(ks:List (Key×D))(kvs:List (Key×V)):Prop:=kvs.map (·.1)=ks.map (·.1)∧IsDs K B (ks.map (·.2)) (kvs.map (·.2))
theorem KD.mono {K:PySem.W.Frag}{B B':Hp}(e:qA5 B B'){ks:List (Key×D)}{kvs:List (Key×V)}(h:KD K B ks kvs):KD K B' ks kvs:=⟨h.1,IsDs.mono e _ _ h.2⟩
def KDt (K:PySem.W.Frag)(B:Hp)(ks:List (List Key×D))(kvs:List (List Key×V)):Prop:=kvs.map (·.1)=ks.map (·.1)∧IsDs K B (ks.map (·.2)) (kvs.map (·.2))
theorem KDt.mono {K:PySem.W.Frag}{B B':Hp}(e:qA5 B B'){ks:List (List Key×D)}{kvs:List (List Key×V)}(h:KDt K B ks kvs):KDt K B' ks kvs:=⟨h.1,IsDs.mono e _ _ h.2⟩
def qel (K:PySem.W.Frag)(F0 P B H:Hp)(ov:Option (Option V)):Sl→Prop
 | .un=>True
 | .im d=>∃ v,ov=some (some v)∧IsD K B d v
 | .rd ds=>∃ a vs,ov=some #[25]∧Rd F0 a (.lst vs)∧IsDs K B ds vs
 | .own ds=>∃ a vs,ov=some #[25]∧F0 a=none∧P a=none∧B a=none∧H a=some (.lst vs)∧IsDs K B ds vs
 | .dct ks=>∃ a kvs,ov=some #[25]∧F0 a=none∧P a=none∧B a=none∧H a=some (.dK kvs)∧KD K B ks kvs
 | .exc x=>∃ a C,ov=some #[25]∧PySem.W.nsIn K mainGlobals x=some (some (.ref C))∧B a=some (qYg a C)
 | .dtt ks=>∃ a kvs,ov=some #[25]∧F0 a=none∧P a=none∧B a=none∧H a=some (.dT kvs)∧KDt K B ks kvs
def Sl.isOwn:Sl→Bool
 | .own _=>true
 | .dct _=>true
 | .dtt _=>true
 | _=>false
structure R (K:PySem.W.Frag) (B0 F0 P B H:Hp) (σ:L2.St) (δ:qAj):Prop where
 b0:qA5 B0 B
 nw:∀ a o,B a=some o→B0 a=some o∨Nw F0 a o
 fh:qA5 F0 H
 ph:qA5 P H
 bh:qA5 B H
 len:δ.length=σ.length
 sl:∀ (i:Nat) (s:Sl),δ[i]?=some s→qel K F0 P B H σ[i]? s
 ne:∀ (i j:Nat) (s t:Sl) (a:Addr),i≠j→δ[i]?=some s→δ[j]?=some t→s.isOwn=true→t.isOwn=true→σ[i]?=some #[25]→σ[j]?=some #[25]→False
section
variable {K:PySem.W.Frag}{B0 F0 P B H B' H':Hp}{σ:L2.St}{δ:qAj}
theorem qel.grow (g:Grow B H B' H'){ov:Option (Option V)}:∀ {s:Sl},qel K F0 P B H ov s→qel K F0 P B' H' ov s
 | .un,_=>trivial
 | .im d,h=>by
  obtain ⟨v,e1,e2⟩:=h
  exact ⟨v,e1,IsD.mono g.sb d v e2⟩
 | .rd ds,h=>by
  obtain ⟨a,vs,e1,e2,e3⟩:=h
  exact ⟨a,vs,e1,e2,IsDs.mono g.sb ds vs e3⟩
 | .own ds,h=>by
  obtain ⟨a,vs,e1,e2,e3,e4,e5,e6⟩:=h
  exact ⟨a,vs,e1,e2,e3,g.free e4 e5,g.sh _ _ e5,IsDs.mono g.sb ds vs e6⟩
 | .dct ks,h=>by
  obtain ⟨a,kvs,e1,e2,e3,e4,e5,e6⟩:=h
  exact ⟨a,kvs,e1,e2,e3,g.free e4 e5,g.sh _ _ e5,e6.mono g.sb⟩
 | .exc x,h=>by
  obtain ⟨a,C,e1,e2,e3⟩:=h
  exact ⟨a,C,e1,e2,g.sb _ _ e3⟩
 | .dtt ks,h=>by
  obtain ⟨a,kvs,e1,e2,e3,e4,e5,e6⟩:=h
  exact ⟨a,kvs,e1,e2,e3,g.free e4 e5,g.sh _ _ e5,e6.mono g.sb⟩
theorem R.grow (r:R K B0 F0 P B H σ δ)(g:Grow B H B' H'):R K B0 F0 P B' H' σ δ where
 b0:=r.b0.trans g.sb
 nw:=fun a o e=>(g.nw a o e).elim (fun z=>r.nw a o z) fun z=>.inr (z.older r.fh)
 fh:=r.fh.trans g.sh
 ph:=r.ph.trans g.sh
 bh:=g.bh
 len:=r.len
 sl:=fun i s e=>(r.sl i s e).grow g
 ne:=r.ne
theorem R.whole (r:R K B0 F0 P B H σ δ):Grow B0 F0 B H:=⟨r.b0,r.fh,r.bh,r.nw⟩
end
abbrev XW:=XD→Hp→Hp→Prop
def Pst (Ew:XW)(B H:Hp){α:Type}(A:α→Hp→Hp→Prop)(r:Rs α):Prop:=
 match r with
 | .no=>False
 | .ok a=>∀ B' H',Grow B H B' H'→A a B' H'
 | .ex x=>∀ B' H',Grow B H B' H'→Ew x B' H'
abbrev qF6 (K:PySem.W.Frag)(Ew:XW)(B H:Hp)(r:Rs W)(Q:VK):Prop:=Pst Ew B H (fun w B' H'=>∀ v,IsW K B' H H' w v→Q v H') r
abbrev qeo (K:PySem.W.Frag)(Ew:XW)(B H:Hp)(r:Rs D)(Q:VK):Prop:=Pst Ew B H (fun d B' H'=>∀ v,IsD K B' d v→Q v H') r
abbrev qX7 (Ew:XW)(B H:Hp)(r:Rs Bool)(Q:Bool→Hp→Prop):Prop:=Pst Ew B H (fun b _ H'=>Q b H') r
abbrev qX8 (K:PySem.W.Frag)(Ew:XW)(B H:Hp)(r:Rs (List W))(Q:List V→Hp→Prop):Prop:=Pst Ew B H (fun ws B' H'=>∀ vs,qNa K B' H H' ws vs→Q vs H') r
abbrev PostDs (K:PySem.W.Frag)(Ew:XW)(B H:Hp)(r:Rs (List D))(Q:List V→Hp→Prop):Prop:=Pst Ew B H (fun ds B' H'=>∀ vs,IsDs K B' ds vs→Q vs H') r
section
variable {K:PySem.W.Frag}{Ew:XW}{B H B1 H1:Hp}{α β:Type}{A A':α→Hp→Hp→Prop}{C:β→Hp→Hp→Prop}
theorem Pst.step (g:Grow B H B1 H1){r:Rs α}(h:Pst Ew B H A r):Pst Ew B1 H1 A r:=by
 cases r with
 | no=>exact h
 | ok w=>exact fun B' H' g'=>h B' H' (g.trans g')
 | ex x=>exact fun B' H' g'=>h B' H' (g.trans g')
theorem Pst.mono {r:Rs α}(h:Pst Ew B H A r)(f:∀ a B' H',Grow B H B' H'→A a B' H'→A' a B' H'):Pst Ew B H A' r:=by
 cases r with
 | no=>exact h
 | ok w=>exact fun B' H' g'=>f w B' H' g' (h B' H' g')
 | ex x=>exact h
theorem Pst.bind {r:Rs α}{f:α→Rs β}(h:Pst Ew B H C (r>>=f)):Pst Ew B H (fun a B' H'=>Pst Ew B' H' C (f a)) r:=by
 cases r with
 | no=>exact h
 | ok w=>exact fun B' H' g'=>Pst.step g' h
 | ex x=>exact h
theorem Pst.ok {a:α}{f:Grow B H B H}(h:Pst Ew B H A (Rs.ok a)):A a B H:=h B H f
theorem qF6.step (g:Grow B H B1 H1){r:Rs W}{Q:VK}(h:qF6 K Ew B H r Q):qF6 K Ew B1 H1 r Q:=
 (Pst.step g h).mono fun w B' H' _ q v hw=>q v (hw.older g.sh)
theorem qX8.step (g:Grow B H B1 H1){r:Rs (List W)}{Q:List V→Hp→Prop}(h:qX8 K Ew B H r Q):qX8 K Ew B1 H1 r Q:=
 (Pst.step g h).mono fun w B' H' _ q v hw=>q v (hw.older g.sh)
end
def PX (X:Cx)(Ew:XW)(e:Expr)(g:qAj→Rs W):Prop:=
 ∃ te:TE,PE X e te∧∀ (B0 F0 P B H:Hp) (σ:L2.St) (δ:qAj) (Q:VK),R X.K B0 F0 P B H σ δ→qF6 X.K Ew B H (g δ) Q→te σ H Q
def PXd (X:Cx)(Ew:XW)(e:Expr)(g:qAj→Rs D):Prop:=
 ∃ te:TE,PE X e te∧∀ (B0 F0 P B H:Hp) (σ:L2.St) (δ:qAj) (Q:VK),R X.K B0 F0 P B H σ δ→qeo X.K Ew B H (g δ) Q→te σ H Q
def PXt (X:Cx)(Ew:XW)(e:Expr)(g:qAj→Rs Bool):Prop:=
 ∃ tt:TT,PT X e tt∧∀ (B0 F0 P B H:Hp) (σ:L2.St) (δ:qAj) (Q:Bool→Hp→Prop),R X.K B0 F0 P B H σ δ→qX7 Ew B H (g δ) Q→tt σ H Q
def PXa (X:Cx)(Ew:XW)(es:List Expr)(g:qAj→Rs (List W)):Prop:=
 ∃ ta:TA,PA X es ta∧∀ (B0 F0 P B H:Hp) (σ:L2.St) (δ:qAj) (Q:List V→Hp→Prop),R X.K B0 F0 P B H σ δ→qX8 X.K Ew B H (g δ) Q→ta σ H Q
def PXs (X:Cx)(Ew:XW)(es:List Expr)(g:qAj→Rs (List D)):Prop:=
 ∃ ta:TA,PA X es ta∧∀ (B0 F0 P B H:Hp) (σ:L2.St) (δ:qAj) (Q:List V→Hp→Prop),R X.K B0 F0 P B H σ δ→PostDs X.K Ew B H (g δ) Q→ta σ H Q
def W.toD:W→Rs D
 | .im d=>.ok d
 | .li true ds=>.ok (.lst ds)
 | .li false _=>.no
section
variable {X:Cx}{Ew:XW}{e:Expr}{es:List Expr}{pos:Pos}
theorem PX.d {g:qAj→Rs W}(h:PX X Ew e g):PXd X Ew e (fun δ=>g δ>>=W.toD):=by
 obtain ⟨te,h1,h2⟩:=h
 refine ⟨te,h1,fun B0 F0 P B H σ δ Q r p=>h2 B0 F0 P B H σ δ Q r ?_⟩
 have p':qeo X.K Ew B H (g δ>>=W.toD) Q:=p
 cases e:g δ with
 | no=>rw [e] at p';exact p'
 | ex x=>rw [e] at p';exact p'
 | ok w=>
  rw [e] at p'
  cases w with
  | im d=>exact p'
  | li f ds=>
   cases f with
   | false=>exact False.elim p'
   | true=>
    rintro B' H' g' v ⟨a,vs,e1,e2,e3,e4,e5⟩
    subst e1
    have sm:qA5 B' (upd B' a (.lst vs)):=fun b u q=>by rw [qAo (qAm q e3)];exact q
    exact p' (upd B' a (.lst vs)) H' (g'.freeze e2 e3 e4) _ ⟨a,vs,rfl,SqL.of qAu,IsDs.mono sm ds vs e5⟩
theorem PXd.w {g:qAj→Rs D}(h:PXd X Ew e g):PX X Ew e (fun δ=>g δ>>=fun d=>Rs.ok (W.im d)):=by
 obtain ⟨te,h1,h2⟩:=h
 exact ⟨te,h1,fun B0 F0 P B H σ δ Q r p=>h2 B0 F0 P B H σ δ Q r ((Pst.bind p).mono fun d B' H' g' q v hd=>q B' H' (Grow.refl g'.bh) v hd)⟩
theorem qAh:PXa X Ew [] (fun _=>.ok []):=⟨tNil,qCx,fun B0 F0 P B H σ δ Q r p=>p B H (Grow.refl r.bh) [] rfl⟩
theorem qAa {g:qAj→Rs W}{k:qAj→Rs (List W)}(h:PX X Ew e g)(hr:PXa X Ew es k)(hs:starEach (e::es) X.env=#[22]::starEach es X.env:=by rfl) :
  PXa X Ew (e::es) (fun δ=>g δ>>=fun w=>k δ>>=fun ws=>Rs.ok (w::ws)):=by
 obtain ⟨te,h1,h2⟩:=h
 obtain ⟨ta,k1,k2⟩:=hr
 refine ⟨_,qBx h1 k1 hs,fun B0 F0 P B H σ δ Q r p=>h2 B0 F0 P B H σ δ _ r ((Pst.bind p).mono fun w B1 H1 g1 q v hw=>?_)⟩
 refine k2 B0 F0 P B1 H1 σ δ _ (r.grow g1) ((Pst.bind q).mono fun ws B2 H2 g2 q2 vs hws=>?_)
 exact q2 B2 H2 (Grow.refl g2.bh) (v::vs) ⟨v,vs,rfl,hw.grow g2,hws.older g1.sh⟩
theorem qAr:PXs X Ew [] (fun _=>.ok []):=⟨tNil,qCx,fun B0 F0 P B H σ δ Q r p=>p B H (Grow.refl r.bh) [] rfl⟩
theorem qAe {g:qAj→Rs D}{k:qAj→Rs (List D)}(h:PXd X Ew e g)(hr:PXs X Ew es k)(hs:starEach (e::es) X.env=#[22]::starEach es X.env:=by rfl) :
  PXs X Ew (e::es) (fun δ=>g δ>>=fun w=>k δ>>=fun ws=>Rs.ok (w::ws)):=by
 obtain ⟨te,h1,h2⟩:=h
 obtain ⟨ta,k1,k2⟩:=hr
 refine ⟨_,qBx h1 k1 hs,fun B0 F0 P B H σ δ Q r p=>h2 B0 F0 P B H σ δ _ r ((Pst.bind p).mono fun w B1 H1 g1 q v hw=>?_)⟩
 refine k2 B0 F0 P B1 H1 σ δ _ (r.grow g1) ((Pst.bind q).mono fun ws B2 H2 g2 q2 vs hws=>?_)
 exact q2 B2 H2 (Grow.refl g2.bh) (v::vs) ⟨v,vs,rfl,IsD.mono g2.sb _ _ hw,hws⟩
def cst (d:D):qAj→Rs D:=fun _=>.ok d
theorem qAf {i:Int}{j:Nat}:PXd X Ew (.Constant (.int i) j pos) (cst (.int i)):=⟨_,pe_int,fun B0 F0 P B H σ δ Q r p=>p B H (Grow.refl r.bh) _ rfl⟩
theorem qFs {b:Bool}{j:Nat}:PXd X Ew (.Constant (.bool b) j pos) (cst (.bl b)):=⟨_,qc7,fun B0 F0 P B H σ δ Q r p=>p B H (Grow.refl r.bh) _ rfl⟩
theorem qB2 {j:Nat}:PXd X Ew (.Constant .none j pos) (cst .non):=⟨_,pe_non,fun B0 F0 P B H σ δ Q r p=>p B H (Grow.refl r.bh) _ rfl⟩
theorem qBi {x:Str}{j:Nat}:PXd X Ew (.Constant (.str x) j pos) (cst (.str x)):=⟨_,qbe,fun B0 F0 P B H σ δ Q r p=>p B H (Grow.refl r.bh) _ rfl⟩
def var (i:Nat):qAj→Rs W:=fun δ=>match δ[i]? with
 | some (.im d)=>.ok (.im d)
 | some (.rd ds)=>.ok (.li false ds)
 | some (.own ds)=>.ok (.li false ds)
 | _=>.no
theorem qAb (i:Nat){x:Str}(hN:X.N[i]?=some x:=by rfl)(hv:Vis X.env.scope x:=by first | exact Or.inl rfl | exact Or.inr (Or.inl rfl) | exact Or.inr (Or.inr rfl))(hd:#[17]=false:=by decide)
  (hcd:#[33]=false:=by decide):PX X Ew (.Name x pos) (var i):=by
 refine ⟨_,qCb hN hv hd hcd,fun B0 F0 P B H σ δ Q r p=>?_⟩
 unfold var at p
 cases e:δ[i]? with
 | none=>rw [e] at p;exact p.elim
 | some s=>
  rw [e] at p
  have hs:=r.sl i s e
  cases s with
  | un=>exact p.elim
  | im d=>
   obtain ⟨v,e1,e2⟩:=hs
   exact ⟨v,e1,p B H (Grow.refl r.bh) v e2⟩
  | rd ds=>
   obtain ⟨a,vs,e1,e2,e3⟩:=hs
   exact ⟨_,e1,p B H (Grow.refl r.bh) _ ⟨a,vs,rfl,qA5.rdl r.fh e2,e3⟩⟩
  | own ds=>
   obtain ⟨a,vs,e1,e2,e3,e4,e5,e6⟩:=hs
   exact ⟨_,e1,p B H (Grow.refl r.bh) _ ⟨a,vs,rfl,Rd.of e5,e6⟩⟩
  | dct ks=>exact p.elim
  | exc x=>exact p.elim
  | dtt ks=>exact p.elim
def lim:Nat:=16777216
theorem qDv:sizeLine=lim:=sizeLine_eq
def qBy (ds:List D):Rs D:=if ds.length≤lim then .ok (.tup ds) else .no
def qBt (ds:List D):Rs W:=if ds.length≤lim then .ok (.li true ds) else .no
theorem qBr {x1}{k:qAj→Rs (List D)}(h:PXs X Ew es k):PXd X Ew (.Tuple es x1 pos) (fun δ=>k δ>>=qBy):=by
 obtain ⟨ta,k1,k2⟩:=h
 refine ⟨_,pe_tup k1,fun B0 F0 P B H σ δ Q r p=>k2 B0 F0 P B H σ δ _ r ((Pst.bind p).mono fun ds B1 H1 g1 p' vs hds=>?_)⟩
 unfold qBy at p'
 by_cases hl:ds.length≤lim
 ·rw [if_pos hl] at p'
  refine ⟨by rw [←hds.len,qDv];exact hl,fun q hq=>?_⟩
  refine p' (upd B1 q (.tup vs)) _ (Grow.newB g1.bh hq) (.ref q) ⟨q,vs,rfl,qAu,IsDs.mono (fun b u z=>?_) _ _ hds⟩
  rw [qAo (qAm z (g1.bh.free hq))];exact z
 ·rw [if_neg hl] at p'
  exact p'.elim
theorem qBq {k:qAj→Rs (List D)}(h:PXs X Ew es k):PX X Ew (.List es pos) (fun δ=>k δ>>=qBt):=by
 obtain ⟨ta,k1,k2⟩:=h
 refine ⟨_,pe_lst k1,fun B0 F0 P B H σ δ Q r p=>k2 B0 F0 P B H σ δ _ r ((Pst.bind p).mono fun ds B1 H1 g1 p' vs hds=>?_)⟩
 unfold qBt at p'
 by_cases hl:ds.length≤lim
 ·rw [if_pos hl] at p'
  refine ⟨by rw [←hds.len,qDv];exact hl,fun q hq=>?_⟩
  exact p' B1 _ (Grow.new g1.bh hq (g1.bh.free hq)) (.ref q) ⟨q,vs,rfl,g1.sh.free hq,g1.bh.free hq,qAu,hds⟩
 ·rw [if_neg hl] at p'
  exact p'.elim
end
open PySem PySem.Spec PyProof.Rows L2
mutual
def eqD:D→D→Bool
 | .non,.non=>true
 | .bl a,.bl b=>a == b
 | .bl a,.int b=>(if a then 1 else 0) == b
 | .int a,.bl b=>a == (if b then 1 else 0)
 | .int a,.int b=>a == b
 | .str a,.str b=>a == b
 | .tup xs,.tup ys=>eqDs xs ys
 | .lst xs,.lst ys=>eqDs xs ys
 | _,_=>false
def eqDs:List D→List D→Bool
 | [],[]=>true
 | x::xs,y::ys=>eqD x y && eqDs xs ys
 | _,_=>false
end
mutual
def qA3:Nat→D→Bool
 | _,.fn _=>false
 | _,.clo _ _ _=>false
 | 0,.tup _=>false
 | 0,.lst _=>false
 | n + 1,.tup xs=>fineDs n xs
 | n + 1,.lst xs=>fineDs n xs
 | _,_=>true
def fineDs:Nat→List D→Bool
 | _,[]=>true
 | n,x::xs=>qA3 n x && fineDs n xs
end
mutual
theorem qIu:∀ (n:Nat) (d:D),qA3 n d=true→eqD d d=true
 | n,.non,_=>by simp [eqD]
 | n,.bl b,_=>by simp [eqD]
 | n,.int i,_=>by simp [eqD]
 | n,.str x,_=>by simp [eqD]
 | n,.fn a,h=>by cases n <;> simp [qA3] at h
 | n,.clo _ _ _,h=>by cases n <;> simp [qA3] at h
 | 0,.tup xs,h=>by simp [qA3] at h
 | 0,.lst xs,h=>by simp [qA3] at h
 | n + 1,.tup xs,h=>by simp only [eqD];exact eqDs_refl n xs (by simpa [qA3] using h)
 | n + 1,.lst xs,h=>by simp only [eqD];exact eqDs_refl n xs (by simpa [qA3] using h)
theorem eqDs_refl:∀ (n:Nat) (ds:List D),fineDs n ds=true→eqDs ds ds=true
 | n,[],_=>by simp [eqDs]
 | n,d::ds,h=>by
  simp only [fineDs,Bool.and_eq_true] at h
  simp only [eqDs,Bool.and_eq_true]
  exact ⟨qIu n d h.1,eqDs_refl n ds h.2⟩
end
theorem qM0:∀ (xs ys:List D),xs.length=ys.length→eqDs xs ys=(List.range xs.length).all fun j=>eqD (xs.getD j .non) (ys.getD j .non)
 | [],[],_=>by simp [eqDs]
 | x::xs,y::ys,h=>by
  have h':xs.length=ys.length:=by simpa using h
  rw [eqDs,qM0 xs ys h',List.length_cons,List.range_succ_eq_map,List.all_cons,List.all_map]
  rfl
 | [],_::_,h=>by simp at h
 | _::_,[],h=>by simp at h
theorem qMz:∀ (xs ys:List D),xs.length≠ys.length→eqDs xs ys=false
 | [],[],h=>absurd rfl h
 | x::xs,y::ys,h=>by
  have h':xs.length≠ys.length:=fun e=>h (by simp [e])
  rw [eqDs,qMz xs ys h',Bool.and_false]
 | [],_::_,h=>by simp [eqDs]
 | _::_,[],h=>by simp [eqDs]
section
variable {X:Cx}{pins:List (Addr×Obj)}{σ:L2.St}{B H:Hp}{s:Shared}
theorem qR0 (I:Inv X pins σ H s){a:Addr}{xs ys:List V}(h:SqL X.K H a xs)(h':SqT X.K H a ys):False:=by
 obtain ⟨its,r,⟨o,n,e,c,_,d⟩,_⟩:=I.list h
 obtain ⟨its',r',⟨o',e',c',_⟩,_⟩:=I.tuple h'
 rw [e] at e';cases e'
 rw [c] at c'
 exact absurd c' #[4]
mutual
theorem IsD.inj (I:Inv X pins σ H s)(hs:qA5 B H):∀ (n:Nat) (d d':D) (v:V),qA3 n d=true→qA3 n d'=true→IsD X.K B d v→IsD X.K B d' v→d=d'
 | n,.non,d',v,f,f',h,h'=>by
  cases (show v=.non from h)
  cases d' <;> first | rfl | (simp [IsD] at h')
 | n,.bl b,d',v,f,f',h,h'=>by
  cases (show v=.bl b from h)
  cases d' <;> simp [IsD] at h' <;> simp [h']
 | n,.int b,d',v,f,f',h,h'=>by
  cases (show v=.int b from h)
  cases d' <;> simp [IsD] at h' <;> simp [h']
 | n,.str b,d',v,f,f',h,h'=>by
  cases (show v=.str b from h)
  cases d' <;> simp [IsD] at h' <;> simp [h']
 | n,.fn a,d',v,f,f',h,h'=>by cases n <;> simp [qA3] at f
 | n,.clo _ _ _,d',v,f,f',h,h'=>by cases n <;> simp [qA3] at f
 | 0,.tup xs,d',v,f,f',h,h'=>by simp [qA3] at f
 | 0,.lst xs,d',v,f,f',h,h'=>by simp [qA3] at f
 | n + 1,.tup xs,d',v,f,f',h,h'=>by
  obtain ⟨a,vs,rfl,e2,e3⟩:=h
  cases d' with
  | tup ys=>
   obtain ⟨a',vs',e1',e2',e3'⟩:=h'
   cases e1'
   have:=I.tuple_inj (qA5.tp hs e2) (qA5.tp hs e2')
   subst this
   rw [IsDs.inj I hs n xs ys vs (by simpa [qA3] using f) (by simpa [qA3] using f') e3 e3']
  | lst ys=>
   obtain ⟨a',vs',e1',e2',e3'⟩:=h'
   cases e1'
   exact (qR0 I (hs.seq e2') (qA5.tp hs e2)).elim
  | fn a=>simp [qA3] at f'
  | clo _ _ _=>simp [qA3] at f'
  | _=>simp [IsD] at h'
 | n + 1,.lst xs,d',v,f,f',h,h'=>by
  obtain ⟨a,vs,rfl,e2,e3⟩:=h
  cases d' with
  | lst ys=>
   obtain ⟨a',vs',e1',e2',e3'⟩:=h'
   cases e1'
   have:=I.list_inj (hs.seq e2) (hs.seq e2')
   subst this
   rw [IsDs.inj I hs n xs ys vs (by simpa [qA3] using f) (by simpa [qA3] using f') e3 e3']
  | tup ys=>
   obtain ⟨a',vs',e1',e2',e3'⟩:=h'
   cases e1'
   exact (qR0 I (hs.seq e2) (qA5.tp hs e2')).elim
  | fn a=>simp [qA3] at f'
  | clo _ _ _=>simp [qA3] at f'
  | _=>simp [IsD] at h'
theorem IsDs.inj (I:Inv X pins σ H s)(hs:qA5 B H):∀ (n:Nat) (ds ds':List D) (vs:List V),fineDs n ds=true→fineDs n ds'=true→IsDs X.K B ds vs→IsDs X.K B ds' vs→ds=ds'
 | n,[],ds',vs,f,f',h,h'=>by
  cases #[40]
  cases ds' with
  | nil=>rfl
  | cons d r=>obtain ⟨v,r,e,_⟩:=h';cases e
 | n,d::ds,ds',vs,f,f',h,h'=>by
  obtain ⟨v,r,rfl,e2,e3⟩:=h
  cases ds' with
  | nil=>cases (show v::r=[] from h')
  | cons d' r'=>
   obtain ⟨v',r2,e,q2,q3⟩:=h'
   cases e
   simp only [fineDs,Bool.and_eq_true] at f f'
   rw [IsD.inj I hs n d d' v f.1 f'.1 e2 q2,IsDs.inj I hs n ds r' r f.2 f'.2 e3 q3]
end
theorem qEd {α:Type}{l:List α}{i:Nat}{d x:α}(h:l[i]?=some x):l.getD i d=x:=by
 rw [List.getD_eq_getElem?_getD,h];rfl
theorem qaa {A:Around}{xs ys:List D}{vs us:List V}{its its2:List Value}(rv:qBu vs its)(ru:qBu us its2)(hx:IsDs X.K B xs vs)(hy:IsDs X.K B ys us)
  (ih:∀ (i:Nat) d v u t d' ,xs[i]?=some d→IsD X.K B d v→RelV v u→IsD X.K B d' t→∀ u',RelV t u'→ys[i]?=some d'→SeqAt.EqAt A s u u' (eqD d d')) :
  ∀ j (h1:j < its.toArray.size) (h2:j < its2.toArray.size),SeqAt.EqAt A s its.toArray[j] its2.toArray[j] (eqD (xs.getD j .non) (ys.getD j .non)):=by
 intro j h1 h2
 have l1:=rv.length
 have l2:=ru.length
 have l3:=hx.len
 have l4:=hy.len
 simp only [List.size_toArray] at h1 h2
 have j1:j < xs.length:=by omega
 have j2:j < ys.length:=by omega
 obtain ⟨v,ev,iv⟩:=hx.get (List.getElem?_eq_getElem j1)
 obtain ⟨t,et,it⟩:=hy.get (List.getElem?_eq_getElem j2)
 obtain ⟨u,eu,ru1⟩:=rv.get ev
 obtain ⟨u',eu',ru2⟩:=ru.get et
 have e1:its.toArray[j]=u:=by
  have:=List.getElem?_eq_getElem h1
  rw [eu] at this
  simpa using (Option.some.inj this).symm
 have e2:its2.toArray[j]=u':=by
  have:=List.getElem?_eq_getElem h2
  rw [eu'] at this
  simpa using (Option.some.inj this).symm
 rw [e1,e2,qEd (List.getElem?_eq_getElem j1),qEd (List.getElem?_eq_getElem j2)]
 exact ih j _ v u t _ (List.getElem?_eq_getElem j1) iv ru1 it u' ru2 (List.getElem?_eq_getElem j2)
theorem qG1:∀ {n:Nat} {ds:List D} {i:Nat} {d:D},fineDs n ds=true→ds[i]?=some d→qA3 n d=true
 | n,[],i,d,h,e=>by simp at e
 | n,x::xs,0,d,h,e=>by
  simp only [fineDs,Bool.and_eq_true] at h
  simp at e
  subst e
  exact h.1
 | n,x::xs,i + 1,d,h,e=>by
  simp only [fineDs,Bool.and_eq_true] at h
  exact qG1 (i:=i) h.2 (by simpa using e)
def RcD (A:Around)(s:Shared)(u u':Value)(b:Bool):Prop:=SeqAt.RcAt A s u u' b∧SeqAt.RcNeAt A s u u' (!b)
inductive Sh (s:Shared):D→Value→Prop where
 | non:Sh s .non .none
 | bl (b:Bool):Sh s (.bl b) (.bool b)
 | int (i:Int) (t:Tok):Sh s (.int i) (.int i t)
 | str (x:Str) (t:Tok):Sh s (.str x) (.str x t)
 | tup {xs:List D} {l:Addr} {items:Array Value} (h:s.heap.IsTuple l items):Sh s (.tup xs) (.ref l)
 | lst {xs:List D} {l:Addr} {items:Array Value} (h:s.heap.IsList l items):Sh s (.lst xs) (.ref l)
theorem qS5 (I:Inv X pins σ H s)(hs:qA5 B H){n:Nat}{d:D}{v:V}{u:Value}(f:qA3 n d=true)(h:IsD X.K B d v)(r:RelV v u):Sh s d u:=by
 cases d with
 | fn a=>cases n <;> simp [qA3] at f
 | clo _ _ _=>cases n <;> simp [qA3] at f
 | non=>cases (show v=.non from h);cases (show u=Value.none from r);exact .non
 | bl b=>cases (show v=.bl b from h);cases (show u=Value.bool b from r);exact .bl b
 | int i=>cases (show v=.int i from h);obtain ⟨t,rfl⟩:=(show ∃ t,u=Value.int i t from r);exact .int i t
 | str x=>cases (show v=.str x from h);obtain ⟨t,rfl⟩:=(show ∃ t,u=Value.str x t from r);exact .str x t
 | tup xs=>
  obtain ⟨a,vs,rfl,e2,e3⟩:=h
  cases (show u=Value.ref a from r)
  obtain ⟨its,_,p,_⟩:=I.tuple (qA5.tp hs e2)
  exact .tup p
 | lst xs=>
  obtain ⟨a,vs,rfl,e2,e3⟩:=h
  cases (show u=Value.ref a from r)
  obtain ⟨its,_,p,_⟩:=I.list (hs.seq e2)
  exact .lst p.isList
theorem qSq (I:Inv X pins σ H s)(hs:qA5 B H){n:Nat}{A:Around}{d d':D}{v v':V}{u u':Value}(f:qA3 n d=true)(f':qA3 n d'=true)(h:IsD X.K B d v)(h':IsD X.K B d' v')(r:RelV v u)(r':RelV v' u')
  (hu:A.units < cLine) (q:RcD A s u u' (eqD d d')):SeqAt.EqAt A s u u' (eqD d d'):=by
 have refs:∀ l b,u=.ref l→u'=.ref b→SeqAt.EqAt A s u u' (eqD d d'):=fun l b e1 e2=>by
  subst e1 e2
  by_cases z:l=b
  ·subst z
   have e1:v=.ref l:=by
    cases v with
    | ref a=>cases (show Value.ref l=Value.ref a from r);rfl
    | non=>cases (show Value.ref l=Value.none from r)
    | bl b=>cases (show Value.ref l=Value.bool b from r)
    | ty b=>cases (show Value.ref l=Value.type b from r)
    | int b=>obtain ⟨t,z⟩:=(show ∃ t,Value.ref l=Value.int b t from r);cases z
    | str b=>obtain ⟨t,z⟩:=(show ∃ t,Value.ref l=Value.str b t from r);cases z
    | byt b=>obtain ⟨t,z⟩:=(show ∃ t,Value.ref l=Value.bytes b t from r);cases z
    | flt b=>obtain ⟨t,z⟩:=(show ∃ t,Value.ref l=Value.float b t from r);cases z
   have e2:v'=.ref l:=by
    cases v' with
    | ref a=>cases (show Value.ref l=Value.ref a from r');rfl
    | non=>cases (show Value.ref l=Value.none from r')
    | bl b=>cases (show Value.ref l=Value.bool b from r')
    | ty b=>cases (show Value.ref l=Value.type b from r')
    | int b=>obtain ⟨t,z⟩:=(show ∃ t,Value.ref l=Value.int b t from r');cases z
    | str b=>obtain ⟨t,z⟩:=(show ∃ t,Value.ref l=Value.str b t from r');cases z
    | byt b=>obtain ⟨t,z⟩:=(show ∃ t,Value.ref l=Value.bytes b t from r');cases z
    | flt b=>obtain ⟨t,z⟩:=(show ∃ t,Value.ref l=Value.float b t from r');cases z
   subst e1 e2
   have:=IsD.inj I hs n d d' _ f f' h h'
   subst this
   rw [qIu n d f]
   exact .same _
  ·exact .of_refs z q.1
 have s1:=qS5 I hs f h r
 have s2:=qS5 I hs f' h' r'
 clear h h' r r' f f'
 have hu':=hu
 cases s1 with
 | non=>
  cases s2 with
  | non=>simp only [eqD];exact .same _
  | bl b2=>simp only [eqD];exact SeqAt.EqAt.none_bool b2
  | int i2 t2=>simp only [eqD];exact SeqAt.EqAt.none_int i2 t2
  | str i2 t2=>simp only [eqD];exact SeqAt.EqAt.none_str i2 t2
  | tup h2=>simp only [eqD];exact SeqAt.EqAt.none_tuple h2 hu'
  | lst h2=>simp only [eqD];exact SeqAt.EqAt.none_list h2 hu'
 | bl b1=>
  cases s2 with
  | non=>simp only [eqD];exact SeqAt.EqAt.bool_none b1
  | bl b2=>simp only [eqD];exact SeqAt.EqAt.bool_bool b1 b2
  | int i2 t2=>simp only [eqD];exact SeqAt.EqAt.bool_int b1 i2 t2
  | str i2 t2=>simp only [eqD];exact SeqAt.EqAt.bool_str b1 i2 t2
  | tup h2=>simp only [eqD];exact SeqAt.EqAt.bool_tuple b1 h2 hu'
  | lst h2=>simp only [eqD];exact SeqAt.EqAt.bool_list b1 h2 hu'
 | int i1 t1=>
  cases s2 with
  | non=>simp only [eqD];exact SeqAt.EqAt.int_none i1 t1
  | bl b2=>simp only [eqD];exact SeqAt.EqAt.int_bool i1 t1 b2
  | int i2 t2=>simp only [eqD];exact SeqAt.EqAt.int_int i1 t1 i2 t2
  | str i2 t2=>simp only [eqD];exact SeqAt.EqAt.int_str i1 t1 i2 t2
  | tup h2=>simp only [eqD];exact SeqAt.EqAt.int_tuple i1 t1 h2 hu'
  | lst h2=>simp only [eqD];exact SeqAt.EqAt.int_list i1 t1 h2 hu'
 | str i1 t1=>
  cases s2 with
  | non=>simp only [eqD];exact SeqAt.EqAt.str_none i1 t1
  | bl b2=>simp only [eqD];exact SeqAt.EqAt.str_bool i1 t1 b2
  | int i2 t2=>simp only [eqD];exact SeqAt.EqAt.str_int i1 t1 i2 t2
  | str i2 t2=>simp only [eqD];exact SeqAt.EqAt.str_str i1 t1 i2 t2
  | tup h2=>simp only [eqD];exact SeqAt.EqAt.str_tuple i1 t1 h2 hu'
  | lst h2=>simp only [eqD];exact SeqAt.EqAt.str_list i1 t1 h2 hu'
 | tup h1=>
  cases s2 with
  | non=>simp only [eqD];exact SeqAt.EqAt.tuple_none h1 hu'
  | bl b2=>simp only [eqD];exact SeqAt.EqAt.tuple_bool b2 h1 hu'
  | int i2 t2=>simp only [eqD];exact SeqAt.EqAt.tuple_int i2 t2 h1 hu'
  | str i2 t2=>simp only [eqD];exact SeqAt.EqAt.tuple_str i2 t2 h1 hu'
  | tup h2=>exact refs _ _ rfl rfl
  | lst h2=>exact refs _ _ rfl rfl
 | lst h1=>
  cases s2 with
  | non=>simp only [eqD];exact SeqAt.EqAt.list_none h1 hu'
  | bl b2=>simp only [eqD];exact SeqAt.EqAt.list_bool b2 h1 hu'
  | int i2 t2=>simp only [eqD];exact SeqAt.EqAt.list_int i2 t2 h1 hu'
  | str i2 t2=>simp only [eqD];exact SeqAt.EqAt.list_str i2 t2 h1 hu'
  | tup h2=>exact refs _ _ rfl rfl
  | lst h2=>exact refs _ _ rfl rfl
theorem qch (I:Inv X pins σ H s)(hs:qA5 B H):∀ (n:Nat) (A:Around) (d d':D) (v v':V) (u u':Value),A.units + n < cLine→qA3 n d=true→qA3 n d'=true→IsD X.K B d v→IsD X.K B d' v'→RelV v u→RelV v' u'→RcD A s u u' (eqD d d'):=by
 intro n
 induction n with
 | zero=>
  intro A d d' v v' u u' hu f f' h h' r r'
  have hu':A.units < cLine:=hu
  have s1:=qS5 I hs f h r
  have s2:=qS5 I hs f' h' r'
  cases s1 with
  | non=>
   cases s2 with
   | non=>simp only [eqD];exact ⟨SeqAt.RcAt.none_none,SeqAt.RcNeAt.none_none⟩
   | bl b2=>simp only [eqD];exact ⟨SeqAt.RcAt.none_bool b2,SeqAt.RcNeAt.none_bool b2⟩
   | int i2 t2=>simp only [eqD];exact ⟨SeqAt.RcAt.none_int i2 t2,SeqAt.RcNeAt.none_int i2 t2⟩
   | str i2 t2=>simp only [eqD];exact ⟨SeqAt.RcAt.none_str i2 t2,SeqAt.RcNeAt.none_str i2 t2⟩
   | tup h2=>simp [qA3] at f'
   | lst h2=>simp [qA3] at f'
  | bl b1=>
   cases s2 with
   | non=>simp only [eqD];exact ⟨SeqAt.RcAt.bool_none b1,SeqAt.RcNeAt.bool_none b1⟩
   | bl b2=>simp only [eqD];exact ⟨SeqAt.RcAt.bool_bool b1 b2,SeqAt.RcNeAt.bool_bool b1 b2⟩
   | int i2 t2=>simp only [eqD];exact ⟨SeqAt.RcAt.bool_int b1 i2 t2,SeqAt.RcNeAt.bool_int b1 i2 t2⟩
   | str i2 t2=>simp only [eqD];exact ⟨SeqAt.RcAt.bool_str b1 i2 t2,SeqAt.RcNeAt.bool_str b1 i2 t2⟩
   | tup h2=>simp [qA3] at f'
   | lst h2=>simp [qA3] at f'
  | int i1 t1=>
   cases s2 with
   | non=>simp only [eqD];exact ⟨SeqAt.RcAt.int_none i1 t1,SeqAt.RcNeAt.int_none i1 t1⟩
   | bl b2=>simp only [eqD];exact ⟨SeqAt.RcAt.int_bool i1 t1 b2,SeqAt.RcNeAt.int_bool i1 t1 b2⟩
   | int i2 t2=>simp only [eqD];exact ⟨SeqAt.RcAt.int_int i1 t1 i2 t2,SeqAt.RcNeAt.int_int i1 t1 i2 t2⟩
   | str i2 t2=>simp only [eqD];exact ⟨SeqAt.RcAt.int_str i1 t1 i2 t2,SeqAt.RcNeAt.int_str i1 t1 i2 t2⟩
   | tup h2=>simp [qA3] at f'
   | lst h2=>simp [qA3] at f'
  | str i1 t1=>
   cases s2 with
   | non=>simp only [eqD];exact ⟨SeqAt.RcAt.str_none i1 t1,SeqAt.RcNeAt.str_none i1 t1⟩
   | bl b2=>simp only [eqD];exact ⟨SeqAt.RcAt.str_bool i1 t1 b2,SeqAt.RcNeAt.str_bool i1 t1 b2⟩
   | int i2 t2=>simp only [eqD];exact ⟨SeqAt.RcAt.str_int i1 t1 i2 t2,SeqAt.RcNeAt.str_int i1 t1 i2 t2⟩
   | str i2 t2=>simp only [eqD];exact ⟨SeqAt.RcAt.str_str i1 t1 i2 t2,SeqAt.RcNeAt.str_str i1 t1 i2 t2⟩
   | tup h2=>simp [qA3] at f'
   | lst h2=>simp [qA3] at f'
  | tup h1=>
   simp [qA3] at f
  | lst h1=>
   simp [qA3] at f
 | succ n ih=>
  intro A d d' v v' u u' hu f f' h h' r r'
  have hu':A.units < cLine:=by omega
  have hin:A.in1.units + n < cLine:=by
   show A.units + 1 + n < cLine
   omega
  have hin':A.in1.units < cLine:=by omega
  have elt:∀ (xs ys:List D) (vs us:List V) (its its2:List Value),fineDs n xs=true→fineDs n ys=true→IsDs X.K B xs vs→IsDs X.K B ys us→qBu vs its→qBu us its2→
    ∀ j (h1:j < its.toArray.size) (h2:j < its2.toArray.size),SeqAt.EqAt A.in1 s its.toArray[j] its2.toArray[j] (eqD (xs.getD j .non) (ys.getD j .non)):=fun xs ys vs us its its2 fx fy hx hy rv ru=>
   qaa rv ru hx hy fun i d v u t d' e1 e2 e3 e4 u' e5 e6=>qSq I hs (qG1 fx e1) (qG1 fy e6) e2 e4 e3 e5 hin' (ih A.in1 d d' v t u u' hin (qG1 fx e1) (qG1 fy e6) e2 e4 e3 e5)
  have s1:=qS5 I hs f h r
  have s2:=qS5 I hs f' h' r'
  have both:(∃ xs,d=.tup xs)→(∃ ys,d'=.tup ys)→RcD A s u u' (eqD d d'):=by
   rintro ⟨xs,rfl⟩ ⟨ys,rfl⟩
   obtain ⟨a,vs,rfl,e2,e3⟩:=h
   obtain ⟨b,us,rfl,e2',e3'⟩:=h'
   cases (show u=Value.ref a from r)
   cases (show u'=Value.ref b from r')
   obtain ⟨its,rv,p,_⟩:=I.tuple (qA5.tp hs e2)
   obtain ⟨its2,ru,p2,_⟩:=I.tuple (qA5.tp hs e2')
   have el:=elt xs ys vs us its its2 (by simpa [qA3] using f) (by simpa [qA3] using f') e3 e3' rv ru
   have l1:=rv.length;have l2:=ru.length;have l3:=e3.len;have l4:=e3'.len
   have ev:((List.range (min its.toArray.size its2.toArray.size)).all (fun j=>eqD (xs.getD j .non) (ys.getD j .non)) && its.toArray.size == its2.toArray.size)=eqD (.tup xs) (.tup ys):=by
    show _=eqDs xs ys
    simp only [List.size_toArray]
    by_cases hl:xs.length=ys.length
    ·rw [qM0 xs ys hl]
     have q1:its.length=xs.length:=by omega
     have q2:its2.length=xs.length:=by omega
     rw [q1,q2,Nat.min_self]
     simp
    ·rw [qMz xs ys hl]
     have:(its.length == its2.length)=false:=by
      rw [beq_eq_false_iff_ne];omega
     rw [this,Bool.and_false]
   rw [←ev]
   exact ⟨.tuples p p2 hu' el,.tuples p p2 hu' el⟩
  have bothL:(∃ xs,d=.lst xs)→(∃ ys,d'=.lst ys)→RcD A s u u' (eqD d d'):=by
   rintro ⟨xs,rfl⟩ ⟨ys,rfl⟩
   obtain ⟨a,vs,rfl,e2,e3⟩:=h
   obtain ⟨b,us,rfl,e2',e3'⟩:=h'
   cases (show u=Value.ref a from r)
   cases (show u'=Value.ref b from r')
   obtain ⟨its,rv,p,_⟩:=I.list (hs.seq e2)
   obtain ⟨its2,ru,p2,_⟩:=I.list (hs.seq e2')
   have el:=elt xs ys vs us its its2 (by simpa [qA3] using f) (by simpa [qA3] using f') e3 e3' rv ru
   have l1:=rv.length;have l2:=ru.length;have l3:=e3.len;have l4:=e3'.len
   by_cases hl:xs.length=ys.length
   ·have ev:(List.range its.toArray.size).all (fun j=>eqD (xs.getD j .non) (ys.getD j .non))=eqD (.lst xs) (.lst ys):=by
     show _=eqDs xs ys
     rw [qM0 xs ys hl]
     simp only [List.size_toArray]
     rw [show its.length=xs.length by omega]
    rw [←ev]
    exact ⟨.lists p.isList p2.isList (by simp only [List.size_toArray];omega) hu' el,.lists p.isList p2.isList (by simp only [List.size_toArray];omega) hu' el⟩
   ·have ev:eqD (.lst xs) (.lst ys)=false:=qMz xs ys hl
    rw [ev]
    have hne:(its.toArray.size != its2.toArray.size)=true:=by
     simp only [List.size_toArray,bne_iff_ne];omega
    exact ⟨.lists_lengths p.isList p2.isList hne hu',.lists_lengths p.isList p2.isList hne hu'⟩
  clear elt ih
  cases s1 with
  | non=>
   cases s2 with
   | non=>simp only [eqD];exact ⟨SeqAt.RcAt.none_none,SeqAt.RcNeAt.none_none⟩
   | bl b2=>simp only [eqD];exact ⟨SeqAt.RcAt.none_bool b2,SeqAt.RcNeAt.none_bool b2⟩
   | int i2 t2=>simp only [eqD];exact ⟨SeqAt.RcAt.none_int i2 t2,SeqAt.RcNeAt.none_int i2 t2⟩
   | str i2 t2=>simp only [eqD];exact ⟨SeqAt.RcAt.none_str i2 t2,SeqAt.RcNeAt.none_str i2 t2⟩
   | tup h2=>simp only [eqD];exact ⟨SeqAt.RcAt.none_tuple h2 hu',SeqAt.RcNeAt.none_tuple h2 hu'⟩
   | lst h2=>simp only [eqD];exact ⟨SeqAt.RcAt.none_list h2 hu',SeqAt.RcNeAt.none_list h2 hu'⟩
  | bl b1=>
   cases s2 with
   | non=>simp only [eqD];exact ⟨SeqAt.RcAt.bool_none b1,SeqAt.RcNeAt.bool_none b1⟩
   | bl b2=>simp only [eqD];exact ⟨SeqAt.RcAt.bool_bool b1 b2,SeqAt.RcNeAt.bool_bool b1 b2⟩
   | int i2 t2=>simp only [eqD];exact ⟨SeqAt.RcAt.bool_int b1 i2 t2,SeqAt.RcNeAt.bool_int b1 i2 t2⟩
   | str i2 t2=>simp only [eqD];exact ⟨SeqAt.RcAt.bool_str b1 i2 t2,SeqAt.RcNeAt.bool_str b1 i2 t2⟩
   | tup h2=>simp only [eqD];exact ⟨SeqAt.RcAt.bool_tuple b1 h2 hu',SeqAt.RcNeAt.bool_tuple b1 h2 hu'⟩
   | lst h2=>simp only [eqD];exact ⟨SeqAt.RcAt.bool_list b1 h2 hu',SeqAt.RcNeAt.bool_list b1 h2 hu'⟩
  | int i1 t1=>
   cases s2 with
   | non=>simp only [eqD];exact ⟨SeqAt.RcAt.int_none i1 t1,SeqAt.RcNeAt.int_none i1 t1⟩
   | bl b2=>simp only [eqD];exact ⟨SeqAt.RcAt.int_bool i1 t1 b2,SeqAt.RcNeAt.int_bool i1 t1 b2⟩
   | int i2 t2=>simp only [eqD];exact ⟨SeqAt.RcAt.int_int i1 t1 i2 t2,SeqAt.RcNeAt.int_int i1 t1 i2 t2⟩
   | str i2 t2=>simp only [eqD];exact ⟨SeqAt.RcAt.int_str i1 t1 i2 t2,SeqAt.RcNeAt.int_str i1 t1 i2 t2⟩
   | tup h2=>simp only [eqD];exact ⟨SeqAt.RcAt.int_tuple i1 t1 h2 hu',SeqAt.RcNeAt.int_tuple i1 t1 h2 hu'⟩
   | lst h2=>simp only [eqD];exact ⟨SeqAt.RcAt.int_list i1 t1 h2 hu',SeqAt.RcNeAt.int_list i1 t1 h2 hu'⟩
  | str i1 t1=>
   cases s2 with
   | non=>simp only [eqD];exact ⟨SeqAt.RcAt.str_none i1 t1,SeqAt.RcNeAt.str_none i1 t1⟩
   | bl b2=>simp only [eqD];exact ⟨SeqAt.RcAt.str_bool i1 t1 b2,SeqAt.RcNeAt.str_bool i1 t1 b2⟩
   | int i2 t2=>simp only [eqD];exact ⟨SeqAt.RcAt.str_int i1 t1 i2 t2,SeqAt.RcNeAt.str_int i1 t1 i2 t2⟩
   | str i2 t2=>simp only [eqD];exact ⟨SeqAt.RcAt.str_str i1 t1 i2 t2,SeqAt.RcNeAt.str_str i1 t1 i2 t2⟩
   | tup h2=>simp only [eqD];exact ⟨SeqAt.RcAt.str_tuple i1 t1 h2 hu',SeqAt.RcNeAt.str_tuple i1 t1 h2 hu'⟩
   | lst h2=>simp only [eqD];exact ⟨SeqAt.RcAt.str_list i1 t1 h2 hu',SeqAt.RcNeAt.str_list i1 t1 h2 hu'⟩
  | tup h1=>
   cases s2 with
   | non=>simp only [eqD];exact ⟨SeqAt.RcAt.tuple_none h1 hu',SeqAt.RcNeAt.tuple_none h1 hu'⟩
   | bl b2=>simp only [eqD];exact ⟨SeqAt.RcAt.tuple_bool b2 h1 hu',SeqAt.RcNeAt.tuple_bool b2 h1 hu'⟩
   | int i2 t2=>simp only [eqD];exact ⟨SeqAt.RcAt.tuple_int i2 t2 h1 hu',SeqAt.RcNeAt.tuple_int i2 t2 h1 hu'⟩
   | str i2 t2=>simp only [eqD];exact ⟨SeqAt.RcAt.tuple_str i2 t2 h1 hu',SeqAt.RcNeAt.tuple_str i2 t2 h1 hu'⟩
   | tup h2=>exact both ⟨_,rfl⟩ ⟨_,rfl⟩
   | lst h2=>simp only [eqD];exact ⟨SeqAt.RcAt.tuple_list h1 h2 hu',SeqAt.RcNeAt.tuple_list h1 h2 hu'⟩
  | lst h1=>
   cases s2 with
   | non=>simp only [eqD];exact ⟨SeqAt.RcAt.list_none h1 hu',SeqAt.RcNeAt.list_none h1 hu'⟩
   | bl b2=>simp only [eqD];exact ⟨SeqAt.RcAt.list_bool b2 h1 hu',SeqAt.RcNeAt.list_bool b2 h1 hu'⟩
   | int i2 t2=>simp only [eqD];exact ⟨SeqAt.RcAt.list_int i2 t2 h1 hu',SeqAt.RcNeAt.list_int i2 t2 h1 hu'⟩
   | str i2 t2=>simp only [eqD];exact ⟨SeqAt.RcAt.list_str i2 t2 h1 hu',SeqAt.RcNeAt.list_str i2 t2 h1 hu'⟩
   | tup h2=>simp only [eqD];exact ⟨SeqAt.RcAt.list_tuple h1 h2 hu',SeqAt.RcNeAt.list_tuple h1 h2 hu'⟩
   | lst h2=>exact bothL ⟨_,rfl⟩ ⟨_,rfl⟩
theorem eq_at (I:Inv X pins σ H s)(hs:qA5 B H){n:Nat}{A:Around}{d d':D}{v v':V}{u u':Value}(hu:A.units + n < cLine)(f:qA3 n d=true)(f':qA3 n d'=true)(h:IsD X.K B d v)(h':IsD X.K B d' v')(r:RelV v u)(r':RelV v' u') :
  SeqAt.EqAt A s u u' (eqD d d'):=qSq I hs f f' h h' r r' #[0] (qch I hs n A d d' v v' u u' hu f f' h h' r r')
end
open PySem PySem.Spec PyProof.Rows L2
def Rdw (K:PySem.W.Frag)(B H:Hp):W→V→Prop
 | .im d,v=>IsD K B d v
 | .li _ ds,v=>∃ a vs,v=.ref a∧Rd H a (.lst vs)∧IsDs K B ds vs
def qPy (K:PySem.W.Frag)(B H:Hp):List W→List V→Prop
 | [],vs=>vs=[]
 | w::ws,vs=>∃ v r,vs=v::r∧Rdw K B H w v∧qPy K B H ws r
section
variable {K:PySem.W.Frag}{B H H0:Hp}
theorem IsW.rd:∀ {w:W} {v:V},IsW K B H0 H w v→Rdw K B H w v
 | .im d,v,h=>h
 | .li false ds,v,h=>h
 | .li true ds,v,h=>by
  obtain ⟨a,vs,e1,e2,e3,e4,e5⟩:=h
  exact ⟨a,vs,e1,Rd.of e4,e5⟩
theorem qNa.rd:∀ {ws:List W} {vs:List V},qNa K B H0 H ws vs→qPy K B H ws vs
 | [],vs,h=>h
 | w::ws,vs,h=>by
  obtain ⟨v,r,e1,e2,e3⟩:=h
  exact ⟨v,r,e1,e2.rd,qNa.rd e3⟩
def W.seq:W→Option (List D)
 | .li _ ds=>some ds
 | .im (.lst ds)=>some ds
 | _=>none
theorem Rdw.seq (hs:qA5 B H){w:W}{v:V}{ds:List D}(h:Rdw K B H w v)(e:w.seq=some ds):∃ a vs,v=.ref a∧SqL K H a vs∧IsDs K B ds vs:=by
 cases w with
 | li f es=>
  cases e
  obtain ⟨a,vs,e1,e2,e3⟩:=h
  exact ⟨a,vs,e1,.inl e2,e3⟩
 | im d=>
  cases d with
  | lst es=>
   cases e
   obtain ⟨a,vs,e1,e2,e3⟩:=h
   exact ⟨a,vs,e1,hs.seq e2,e3⟩
  | _=>cases e
end
def rW (K:PySem.W.Frag)(Ew:XW)(fn:W→W→Rs W):R2:=fun x y H Q=>∃ B w1 w2,qA5 B H∧Rdw K B H w1 x∧Rdw K B H w2 y∧qF6 K Ew B H (fn w1 w2) Q
section
variable {X:Cx}{Ew:XW}{a b:Expr}{pos:Pos}{ga gb:qAj→Rs W}
def qAn (fn:W→W→Rs W)(ga gb:qAj→Rs W):qAj→Rs W:=fun δ=>ga δ>>=fun w1=>gb δ>>=fun w2=>fn w1 w2
theorem two {r:R2}{fn:W→W→Rs W}(hr:r=rW X.K Ew fn)(ha:PX X Ew a ga)(hb:PX X Ew b gb):∃ ta tb,PE X a ta∧PE X b tb∧
  ∀ (B0 F0 P B H:Hp) (σ:L2.St) (δ:qAj) (Q:VK),R X.K B0 F0 P B H σ δ→qF6 X.K Ew B H (qAn fn ga gb δ) Q→tOp r ta tb σ H Q:=by
 obtain ⟨ta,a1,a2⟩:=ha
 obtain ⟨tb,b1,b2⟩:=hb
 subst hr
 refine ⟨ta,tb,a1,b1,fun B0 F0 P B H σ δ Q r p=>a2 B0 F0 P B H σ δ _ r ((Pst.bind p).mono fun w1 B1 H1 g1 p1 v1 h1=>?_)⟩
 refine b2 B0 F0 P B1 H1 σ δ _ (r.grow g1) ((Pst.bind p1).mono fun w2 B2 H2 g2 p2 v2 h2=>?_)
 exact ⟨B2,w1,w2,g2.bh,(h1.grow g2).rd,h2.rd,Pst.mono p2 fun w B' H' _ q v hw=>q v (hw.older (g1.trans g2).sh)⟩
theorem qBk {op:Operator}{fn:W→W→Rs W}(ho:OpR X (binaryOp op) (rW X.K Ew fn))(ha:PX X Ew a ga)(hb:PX X Ew b gb):PX X Ew (.BinOp a op b pos) (qAn fn ga gb):=by
 obtain ⟨ta,tb,h1,h2,h3⟩:=two rfl ha hb
 exact ⟨_,pe_op ho h1 h2,h3⟩
theorem qCw {op:CmpOp}{fn:W→W→Rs W}(ho:OpR X (compareOp op) (rW X.K Ew fn))(ha:PX X Ew a ga)(hb:PX X Ew b gb)(hm:behindInMarks op b=false):PX X Ew (.Compare a [op] [b] pos) (qAn fn ga gb):=by
 obtain ⟨ta,tb,h1,h2,h3⟩:=two rfl ha hb
 exact ⟨_,qc6 ho h1 h2 hm,h3⟩
def W.bool:W→Rs Bool
 | .im (.bl b)=>.ok b
 | _=>.no
theorem qF6.bool {K:PySem.W.Frag}{B H:Hp}{r:Rs W}{Q:Bool→Hp→Prop}(p:qX7 Ew B H (r>>=W.bool) Q):qF6 K Ew B H r (fun x H'=>∃ k,x=.bl k∧Q k H'):=by
 refine (Pst.bind p).mono fun w B1 H1 g1 p1 v hw=>?_
 cases w with
 | im d=>
  cases d with
  | bl b=>exact ⟨b,hw,p1 B1 H1 #[32]⟩
  | _=>exact False.elim p1
 | li f ds=>exact False.elim p1
theorem qAz {op:CmpOp}{fn:W→W→Rs W}(ho:OpR X (compareOp op) (rW X.K Ew fn))(ha:PX X Ew a ga)(hb:PX X Ew b gb)(hm:behindInMarks op b=false) :
  PXt X Ew (.Compare a [op] [b] pos) (fun δ=>qAn fn ga gb δ>>=W.bool):=by
 obtain ⟨ta,tb,h1,h2,h3⟩:=two (Ew:=Ew) rfl ha hb
 exact ⟨_,qcv ho h1 h2 hm,fun B0 F0 P B H σ δ Q r p=>h3 B0 F0 P B H σ δ _ r (qF6.bool p)⟩
def qCp:W→W→Rs W
 | .im (.int i),.im (.int j)=>.ok (.im (.int (i + j)))
 | .im (.str x),.im (.str y)=>if x.length + y.length≤lim then .ok (.im (.str (x++y))) else .no
 | .im (.tup xs),.im (.tup ys)=>if xs.length + ys.length≤lim then .ok (.im (.tup (xs++ys))) else .no
 | .li _ xs,.li _ ys=>if xs.length + ys.length≤lim then .ok (.li true (xs++ys)) else .no
 | _,_=>.no
theorem lstR {pins:List #[8]}{σ:L2.St}{H:Hp}{s:Shared}{l:Addr}{xs:List V}(I:Inv X pins σ H s)(h:Rd H l (.lst xs)) :
  xs.length≤sizeLine∧∃ (its:List Value) (n:Nat),qBu xs its∧xs.length=its.length∧s.heap.get? l=some { cls:=.type "list",data:=.seq its.toArray n }:=by
 obtain ⟨z,its,n,r,e⟩:=h.ok I.hok
 exact ⟨z,its,n,r,r.length,e⟩
theorem qaw {prog:Program}{w:World}{A:Around}{E:Value→Shared→Prop}{s:Shared}{t b:Addr}{vs ws:List Value}{Q:Value→Shared→Prop}(ht:IsTup s.heap t vs.toArray)(hb:IsTup s.heap b ws.toArray)(hv:vs=[])(h1:Q (.ref b) s) :
  wpAny #[18] A (binaryOp .Add (.ref t) (.ref b)) Q E s:=by
 obtain ⟨⟨cls,dd,data,sl⟩,ho,hc,n,hd⟩:=id ht
 obtain ⟨⟨cls2,dd2,data2,sl2⟩,ho2,hc2,n2,hd2⟩:=id hb
 simp only at hc hd hc2 hd2
 subst hc hd hc2 hd2
 exact concat_meets ⟨_,ho,rfl⟩ ⟨_,ho2,rfl⟩ noFill_tuple_add seq_tuple_add PySem.F.slot_tuple_add PySem.F.entry_tuple_add (PySem.F.args_tuple_add_2 _ _)
   (tuple_addW0 t b vs.toArray ws.toArray n n2 dd dd2 sl sl2 (by simp [hv])) ⟨ho,ho2,h1⟩
theorem qA1:OpR X (binaryOp .Add) (rW X.K Ew qCp):=by
 intro pins s σ H x y v u Q I rx ry ⟨B,w1,w2,hs,h1,h2,p⟩
 unfold qCp at p
 split at p
 ·exact op_add pins s σ H x y v u Q I rx ry ⟨_,_,h1,h2,p B H #[24] _ rfl⟩
 ·rename_i i j
  by_cases hl:i.length + j.length≤lim
  ·rw [if_pos hl] at p
   exact qTo pins s σ H x y v u Q I rx ry ⟨i,j,h1,h2,by rw [qDv];exact hl,p B H #[24] _ rfl⟩
  ·rw [if_neg hl] at p
   exact p.elim
 ·rename_i xs ys
  split at p
  ·rename_i hl
   obtain ⟨a,vs,rfl,e2,e3⟩:=h1
   obtain ⟨b,us,rfl,e2',e3'⟩:=h2
   have l1:=e3.len;have l2:=e3'.len
   by_cases hne:vs=[]
   ·subst hne
    have hx:xs=[]:=by cases xs with | nil=>rfl | cons _ _=>simp at l1
    subst hx
    cases rx
    cases ry
    obtain ⟨its,r1,p1,_⟩:=I.tuple (qA5.tp hs e2)
    obtain ⟨its2,r2,p2,_⟩:=I.tuple (qA5.tp hs e2')
    exact qaw p1 p2 (r1.nil_iff.mpr rfl) ⟨.ref b,H,I,rfl,p B H #[24] _ ⟨b,us,rfl,e2',e3'⟩⟩
   refine qc9 pins s σ H _ _ v u Q I rx ry ⟨a,b,vs,us,rfl,rfl,qA5.tp hs e2,qA5.tp hs e2',hne,by rw [qDv];omega,fun e=>?_,fun e q hq=>?_⟩
   ·subst e
    have:ys=[]:=by cases ys with | nil=>rfl | cons _ _=>simp at l2
    subst this
    exact p B H #[24] _ ⟨a,vs,rfl,e2,by rw [List.append_nil];exact e3⟩
   ·have sm:qA5 B (upd B q (.tup (vs++us))):=fun b u z=>by rw [qAo (qAm z (hs.free hq))];exact z
    exact p _ _ (Grow.newB hs hq) _ ⟨q,vs++us,rfl,qAu,IsDs.mono sm _ _ (e3.app e3')⟩
  ·exact p.elim
 ·rename_i f1 xs f2 ys
  split at p
  ·rename_i hl
   obtain ⟨a,vs,rfl,e2,e3⟩:=h1
   obtain ⟨b,us,rfl,e2',e3'⟩:=h2
   have l1:=e3.len;have l2:=e3'.len
   cases rx
   cases ry
   obtain ⟨z,its,n,r,hl1,e⟩:=lstR I e2
   obtain ⟨z2,its2,n2,r2,hl2,e'⟩:=lstR I e2'
   have hlim:sizeLine=lim:=qDv
   refine PySem.P.add_list e e' ?_ (by rw [List.size_toArray,List.size_toArray];omega)
   have ea:its.toArray++its2.toArray=(its++its2).toArray:=by simp
   rw [ea]
   refine ⟨.ref _,_,I.lnew (t':=s.toks) (r.append r2) (by rw [List.length_append];omega),rfl,?_⟩
   exact p B _ (Grow.new hs I.fresh (hs.free I.fresh)) _ ⟨_,vs++us,rfl,I.fresh,hs.free I.fresh,qAu,e3.app e3'⟩
  ·exact p.elim
 ·exact p.elim
def qa7:W→W→Rs W
 | .im (.int i),.im (.int j)=>.ok (.im (.int (i - j)))
 | _,_=>.no
theorem qMm:OpR X (binaryOp .Sub) (rW X.K Ew qa7):=by
 intro pins s σ H x y v u Q I rx ry ⟨B,w1,w2,hs,h1,h2,p⟩
 unfold qa7 at p
 split at p
 ·exact op_sub pins s σ H x y v u Q I rx ry ⟨_,_,h1,h2,p B H #[24] _ rfl⟩
 ·exact p.elim
theorem IsDs.rep {K:PySem.W.Frag}{B:Hp}{ds:List D}{vs:List V}(h:IsDs K B ds vs):∀ n,IsDs K B (List.replicate n ds).flatten (List.replicate n vs).flatten
 | 0=>rfl
 | n + 1=>by rw [List.replicate_succ,List.replicate_succ,List.flatten_cons,List.flatten_cons];exact h.app (IsDs.rep h n)
theorem qL1 {vs:List V}{us:List Value}(h:qBu vs us):∀ n,qBu (List.replicate n vs).flatten (List.replicate n us).flatten
 | 0=>.nil
 | n + 1=>by rw [List.replicate_succ,List.replicate_succ,List.flatten_cons,List.flatten_cons];exact h.append (qL1 h n)
theorem qVd {α:Type}(n:Nat)(xs:List α):(List.replicate n xs).flatten.length=n * xs.length:=by simp
def qR2:W→W→Rs W
 | .im (.int i),.im (.int j)=>if (-(2 ^ 64) < i∧i < 2 ^ 64)∨(-(2 ^ 64) < j∧j < 2 ^ 64) then .ok (.im (.int (i * j))) else .no
 | .im (.tup xs),.im (.int j)=>if 2≤j∧j < 1000∧xs.isEmpty=false∧xs.length < 1000 then .ok (.im (.tup (List.replicate j.toNat xs).flatten)) else .no
 | .li _ xs,.im (.int j)=>if 2≤j∧j < 1000∧xs.isEmpty=false∧xs.length < 1000 then .ok (.li true (List.replicate j.toNat xs).flatten) else .no
 | _,_=>.no
theorem qDx:OpR X (binaryOp .Mult) (rW X.K Ew qR2):=by
 intro pins s σ H x y v u Q I rx ry ⟨B,w1,w2,hs,h1,h2,p⟩
 unfold qR2 at p
 have hlim:sizeLine=lim:=qDv
 split at p
 ·split at p
  ·rename_i hc
   exact op_mul pins s σ H x y v u Q I rx ry ⟨_,_,h1,h2,hc,p B H #[24] _ rfl⟩
  ·exact p.elim
 ·rename_i xs j
  split at p
  ·rename_i hc
   obtain ⟨c1,c2,c3,c4⟩:=hc
   obtain ⟨a,vs,rfl,e2,e3⟩:=h1
   cases (show y=.int j from h2)
   cases rx
   obtain ⟨t,rfl⟩:=(show ∃ t,u=Value.int j t from ry)
   obtain ⟨its,r,pt,hz⟩:=I.tuple (qA5.tp hs e2)
   have l1:=e3.len;have l2:=r.length
   have hm:j.toNat * vs.length≤1000 * 1000:=Nat.mul_le_mul #[0] #[0]
   have hq:((List.replicate j.toNat vs).flatten).length≤sizeLine:=by rw [qVd,hlim];show _≤16777216;omega
   refine qTr pt c1 c2 ?_ #[0] ?_
   ·intro z
    rw [z,List.length_nil] at l2
    cases xs with
    | nil=>cases c3
    | cons _ _=>rw [List.length_cons] at l1;omega
   have hf:=I.fresh
   have sm:qA5 B (upd B s.heap.objs.size (.tup (List.replicate j.toNat vs).flatten)):=fun b u z=>by rw [qAo (qAm z (hs.free hf))];exact z
   exact ⟨.ref s.heap.objs.size,_,I.laid (t':=s.toks) (o:=.tup (List.replicate j.toNat vs).flatten) (fun b ob q=>Heap.get?_push_of_some _ q) #[10] ⟨hq,_,qL1 r _,IsTup.new _ _⟩,rfl,p _ _ (Grow.newB hs hf) _ ⟨_,_,rfl,qAu,IsDs.mono sm _ _ (e3.rep _)⟩⟩
  ·exact p.elim
 ·rename_i f xs j
  split at p
  ·rename_i hc
   obtain ⟨c1,c2,c3,c4⟩:=hc
   obtain ⟨a,vs,rfl,e2,e3⟩:=h1
   cases (show y=.int j from h2)
   cases rx
   obtain ⟨t,rfl⟩:=(show ∃ t,u=Value.int j t from ry)
   obtain ⟨z,its,n,r,hl1,e⟩:=lstR I e2
   have l1:=e3.len;have l2:=r.length
   have hm:j.toNat * vs.length≤1000 * 1000:=Nat.mul_le_mul #[0] #[0]
   have hq:((List.replicate j.toNat vs).flatten).length≤sizeLine:=by rw [qVd,hlim];show _≤16777216;omega
   refine qWa e c1 c2 ?_ #[0] ?_
   ·intro z
    rw [z,List.length_nil] at l2
    cases xs with
    | nil=>cases c3
    | cons _ _=>rw [List.length_cons] at l1;omega
   exact ⟨.ref _,_,I.lnew (t':=s.toks) (qL1 r _) hq,rfl,p B _ (Grow.new hs I.fresh (hs.free I.fresh)) _ ⟨_,_,rfl,I.fresh,hs.free I.fresh,qAu,e3.rep _⟩⟩
  ·exact p.elim
 ·exact p.elim
def qde:W→W→Rs W
 | .im (.int i),.im (.int j)=>if 0 < j then .ok (.im (.int (i % j))) else .no
 | _,_=>.no
theorem qMn:OpR X (binaryOp .Mod) (rW X.K Ew qde):=by
 intro pins s σ H x y v u Q I rx ry ⟨B,w1,w2,hs,h1,h2,p⟩
 unfold qde at p
 split at p
 ·split at p
  ·rename_i hc
   exact op_mod pins s σ H x y v u Q I rx ry ⟨_,_,h1,h2,hc,p B H #[24] _ rfl⟩
  ·exact p.elim
 ·exact p.elim
def ltW:W→W→Rs W
 | .im (.int i),.im (.int j)=>.ok (.im (.bl (decide (i < j))))
 | _,_=>.no
def leW:W→W→Rs W
 | .im (.int i),.im (.int j)=>.ok (.im (.bl (decide (i≤j))))
 | _,_=>.no
def gtW:W→W→Rs W
 | .im (.int i),.im (.int j)=>.ok (.im (.bl (decide (j < i))))
 | _,_=>.no
def geW:W→W→Rs W
 | .im (.int i),.im (.int j)=>.ok (.im (.bl (decide (j≤i))))
 | _,_=>.no
theorem qK9:OpR X (compareOp .Lt) (rW X.K Ew ltW):=by
 intro pins s σ H x y v u Q I rx ry ⟨B,w1,w2,hs,h1,h2,p⟩
 unfold ltW at p
 split at p
 ·exact op_lt pins s σ H x y v u Q I rx ry ⟨_,_,h1,h2,p B H #[24] _ rfl⟩
 ·exact p.elim
theorem qLa:OpR X (compareOp .LtE) (rW X.K Ew leW):=by
 intro pins s σ H x y v u Q I rx ry ⟨B,w1,w2,hs,h1,h2,p⟩
 unfold leW at p
 split at p
 ·exact op_le pins s σ H x y v u Q I rx ry ⟨_,_,h1,h2,p B H #[24] _ rfl⟩
 ·exact p.elim
theorem qOg:OpR X (compareOp .Gt) (rW X.K Ew gtW):=by
 intro pins s σ H x y v u Q I rx ry ⟨B,w1,w2,hs,h1,h2,p⟩
 unfold gtW at p
 split at p
 ·exact op_gt pins s σ H x y v u Q I rx ry ⟨_,_,h1,h2,p B H #[24] _ rfl⟩
 ·exact p.elim
def isW:W→W→Rs W
 | .im .non,.im .non=>.ok (.im (.bl true))
 | _,.im .non=>.ok (.im (.bl false))
 | _,_=>.no
def qDj:W→W→Rs W
 | .im .non,.im .non=>.ok (.im (.bl false))
 | _,.im .non=>.ok (.im (.bl true))
 | _,_=>.no
theorem Rdw.nn {K:PySem.W.Frag}{B H:Hp}{w:W}(h:Rdw K B H w .non):w=.im .non:=by
 cases w with
 | li f ds=>obtain ⟨a,vs,e,_⟩:=h;cases e
 | im d=>
  cases d with
  | non=>rfl
  | tup _=>obtain ⟨a,vs,e,_⟩:=h;cases e
  | lst _=>obtain ⟨a,vs,e,_⟩:=h;cases e
  | clo _ _ _=>obtain ⟨e,_⟩:=h;cases e
  | _=>cases h
theorem qJm:OpR X (compareOp .Is) (rW X.K Ew isW):=by
 intro pins s σ H x y v u Q I rx ry ⟨B,w1,w2,hs,h1,h2,p⟩
 unfold isW at p
 split at p
 ·cases (show x=.non from h1)
  exact qbf pins s σ H _ _ v u Q I rx ry ⟨h2,by simpa using p B H #[24] _ rfl⟩
 ·rename_i hne
  have hx:x≠.non:=fun e=>by subst e;exact hne h1.nn
  refine qbf pins s σ H _ _ v u Q I rx ry ⟨h2,?_⟩
  rw [decide_eq_false hx]
  exact p B H #[24] _ rfl
 ·exact p.elim
theorem qC5:OpR X (compareOp .IsNot) (rW X.K Ew qDj):=by
 intro pins s σ H x y v u Q I rx ry ⟨B,w1,w2,hs,h1,h2,p⟩
 unfold qDj at p
 split at p
 ·cases (show x=.non from h1)
  exact qV4 pins s σ H _ _ v u Q I rx ry ⟨h2,by simpa using p B H #[24] _ rfl⟩
 ·rename_i hne
  have hx:x≠.non:=fun e=>by subst e;exact hne h1.nn
  refine qV4 pins s σ H _ _ v u Q I rx ry ⟨h2,?_⟩
  rw [decide_eq_false hx]
  exact p B H #[24] _ rfl
 ·exact p.elim
end
open PySem PySem.Spec PyProof.Rows L2
section
variable {X:Cx}{Ew:XW}{a b:Expr}{pos:Pos}{ga gb:qAj→Rs W}
def W.dat:W→D
 | .im d=>d
 | .li _ ds=>.lst ds
theorem Rdw.dat {K:PySem.W.Frag}{B H:Hp}(hs:qA5 B H){w:W}{v:V}(h:Rdw K B H w v):IsD K H w.dat v:=by
 cases w with
 | im d=>exact IsD.mono hs d v h
 | li f ds=>
  obtain ⟨a,vs,e1,e2,e3⟩:=h
  exact ⟨a,vs,e1,.inl e2,IsDs.mono hs ds vs e3⟩
def eqW (w1 w2:W):Rs W:=if qA3 50 w1.dat=true∧qA3 50 w2.dat=true then .ok (.im (.bl (eqD w1.dat w2.dat))) else .no
def neW (w1 w2:W):Rs W:=if qA3 50 w1.dat=true∧qA3 50 w2.dat=true then .ok (.im (.bl (!eqD w1.dat w2.dat))) else .no
theorem qCa (hu:X.A.units + 50 < cLine):OpR X (compareOp .Eq) (rW X.K Ew eqW):=by
 intro pins s σ H x y v u Q I rx ry ⟨B,w1,w2,hs,h1,h2,p⟩
 unfold eqW at p
 split at p
 ·rename_i hc
  exact (qch I (qA5.refl H) 50 X.A w1.dat w2.dat x y v u hu hc.1 hc.2 (h1.dat hs) (h2.dat hs) rx ry).1 X.prog X.w X.xe _ ⟨.bl _,H,I,rfl,p B H #[24] _ rfl⟩
 ·exact p.elim
theorem qK8 (hu:X.A.units + 50 < cLine):OpR X (compareOp .NotEq) (rW X.K Ew neW):=by
 intro pins s σ H x y v u Q I rx ry ⟨B,w1,w2,hs,h1,h2,p⟩
 unfold neW at p
 split at p
 ·rename_i hc
  exact (qch I (qA5.refl H) 50 X.A w1.dat w2.dat x y v u hu hc.1 hc.2 (h1.dat hs) (h2.dat hs) rx ry).2 X.prog X.w X.xe _ ⟨.bl _,H,I,rfl,p B H #[24] _ rfl⟩
 ·exact p.elim
def qIv (K:PySem.W.Frag)(H:Hp)(d:D)(u:Value):Bool:=
 open Classical in if h:∃ d' v,qA3 50 d'=true∧IsD K H d' v∧RelV v u then eqD h.choose d else false
theorem qQ7 {pins:List #[8]}{σ:L2.St}{H:Hp}{s:Shared}(I:Inv X pins σ H s){d d':D}{v:V}{u:Value}(f:qA3 50 d'=true)(h:IsD X.K H d' v)(r:RelV v u):qIv X.K H d u=eqD d' d:=by
 have ex:∃ d' v,qA3 50 d'=true∧IsD X.K H d' v∧RelV v u:=⟨d',v,f,h,r⟩
 unfold qIv
 rw [dif_pos ex]
 obtain ⟨v',f',h',r'⟩:=ex.choose_spec
 have ev:v'=v:=RelV.inj r' r
 subst ev
 rw [IsD.inj I (qA5.refl H) 50 _ d' _ f' f h' h]
def qM9 (d:D)(ds:List D):Bool:=ds.any fun d'=>eqD d' d
theorem qKd {pins:List #[8]}{σ:L2.St}{H:Hp}{s:Shared}(I:Inv X pins σ H s){d:D}:∀ {ds:List D} {vs:List V} {us:List Value},IsDs X.K H ds vs→qBu vs us→fineDs 50 ds=true→us.any (qIv X.K H d)=qM9 d ds
 | [],vs,us,h,r,f=>by cases #[40];cases r;rfl
 | d'::ds,vs,us,h,r,f=>by
  obtain ⟨v,rr,rfl,e2,e3⟩:=h
  cases r with
  | cons r1 r2=>
   simp only [fineDs,Bool.and_eq_true] at f
   have ih:=qKd I (d:=d) e3 r2 f.2
   unfold qM9 at ih ⊢
   rw [List.any_cons,List.any_cons,qQ7 I f.1 e2 r1,ih]
theorem qHm {pins:List #[8]}{σ:L2.St}{H:Hp}{s:Shared}(I:Inv X pins σ H s){A:Around}(hu:A.units + 50 < cLine){d:D}{x:V}{v:Value}(f:qA3 50 d=true)(hx:IsD X.K H d x)(rx:RelV x v) :
  ∀ {ds:List D} {vs:List V} {us:List Value},IsDs X.K H ds vs→qBu vs us→fineDs 50 ds=true→∀ u∈us,SeqAt.EqAt A s u v (qIv X.K H d u)
 | [],vs,us,h,r,_=>fun u hm=>by cases #[40];cases r;cases hm
 | d'::ds,vs,us,h,r,fs=>fun u hm=>by
  obtain ⟨w,rr,rfl,e2,e3⟩:=h
  cases r with
  | cons r1 r2=>
   simp only [fineDs,Bool.and_eq_true] at fs
   rcases List.mem_cons.mp hm with rfl | hm
   ·rw [qQ7 I fs.1 e2 r1]
    exact eq_at I (qA5.refl H) hu fs.1 f e2 hx r1 rx
   ·exact qHm I hu f hx rx e3 r2 fs.2 u hm
def qdp (x y:Str):Bool:=!(Builtin.Str.occurrences y x 0 y.length 1).isEmpty
def W.items:W→Option (Bool×List D)
 | .li _ ds=>some (true,ds)
 | .im (.lst ds)=>some (true,ds)
 | .im (.tup ds)=>some (false,ds)
 | _=>none
theorem Rdw.items {K:PySem.W.Frag}{B H:Hp}(hs:qA5 B H){w:W}{v:V}{ds:List D}{k:Bool}(h:Rdw K B H w v)(e:w.items=some (k,ds)) :
  ∃ a vs,v=.ref a∧(if k=true then SqL K H a vs else SqT K H a vs)∧IsDs K B ds vs:=by
 cases w with
 | li f es=>
  cases e
  obtain ⟨a,vs,e1,e2,e3⟩:=h
  exact ⟨a,vs,e1,.inl e2,e3⟩
 | im d=>
  cases d with
  | lst es=>
   cases e
   obtain ⟨a,vs,e1,e2,e3⟩:=h
   exact ⟨a,vs,e1,hs.seq e2,e3⟩
  | tup es=>
   cases e
   obtain ⟨a,vs,e1,e2,e3⟩:=h
   exact ⟨a,vs,e1,qA5.tp hs e2,e3⟩
  | _=>cases e
def inW (w1 w2:W):Rs W:=match w2.items with
 | some (_,ds)=>if qA3 50 w1.dat=true∧fineDs 50 ds=true then .ok (.im (.bl (qM9 w1.dat ds))) else .no
 | none=>match w1,w2 with
  | .im (.str x),.im (.str y)=>.ok (.im (.bl (qdp x y)))
  | _,_=>.no
def qFf (w1 w2:W):Rs W:=match w2.items with
 | some (_,ds)=>if qA3 50 w1.dat=true∧fineDs 50 ds=true then .ok (.im (.bl (!qM9 w1.dat ds))) else .no
 | none=>match w1,w2 with
  | .im (.str x),.im (.str y)=>.ok (.im (.bl (!qdp x y)))
  | _,_=>.no
theorem qLb (hu:X.A.units + 51 < cLine):OpR X (compareOp .In) (rW X.K Ew inW):=by
 intro pins s σ H x y v u Q I rx ry ⟨B,w1,w2,hs,h1,h2,p⟩
 unfold inW at p
 have hu1:X.A.in1.units + 50 < cLine:=by show X.A.units + 1 + 50 < cLine;omega
 split at p
 ·rename_i k ds ek
  split at p
  ·rename_i hc
   obtain ⟨c,vs,rfl,e2,e3⟩:=h2.items hs ek
   cases ry
   have e3':IsDs X.K H ds vs:=IsDs.mono hs ds vs e3
   cases k with
   | true=>
    obtain ⟨its,r,pl,hz⟩:=I.list (show SqL X.K H c vs from e2)
    refine SeqAt.in_listAt (qIv X.K H w1.dat) pl.isList (fun z hz=>qHm I hu1 hc.1 (h1.dat hs) rx e3' r hc.2 z (by simpa using hz)) ?_
    have:its.toArray.any (qIv X.K H w1.dat)=qM9 w1.dat ds:=by rw [List.any_toArray];exact qKd I e3' r hc.2
    rw [this]
    exact ⟨.bl _,H,I,rfl,p B H #[24] _ rfl⟩
   | false=>
    obtain ⟨its,r,pl,hz⟩:=I.tuple (show SqT X.K H c vs from e2)
    refine SeqAt.in_tupleAt (qIv X.K H w1.dat) pl (fun z hz=>qHm I hu1 hc.1 (h1.dat hs) rx e3' r hc.2 z (by simpa using hz)) ?_
    have:its.toArray.any (qIv X.K H w1.dat)=qM9 w1.dat ds:=by rw [List.any_toArray];exact qKd I e3' r hc.2
    rw [this]
    exact ⟨.bl _,H,I,rfl,p B H #[24] _ rfl⟩
  ·exact p.elim
 ·split at p
  ·exact qV5 pins s σ H x y v u Q I rx ry ⟨_,_,h1,h2,p B H #[24] _ rfl⟩
  ·exact p.elim
theorem qOf (hu:X.A.units + 51 < cLine):OpR X (compareOp .NotIn) (rW X.K Ew qFf):=by
 intro pins s σ H x y v u Q I rx ry ⟨B,w1,w2,hs,h1,h2,p⟩
 unfold qFf at p
 have hu1:X.A.in1.units + 50 < cLine:=by show X.A.units + 1 + 50 < cLine;omega
 split at p
 ·rename_i k ds ek
  split at p
  ·rename_i hc
   obtain ⟨c,vs,rfl,e2,e3⟩:=h2.items hs ek
   cases ry
   have e3':IsDs X.K H ds vs:=IsDs.mono hs ds vs e3
   cases k with
   | true=>
    obtain ⟨its,r,pl,hz⟩:=I.list (show SqL X.K H c vs from e2)
    refine SeqAt.notIn_listAt (qIv X.K H w1.dat) pl.isList (fun z hz=>qHm I hu1 hc.1 (h1.dat hs) rx e3' r hc.2 z (by simpa using hz)) ?_
    have:its.toArray.any (qIv X.K H w1.dat)=qM9 w1.dat ds:=by rw [List.any_toArray];exact qKd I e3' r hc.2
    rw [this]
    exact ⟨.bl _,H,I,rfl,p B H #[24] _ rfl⟩
   | false=>
    obtain ⟨its,r,pl,hz⟩:=I.tuple (show SqT X.K H c vs from e2)
    refine SeqAt.notIn_tupleAt (qIv X.K H w1.dat) pl (fun z hz=>qHm I hu1 hc.1 (h1.dat hs) rx e3' r hc.2 z (by simpa using hz)) ?_
    have:its.toArray.any (qIv X.K H w1.dat)=qM9 w1.dat ds:=by rw [List.any_toArray];exact qKd I e3' r hc.2
    rw [this]
    exact ⟨.bl _,H,I,rfl,p B H #[24] _ rfl⟩
  ·exact p.elim
 ·split at p
  ·exact qOh pins s σ H x y v u Q I rx ry ⟨_,_,h1,h2,p B H #[24] _ rfl⟩
  ·exact p.elim
def ixW:W→W→Rs W
 | w,.im (.int i)=>match w.items with
  | some (_,ds)=>match atI ds i with
   | some d=>.ok (.im d)
   | none=>.no
  | none=>match w with
   | .im (.str z)=>if z.length≤lim then (match atI z.cps.toList i with | some c=>.ok (.im (.str ⟨#[c]⟩)) | none=>.no) else .no
   | _=>.no
 | _,_=>.no
theorem atI_is {K:PySem.W.Frag}{B:Hp}{ds:List D}{vs:List V}{i:Int}{d:D}(h:IsDs K B ds vs)(e:atI ds i=some d):∃ v,atI vs i=some v∧IsD K B d v:=by
 unfold atI at e ⊢
 rw [←h.len]
 cases q:ixN ds.length i with
 | none=>rw [q] at e;cases e
 | some j=>
  rw [q] at e
  obtain ⟨v,h1,h2⟩:=h.get (show ds[j]?=some d from e)
  exact ⟨v,h1,h2⟩
theorem ixw:IxR X (rW X.K Ew ixW):=by
 intro value slice pins s σ H x y v u Q I rx ry ⟨B,w1,w2,hs,h1,h2,p⟩ hsub
 unfold ixW at p
 split at p
 ·rename_i w i
  split at p
  ·rename_i k ds ek
   split at p
   ·rename_i d ed
    obtain ⟨c,vs,rfl,e2,e3⟩:=h1.items hs ek
    obtain ⟨z,ez,iz⟩:=atI_is e3 ed
    have q:=p B H #[24] z iz
    cases k with
    | true=>exact qdi value slice pins s σ H _ y v u Q I rx ry ⟨c,vs,i,z,rfl,h2,e2,ez,q⟩ hsub
    | false=>exact ix_tup value slice pins s σ H _ y v u Q I rx ry ⟨c,vs,i,z,rfl,h2,e2,ez,q⟩ hsub
   ·exact p.elim
  ·split at p
   ·split at p
    ·rename_i hl
     split at p
     ·rename_i c ec
      exact ix_str value slice pins s σ H _ y v u Q I rx ry ⟨_,i,c,h1,h2,by rw [qDv];exact hl,ec,p B H #[24] _ rfl⟩ hsub
     ·exact p.elim
    ·exact p.elim
   ·exact p.elim
 ·exact p.elim
theorem qA4 (ha:PX X Ew a ga)(hb:PX X Ew b gb)(hs:qX9 b):PX X Ew (.Subscript a b pos) (qAn ixW ga gb):=by
 obtain ⟨ta,tb,h1,h2,h3⟩:=two rfl ha hb
 exact ⟨_,pe_ix ixw h1 h2 hs,h3⟩
end
end PD
namespace HT
open PySem PyProof.Rows
section
variable {prog:Program}{w:World}{A:Around}{E:Value→Shared→Prop}{s:Shared}
theorem getItem_tuple_whole {t sl:Addr}{items:Array Value}{vl vu:Value}{lo hi:Option Int}{Q:Value→Shared→Prop}(ht:IsTup s.heap t items)(hs:s.heap.IsSliceOf sl vl vu .none)(pl:IsPart vl lo)(pu:IsPart vu hi)
  (hw:sIx items.size 0 lo=0∧sIx items.size items.size hi=items.size) (h:Q (.ref t) s):wpAny #[18] A (getItem (.ref t) (.ref sl)) Q E s:=by
 obtain ⟨os,hos,hcs,hds⟩:=id hs
 have hTs:s.TypeIs (.ref sl) "slice":=⟨os,hos,hcs⟩
 unfold getItem
 try with_reducible refine wpAny_holding ?_
 first | refine wpAny_bind (wpAny_pure ?_) | skip
 refine wpAny_bind (wpAny_sequenceKey ht.typeIs #[4] ?_)
 refine wpAny_bind (wpAny_callSpecial?_slot (name:=Str.ofString "__getitem__") ht.typeIs PyProof.Rows.slot_tuple_getitem
  (wpAny_call_entry PyProof.Rows.slot_tuple_getitem ht.typeIs entry_tuple_getitem ?_ (args_tuple_getitem _ _)))
 show wpAny _ _ (Builtin.Tuple.tupleItemsOf (.ref t)>>=_) _ _ s
 refine wpAny_bind (tupleItemsOf_ ht ?_)
 refine wpAny_bind (wpAny_typeOf hTs ?_)
 rw [if_pos #[4]]
 refine wpAny_bind (qEi hs pl pu ?_)
 have hyes:#[63]=true:=by
  rw [hw.1,hw.2]
  simp
 show wpAny _ _ (if #[63]=true then _ else _) _ _ s
 rw [if_pos hyes]
 refine wpAny_bind (m:=Builtin.Tuple.tupleIsExact _) ?_
 unfold Builtin.Tuple.tupleIsExact
 refine wpAny_bind (wpAny_typeOf ht.typeIs (wpAny_pure ?_))
 rw [if_pos #[4]]
 exact wpAny_bind (wpAny_rule (wpAny_pure ⟨_,rfl,wpAny_pure h⟩))
end
end HT
namespace PD
open PySem PySem.Spec PyProof.Rows L2
section
variable {X:Cx}{Ew:XW}{e a b c:Expr}{es:List Expr}{pos p2:Pos}{g ga gb gc:qAj→Rs W}
def cut {α:Type}(xs:List α)(lo hi:Option Int):List α:=(xs.drop (HT.sIx xs.length 0 lo)).take (HT.sIx xs.length xs.length hi - HT.sIx xs.length 0 lo)
theorem IsDs.cut {K:PySem.W.Frag}{B:Hp}{ds:List D}{vs:List V}(h:IsDs K B ds vs)(lo hi:Option Int):IsDs K B (cut ds lo hi) (qUb vs lo hi):=by
 unfold PD.cut qUb
 rw [h.len]
 exact (h.drop _).take _
def slW (w:W)(lo hi:Option Int):Rs W:=match w.items with
 | some (true,ds)=>.ok (.li true (cut ds lo hi))
 | some (false,ds)=>.ok (.im (.tup (cut ds lo hi)))
 | none=>.no
def rSl (K:PySem.W.Frag)(Ew:XW):V→Option Int→Option Int→Hp→VK→Prop:=fun x lo hi H Q=>∃ B w,qA5 B H∧Rdw K B H w x∧qF6 K Ew B H (slW w lo hi) Q
theorem slw:SlR X (rSl X.K Ew):=by
 intro pins s σ H x v vl vu lo hi sl Q I rx hsl pl pu ⟨B,w,hs,h,p⟩
 unfold slW at p
 split at p
 ·rename_i ds ek
  obtain ⟨c,vs,rfl,e2,e3⟩:=h.items hs ek
  refine qca pins s σ H _ v vl vu lo hi sl Q I rx hsl pl pu ⟨c,vs,rfl,e2,fun q hq=>?_⟩
  exact p B _ (Grow.new hs hq (hs.free hq)) _ ⟨q,qUb vs lo hi,rfl,hq,hs.free hq,qAu,e3.cut lo hi⟩
 ·rename_i ds ek
  obtain ⟨c,vs,rfl,e2,e3⟩:=h.items hs ek
  have e2':SqT X.K H c vs:=e2
  by_cases hw:HT.sIx vs.length 0 lo=0∧HT.sIx vs.length vs.length hi=vs.length
  ·cases rx
   obtain ⟨its,r,ht,hz⟩:=I.tuple e2'
   have hlen:its.toArray.size=vs.length:=by rw [List.size_toArray];exact r.length.symm
   refine ⟨"tuple",_,PyProof.Rows.slot_tuple_getitem.lookup,ht.typeIs,?_⟩
   refine HT.getItem_tuple_whole ht hsl pl pu (by rw [hlen];exact hw) ⟨.ref c,H,I,rfl,?_⟩
   have ew:qUb vs lo hi=vs:=by
    unfold qUb
    rw [hw.1,hw.2]
    simp
   have q:=e3.cut lo hi
   rw [ew] at q
   cases w with
   | li f es=>cases ek
   | im d=>
    cases d with
    | tup es=>
     cases ek
     obtain ⟨c',vs',z1,z2,z3⟩:=h
     cases z1
     have:=I.tuple_inj (qA5.tp hs z2) e2'
     subst this
     exact p B H #[24] _ ⟨c,vs',rfl,z2,q⟩
    | _=>cases ek
  ·refine sl_tup pins s σ H _ v vl vu lo hi sl Q I rx hsl pl pu ⟨c,vs,rfl,e2',hw,fun q hq=>?_⟩
   have sm:qA5 B (upd B q (.tup (qUb vs lo hi))):=fun b u z=>by rw [qAo (qAm z (hs.free hq))];exact z
   exact p _ _ (Grow.newB hs hq) _ ⟨q,qUb vs lo hi,rfl,qAu,IsDs.mono sm _ _ (e3.cut lo hi)⟩
 ·exact p.elim
def PXo (X:Cx)(Ew:XW)(e:Option Expr)(g:qAj→Rs (Option Int)):Prop:=
 ∃ to:TO,PO X e to∧∀ (B0 F0 P B H:Hp) (σ:L2.St) (δ:qAj) (Q:Option Int→Hp→Prop),R X.K B0 F0 P B H σ δ→Pst Ew B H (fun o _ H'=>Q o H') (g δ)→to σ H Q
theorem qDo:PXo X Ew none (fun _=>.ok none):=⟨_,qc0,fun B0 F0 P B H σ δ Q r p=>p B H (Grow.refl r.bh)⟩
def W.part:W→Rs (Option Int)
 | .im (.int i)=>.ok (some i)
 | _=>.no
theorem qDn (h:PX X Ew e g):PXo X Ew (some e) (fun δ=>g δ>>=W.part):=by
 obtain ⟨te,h1,h2⟩:=h
 refine ⟨_,qcz h1,fun B0 F0 P B H σ δ Q r p=>h2 B0 F0 P B H σ δ _ r #[45]⟩
 cases w with
 | li f ds=>exact False.elim p1
 | im d=>
  cases d with
  | int i=>exact ⟨i,hw,p1 B1 H1 #[32]⟩
  | _=>exact False.elim p1
theorem qDp {lo hi:Option Expr}{gl gh:qAj→Rs (Option Int)}(h:PX X Ew e g)(hl:PXo X Ew lo gl)(hh:PXo X Ew hi gh) :
  PX X Ew (.Subscript e (.Slice lo hi none p2) pos) (fun δ=>g δ>>=fun w=>gl δ>>=fun l=>gh δ>>=fun u=>slW w l u):=by
 obtain ⟨te,h1,h2⟩:=h
 obtain ⟨tl,l1,l2⟩:=hl
 obtain ⟨th,k1,k2⟩:=hh
 refine ⟨_,qZn (slw (Ew:=Ew)) h1 l1 k1,fun B0 F0 P B H σ δ Q r p=>h2 B0 F0 P B H σ δ _ r #[45]⟩
 refine l2 B0 F0 P B1 H1 σ δ _ (r.grow g1) ((Pst.bind p1).mono fun l B2 H2 g2 p2=>?_)
 refine k2 B0 F0 P B2 H2 σ δ _ ((r.grow g1).grow g2) ((Pst.bind p2).mono fun u B3 H3 g3 p3=>?_)
 exact ⟨B3,w,g3.bh,(hw.grow (g2.trans g3)).rd,Pst.mono p3 fun w B' H' _ q v hw=>q v (hw.older (g1.trans (g2.trans g3)).sh)⟩
def W.tru:W→Rs Bool
 | .im .non=>.ok false
 | .im (.bl b)=>.ok b
 | .im (.int i)=>.ok (i != 0)
 | .im (.str x)=>if x.length≤lim then .ok ((x.length:Int) != 0) else .no
 | .im (.tup ds)=>.ok (!ds.isEmpty)
 | .im (.lst ds)=>.ok (!ds.isEmpty)
 | .li _ ds=>.ok (!ds.isEmpty)
 | .im (.fn _)=>.no
 | .im (.clo _ _ _)=>.no
theorem emp {K:PySem.W.Frag}{B:Hp}{ds:List D}{vs:List V}(h:IsDs K B ds vs):ds.isEmpty=vs.isEmpty:=by
 have:=h.len
 cases ds <;> cases vs <;> simp_all
theorem tru_w {K:PySem.W.Frag}{B H:Hp}(hs:qA5 B H){w:W}{v:V}{k:Bool}(h:Rdw K B H w v)(e:w.tru=.ok k):TruV K v H k:=by
 cases w with
 | li f ds=>
  cases e
  obtain ⟨a,vs,rfl,e2,e3⟩:=h
  exact .inl ⟨vs,.inl e2,by rw [emp e3]⟩
 | im d=>
  cases d with
  | non=>cases e;cases (show v=.non from h);exact rfl
  | bl b=>cases e;cases (show v=.bl k from h);exact rfl
  | int i=>cases e;cases (show v=.int i from h);exact rfl
  | str x=>
   cases (show v=.str x from h)
   simp only [W.tru] at e
   split at e
   ·rename_i hl
    cases e
    exact ⟨by rw [qDv];exact hl,rfl⟩
   ·cases e
  | tup ds=>
   cases e
   obtain ⟨a,vs,rfl,e2,e3⟩:=h
   exact .inr (.inl ⟨vs,qA5.tp hs e2,by rw [emp e3]⟩)
  | lst ds=>
   cases e
   obtain ⟨a,vs,rfl,e2,e3⟩:=h
   exact .inl ⟨vs,hs.seq e2,by rw [emp e3]⟩
  | fn a=>cases e
  | clo _ _ _=>cases e
theorem qUm {w:W}{x:XD}:w.tru≠.ex x:=by
 intro e
 cases w with
 | li f ds=>cases e
 | im d=>
  cases d with
  | str x=>
   simp only [W.tru] at e
   split at e <;> cases e
  | _=>cases e
theorem qB9 (h:PX X Ew e g)(he:∀ whole,isTrue e X.env whole=(do let v ←whole;standAt e.pos;holding [v] (truthy v)):=by intro _;rfl):PXt X Ew e (fun δ=>g δ>>=W.tru):=by
 obtain ⟨te,h1,h2⟩:=h
 refine ⟨_,qY9 h1 he,fun B0 F0 P B H σ δ Q r p=>h2 B0 F0 P B H σ δ _ r #[45]⟩
 cases e:w.tru with
 | no=>rw [e] at p1;exact p1.elim
 | ex x=>exact (qUm e).elim
 | ok k=>
  rw [e] at p1
  exact ⟨k,tru_w g1.bh hw.rd e,p1 B1 H1 #[32]⟩
theorem qCh {t:qAj→Rs Bool}(h:PXt X Ew a t):PXt X Ew (.UnaryOp .Not a pos) (fun δ=>t δ>>=fun b=>.ok (!b)):=by
 obtain ⟨tt,h1,h2⟩:=h
 exact ⟨_,pt_not h1,fun B0 F0 P B H σ δ Q r p=>h2 B0 F0 P B H σ δ _ r ((Pst.bind p).mono fun b B1 H1 g1 p1=>p1 B1 H1 #[32])⟩
def PXw (X:Cx)(Ew:XW)(e:Expr)(g:qAj→Rs Bool):Prop:=
 ∃ tt:TT,PW X e tt∧∀ (B0 F0 P B H:Hp) (σ:L2.St) (δ:qAj) (Q:Bool→Hp→Prop),R X.K B0 F0 P B H σ δ→qX7 Ew B H (g δ) Q→tt σ H Q
theorem PXw.t {t:qAj→Rs Bool}(h:PXw X Ew e t):PXt X Ew e t:=let ⟨tt,h1,h2⟩:=h;⟨tt,h1.pt,h2⟩
theorem qIn {t:qAj→Rs Bool}(h:PXt X Ew a t):PXw X Ew (.BoolOp .And [a] pos) t:=let ⟨tt,h1,h2⟩:=h;⟨tt,qcq h1,h2⟩
theorem qFq {t:qAj→Rs Bool}(h:PXt X Ew a t):PXw X Ew (.BoolOp .Or [a] pos) t:=let ⟨tt,h1,h2⟩:=h;⟨tt,pw_or1 h1,h2⟩
def qUg (t u:qAj→Rs Bool):qAj→Rs Bool:=fun δ=>t δ>>=fun b=>if b=true then u δ else .ok false
def orB (t u:qAj→Rs Bool):qAj→Rs Bool:=fun δ=>t δ>>=fun b=>if b=true then .ok true else u δ
theorem qHh {t u:qAj→Rs Bool}(h:PXt X Ew a t)(k:PXw X Ew (.BoolOp .And (b::es) pos) u):PXw X Ew (.BoolOp .And (a::b::es) pos) (qUg t u):=by
 obtain ⟨tt,h1,h2⟩:=h
 obtain ⟨tu,k1,k2⟩:=k
 refine ⟨_,pw_and h1 k1,fun B0 F0 P B H σ δ Q r p=>h2 B0 F0 P B H σ δ _ r ((Pst.bind p).mono fun b B1 H1 g1 p1=>?_)⟩
 cases b with
 | true=>exact k2 B0 F0 P B1 H1 σ δ Q (r.grow g1) p1
 | false=>exact p1 B1 H1 #[32]
theorem qJd {t u:qAj→Rs Bool}(h:PXt X Ew a t)(k:PXw X Ew (.BoolOp .Or (b::es) pos) u):PXw X Ew (.BoolOp .Or (a::b::es) pos) (orB t u):=by
 obtain ⟨tt,h1,h2⟩:=h
 obtain ⟨tu,k1,k2⟩:=k
 refine ⟨_,pw_or h1 k1,fun B0 F0 P B H σ δ Q r p=>h2 B0 F0 P B H σ δ _ r ((Pst.bind p).mono fun b B1 H1 g1 p1=>?_)⟩
 cases b with
 | true=>exact p1 B1 H1 #[32]
 | false=>exact k2 B0 F0 P B1 H1 σ δ Q (r.grow g1) p1
theorem qEj {op}(h:PX X Ew a ga):PX X Ew (.BoolOp op [a] pos) ga:=let ⟨te,h1,h2⟩:=h;⟨te,pe_one h1,h2⟩
def qKf (ga gb:qAj→Rs W):qAj→Rs W:=fun δ=>ga δ>>=fun w=>w.bool>>=fun b=>if b=true then gb δ else .ok (.im (.bl false))
def orW (ga gb:qAj→Rs W):qAj→Rs W:=fun δ=>ga δ>>=fun w=>w.bool>>=fun b=>if b=true then .ok (.im (.bl true)) else gb δ
theorem qDq (h:PX X Ew a ga)(k:PX X Ew (.BoolOp .And (b::es) pos) gb):PX X Ew (.BoolOp .And (a::b::es) pos) (qKf ga gb):=by
 obtain ⟨ta,h1,h2⟩:=h
 obtain ⟨tb,k1,k2⟩:=k
 refine ⟨_,pe_and h1 k1,fun B0 F0 P B H σ δ Q r p=>h2 B0 F0 P B H σ δ _ r #[45]⟩
 cases w with
 | li f ds=>exact False.elim p1
 | im d=>
  cases d with
  | bl k=>
   refine ⟨k,hw,?_⟩
   cases k with
   | true=>exact k2 B0 F0 P B1 H1 σ δ Q (r.grow g1) (Pst.mono (show Pst Ew B1 H1 _ (gb δ) from p1) fun w B' H' _ q v hw=>q v (hw.older g1.sh))
   | false=>exact (show Pst Ew B1 H1 _ (Rs.ok (W.im (.bl false))) from p1) B1 H1 #[32] _ rfl
  | _=>exact False.elim p1
theorem px_or (h:PX X Ew a ga)(k:PX X Ew (.BoolOp .Or (b::es) pos) gb):PX X Ew (.BoolOp .Or (a::b::es) pos) (orW ga gb):=by
 obtain ⟨ta,h1,h2⟩:=h
 obtain ⟨tb,k1,k2⟩:=k
 refine ⟨_,pe_or h1 k1,fun B0 F0 P B H σ δ Q r p=>h2 B0 F0 P B H σ δ _ r #[45]⟩
 cases w with
 | li f ds=>exact False.elim p1
 | im d=>
  cases d with
  | bl k=>
   refine ⟨k,hw,?_⟩
   cases k with
   | false=>exact k2 B0 F0 P B1 H1 σ δ Q (r.grow g1) (Pst.mono (show Pst Ew B1 H1 _ (gb δ) from p1) fun w B' H' _ q v hw=>q v (hw.older g1.sh))
   | true=>exact (show Pst Ew B1 H1 _ (Rs.ok (W.im (.bl true))) from p1) B1 H1 #[32] _ rfl
  | _=>exact False.elim p1
def negW:W→Rs W
 | .im (.int i)=>.ok (.im (.int (-i)))
 | _=>.no
theorem qVj (h:PX X Ew a ga):PX X Ew (.UnaryOp .USub a pos) (fun δ=>ga δ>>=negW):=by
 obtain ⟨ta,h1,h2⟩:=h
 refine ⟨_,pe_un un_neg h1,fun B0 F0 P B H σ δ Q r p=>h2 B0 F0 P B H σ δ _ r #[45]⟩
 cases w with
 | li f ds=>exact False.elim p1
 | im d=>
  cases d with
  | int k=>exact ⟨k,hw,(show Pst Ew B1 H1 _ (Rs.ok (W.im (.int (-k)))) from p1) B1 H1 #[32] _ rfl⟩
  | _=>exact False.elim p1
def ifW (t:qAj→Rs Bool)(ga gb:qAj→Rs W):qAj→Rs W:=fun δ=>t δ>>=fun b=>if b=true then ga δ else gb δ
theorem px_if {t:qAj→Rs Bool}(h:PXt X Ew c t)(ha:PX X Ew a ga)(hb:PX X Ew b gb):PX X Ew (.IfExp c a b pos) (ifW t ga gb):=by
 obtain ⟨tt,h1,h2⟩:=h
 obtain ⟨ta,a1,a2⟩:=ha
 obtain ⟨tb,b1,b2⟩:=hb
 refine ⟨_,qMl h1 a1 b1,fun B0 F0 P B H σ δ Q r p=>h2 B0 F0 P B H σ δ _ r ((Pst.bind p).mono fun b B1 H1 g1 p1=>?_)⟩
 cases b with
 | true=>exact a2 B0 F0 P B1 H1 σ δ Q (r.grow g1) (Pst.mono (show Pst Ew B1 H1 _ (ga δ) from p1) fun w B' H' _ q v hw=>q v (hw.older g1.sh))
 | false=>exact b2 B0 F0 P B1 H1 σ δ Q (r.grow g1) (Pst.mono (show Pst Ew B1 H1 _ (gb δ) from p1) fun w B' H' _ q v hw=>q v (hw.older g1.sh))
def qEl (f f':W→W→Rs W)(ga gb gc:qAj→Rs W):qAj→Rs W:=fun δ=>ga δ>>=fun x=>gb δ>>=fun y=>f x y>>=fun z=>z.bool>>=fun k=>if k=true then gc δ>>=fun w=>f' y w else .ok (.im (.bl false))
theorem qPm {f f':W→W→Rs W}{r r':R2}(hr:r=rW X.K Ew f)(hr':r'=rW X.K Ew f'){ta tb tc:TE}
  (a2:∀ (B0 F0 P B H:Hp) (σ:L2.St) (δ:qAj) (Q:VK),R X.K B0 F0 P B H σ δ→qF6 X.K Ew B H (ga δ) Q→ta σ H Q)
  (b2:∀ (B0 F0 P B H:Hp) (σ:L2.St) (δ:qAj) (Q:VK),R X.K B0 F0 P B H σ δ→qF6 X.K Ew B H (gb δ) Q→tb σ H Q)
  (c2:∀ (B0 F0 P B H:Hp) (σ:L2.St) (δ:qAj) (Q:VK),R X.K B0 F0 P B H σ δ→qF6 X.K Ew B H (gc δ) Q→tc σ H Q)
  (B0 F0 P B H:Hp) (σ:L2.St) (δ:qAj) (Q:VK) (rr:R X.K B0 F0 P B H σ δ) (p:qF6 X.K Ew B H (qEl f f' ga gb gc δ) Q):qUn r r' ta tb tc σ H Q:=by
 subst hr hr'
 refine a2 B0 F0 P B H σ δ _ rr ((Pst.bind p).mono fun w1 B1 H1 g1 p1 v1 h1=>?_)
 refine b2 B0 F0 P B1 H1 σ δ _ (rr.grow g1) ((Pst.bind p1).mono fun w2 B2 H2 g2 p2 v2 h2=>?_)
 refine ⟨B2,w1,w2,g2.bh,(h1.grow g2).rd,h2.rd,(Pst.bind p2).mono fun w3 B3 H3 g3 p3 v3 h3=>?_⟩
 cases w3 with
 | li f ds=>exact False.elim p3
 | im d=>
  cases d with
  | bl k=>
   refine ⟨k,h3,?_⟩
   cases k with
   | false=>exact (show Pst Ew B3 H3 _ (Rs.ok (W.im (.bl false))) from p3) B3 H3 (Grow.refl g3.bh) _ rfl
   | true=>
    have p3':Pst Ew B3 H3 (fun w B' H'=>∀ v,IsW X.K B' H H' w v→Q v H') (gc δ>>=fun w=>f' w2 w):=p3
    refine c2 B0 F0 P B3 H3 σ δ _ (((rr.grow g1).grow g2).grow g3) ((Pst.bind p3').mono fun w4 B4 H4 g4 p4 v4 h4=>?_)
    exact ⟨B4,w2,w4,g4.bh,(h2.grow (g3.trans g4)).rd,h4.rd,Pst.mono p4 fun w B' H' _ q v hw=>q v (hw.older (g1.trans (g2.trans (g3.trans g4))).sh)⟩
  | _=>exact False.elim p3
theorem qRw {op op':CmpOp}{f f':W→W→Rs W}(ho:OpR X (compareOp op) (rW X.K Ew f))(ho':OpR X (compareOp op') (rW X.K Ew f'))(ha:PX X Ew a ga)(hb:PX X Ew b gb)(hc:PX X Ew c gc)
  (hm:lastMarks [op,op'] [b,c]=false:=by with_unfolding_all rfl):PX X Ew (.Compare a [op,op'] [b,c] pos) (qEl f f' ga gb gc):=by
 obtain ⟨ta,a1,a2⟩:=ha
 obtain ⟨tb,b1,b2⟩:=hb
 obtain ⟨tc,c1,c2⟩:=hc
 exact ⟨_,qZq ho ho' a1 b1 c1 hm,qPm rfl rfl a2 b2 c2⟩
theorem qVf {op op':CmpOp}{f f':W→W→Rs W}(ho:OpR X (compareOp op) (rW X.K Ew f))(ho':OpR X (compareOp op') (rW X.K Ew f'))(ha:PX X Ew a ga)(hb:PX X Ew b gb)(hc:PX X Ew c gc)
  (hm:lastMarks [op,op'] [b,c]=false:=by with_unfolding_all rfl):PXt X Ew (.Compare a [op,op'] [b,c] pos) (fun δ=>qEl f f' ga gb gc δ>>=W.bool):=by
 obtain ⟨ta,a1,a2⟩:=ha
 obtain ⟨tb,b1,b2⟩:=hb
 obtain ⟨tc,c1,c2⟩:=hc
 exact ⟨_,qZa ho ho' a1 b1 c1 hm,fun B0 F0 P B H σ δ Q r p=>qPm rfl rfl a2 b2 c2 B0 F0 P B H σ δ _ r (qF6.bool p)⟩
end
open PySem PySem.Spec PyProof.Rows L2
inductive Fl where
 | nx (δ:qAj) | rt (w:W) | bk (δ:qAj) | ct (δ:qAj) | rl (d:D) (δ:qAj)
def qB3 (K:PySem.W.Frag)(Ew:XW)(B0 F0 P:Hp)(Wr:List Nat)(σ:L2.St)(r:Rs Fl)(D:Ends):Prop:=
 match r with
 | .no=>False
 | .ex x=>∀ B' H',Grow B0 F0 B' H'→Ew x B' H'
 | .ok (.nx δ')=>∀ B' H' σ',R K B0 F0 P B' H' σ' δ'→(∀ i,i∉Wr→σ'[i]?=σ[i]?)→D.nx σ' H'
 | .ok (.bk δ')=>∀ B' H' σ',R K B0 F0 P B' H' σ' δ'→(∀ i,i∉Wr→σ'[i]?=σ[i]?)→D.bk σ' H'
 | .ok (.ct δ')=>∀ B' H' σ',R K B0 F0 P B' H' σ' δ'→(∀ i,i∉Wr→σ'[i]?=σ[i]?)→D.ct σ' H'
 | .ok (.rt w)=>∀ v B' H',Grow B0 F0 B' H'→IsW K B' F0 H' w v→D.rt v H'
 | .ok (.rl d δ')=>∀ v B' H' σ',R K B0 F0 P B' H' σ' δ'→(∀ i,i∉Wr→σ'[i]?=σ[i]?)→IsD K B' d v→D.rt v H'
def PSX (X:Cx)(Ew:XW)(Wr:List Nat)(st:Stmt)(h:qAj→Rs Fl):Prop:=
 ∃ ts:TS,PS X st ts∧∀ (B0 F0 P B H:Hp) (σ:L2.St) (δ:qAj) (D:Ends),R X.K B0 F0 P B H σ δ→qB3 X.K Ew B0 F0 P Wr σ (h δ) D→ts D σ H
def qP0 (X:Cx)(Ew:XW)(Wr:List Nat)(st:List Stmt)(h:qAj→Rs Fl):Prop:=
 ∃ ts:TS,PSs X st ts∧∀ (B0 F0 P B H:Hp) (σ:L2.St) (δ:qAj) (D:Ends),R X.K B0 F0 P B H σ δ→qB3 X.K Ew B0 F0 P Wr σ (h δ) D→ts D σ H
section
variable {X:Cx}{Ew:XW}{Wr Wr':List Nat}{st:Stmt}{sts:List Stmt}{e c:Expr}{es:List Expr}{pos:Pos}{g:qAj→Rs W}{h k:qAj→Rs Fl}
theorem qB3.ex {K:PySem.W.Frag}{B0 F0 P B H:Hp}{σ σr:L2.St}{δ:qAj}{x:XD}{D:Ends}(r:R K B0 F0 P B H σr δ)(p:qB3 K Ew B0 F0 P Wr σ (.ex x) D):∀ B' H',Grow B H B' H'→Ew x B' H':=
 fun B' H' g=>p B' H' (r.whole.trans g)
theorem qB3.bind {K:PySem.W.Frag}{B0 F0 P B H:Hp}{σ σr:L2.St}{δ:qAj}{α:Type}{a:Rs α}{f:α→Rs Fl}{D:Ends}(r:R K B0 F0 P B H σr δ)(p:qB3 K Ew B0 F0 P Wr σ (a>>=f) D) :
  Pst Ew B H (fun x B' H'=>qB3 K Ew B0 F0 P Wr σ (f x) D) a:=by
 cases a with
 | no=>exact p
 | ok x=>exact fun B' H' _=>p
 | ex x=>exact p.ex r
theorem qOa:PSX X Ew [] st (fun _=>.no):=⟨_,qZj,fun B0 F0 P B H σ δ D r p=>p.elim⟩
theorem qA7:qP0 X Ew [] [] (fun δ=>.ok (.nx δ)):=⟨_,qcx,fun B0 F0 P B H σ δ D r p=>p B H σ r fun _ _=>rfl⟩
def qBd (h k:qAj→Rs Fl):qAj→Rs Fl:=fun δ=>match h δ with
 | .ok (.nx δ')=>k δ'
 | r=>r
theorem qB3.wider {K:PySem.W.Frag}{B0 F0 P:Hp}{σ:L2.St}{r:Rs Fl}{D:Ends}(p:qB3 K Ew B0 F0 P Wr σ r D)(hs:∀ i,i∈Wr'→i∈Wr):qB3 K Ew B0 F0 P Wr' σ r D:=by
 cases r with
 | no=>exact p
 | ex x=>exact p
 | ok f=>
  cases f with
  | nx δ=>exact fun B' H' σ' r' f'=>p B' H' σ' r' fun i hi=>f' i fun z=>hi (hs i z)
  | bk δ=>exact fun B' H' σ' r' f'=>p B' H' σ' r' fun i hi=>f' i fun z=>hi (hs i z)
  | ct δ=>exact fun B' H' σ' r' f'=>p B' H' σ' r' fun i hi=>f' i fun z=>hi (hs i z)
  | rl d δ=>exact fun v B' H' σ' r' f'=>p v B' H' σ' r' fun i hi=>f' i fun z=>hi (hs i z)
  | rt w=>exact p
theorem qB3.from {K:PySem.W.Frag}{B0 F0 P:Hp}{σ σ':L2.St}{r:Rs Fl}{D:Ends}(p:qB3 K Ew B0 F0 P Wr σ r D)(hs:∀ i,i∉Wr→σ'[i]?=σ[i]?):qB3 K Ew B0 F0 P Wr σ' r D:=by
 cases r with
 | no=>exact p
 | ex x=>exact p
 | ok f=>
  cases f with
  | nx δ=>exact fun B' H' σ2 r' f'=>p B' H' σ2 r' fun i hi=>(f' i hi).trans (hs i hi)
  | bk δ=>exact fun B' H' σ2 r' f'=>p B' H' σ2 r' fun i hi=>(f' i hi).trans (hs i hi)
  | ct δ=>exact fun B' H' σ2 r' f'=>p B' H' σ2 r' fun i hi=>(f' i hi).trans (hs i hi)
  | rl d δ=>exact fun v B' H' σ2 r' f'=>p v B' H' σ2 r' fun i hi=>(f' i hi).trans (hs i hi)
  | rt w=>exact p
theorem qAi (h1:PSX X Ew Wr st h)(h2:qP0 X Ew Wr' sts k):qP0 X Ew (Wr++Wr') (st::sts) (qBd h k):=by
 obtain ⟨t1,a1,a2⟩:=h1
 obtain ⟨t2,b1,b2⟩:=h2
 refine ⟨_,qZg a1 b1,fun B0 F0 P B H σ δ D r p=>a2 B0 F0 P B H σ δ { D with nx:=t2 D } r ?_⟩
 unfold qBd at p
 cases q:h δ with
 | no=>rw [q] at p;exact p
 | ex x=>rw [q] at p;exact p
 | ok f=>
  rw [q] at p
  cases f with
  | nx δ'=>
   intro B' H' σ' r' f'
   refine b2 B0 F0 P B' H' σ' δ' D r' ?_
   have p1:qB3 X.K Ew B0 F0 P (Wr++Wr') σ (k δ') D:=p
   exact (p1.from (σ':=σ') fun i hi=>f' i fun z=>hi (List.mem_append_left _ z)).wider fun i hi=>List.mem_append_right _ hi
  | bk δ'=>exact (show qB3 X.K Ew B0 F0 P (Wr++Wr') σ (.ok (.bk δ')) D from p).wider (Wr':=Wr) fun i hi=>List.mem_append_left _ hi
  | ct δ'=>exact (show qB3 X.K Ew B0 F0 P (Wr++Wr') σ (.ok (.ct δ')) D from p).wider (Wr':=Wr) fun i hi=>List.mem_append_left _ hi
  | rl d δ'=>exact (show qB3 X.K Ew B0 F0 P (Wr++Wr') σ (.ok (.rl d δ')) D from p).wider (Wr':=Wr) fun i hi=>List.mem_append_left _ hi
  | rt w=>exact p
theorem qAk (h1:PSX X Ew Wr st h):qP0 X Ew Wr [st] h:=let ⟨t,a1,a2⟩:=h1;⟨t,qVq a1,a2⟩
def ifF (t:qAj→Rs Bool)(h k:qAj→Rs Fl):qAj→Rs Fl:=fun δ=>t δ>>=fun b=>if b=true then h δ else k δ
theorem qBj {a b:List Stmt}{t:qAj→Rs Bool}(hc:PXt X Ew c t)(ha:qP0 X Ew Wr a h)(hb:qP0 X Ew Wr' b k):PSX X Ew (Wr++Wr') (.If c a b pos) (ifF t h k):=by
 obtain ⟨tt,c1,c2⟩:=hc
 obtain ⟨t1,a1,a2⟩:=ha
 obtain ⟨t2,b1,b2⟩:=hb
 refine ⟨_,ps_if c1 a1 b1,fun B0 F0 P B H σ δ D r p=>c2 B0 F0 P B H σ δ _ r ((qB3.bind r p).mono fun b B1 H1 g1 p1=>?_)⟩
 cases b with
 | true=>exact a2 B0 F0 P B1 H1 σ δ D (r.grow g1) (qB3.wider (Wr:=Wr++Wr') p1 fun i hi=>List.mem_append_left _ hi)
 | false=>exact b2 B0 F0 P B1 H1 σ δ D (r.grow g1) (qB3.wider (Wr:=Wr++Wr') p1 fun i hi=>List.mem_append_right _ hi)
theorem qAt (he:PX X Ew e g):PSX X Ew [] (.Return (some e) pos) (fun δ=>g δ>>=fun w=>.ok (.rt w)):=by
 obtain ⟨te,h1,h2⟩:=he
 exact ⟨_,qOb h1,fun B0 F0 P B H σ δ D r p=>h2 B0 F0 P B H σ δ _ r ((qB3.bind r p).mono fun w B1 H1 g1 p1 v hw=>p1 v B1 H1 (r.whole.trans g1) (hw.older r.fh))⟩
def qP1 (i:Nat):qAj→Rs W:=fun δ=>match δ[i]? with
 | some (.im d)=>.ok (.im d)
 | some (.rd ds)=>.ok (.li false ds)
 | some (.own ds)=>.ok (.li true ds)
 | _=>.no
theorem qEb (i:Nat){x:Str}{p':Pos}(hN:X.N[i]?=some x:=by rfl)(hv:Vis X.env.scope x:=by first | exact Or.inl rfl | exact Or.inr (Or.inl rfl) | exact Or.inr (Or.inr rfl))(hd:#[17]=false:=by decide)
  (hcd:#[33]=false:=by decide):PSX X Ew [] (.Return (some (.Name x p')) pos) (fun δ=>qP1 i δ>>=fun w=>.ok (.rt w)):=by
 refine ⟨_,qOb (qCb hN hv hd hcd),fun B0 F0 P B H σ δ D r p=>?_⟩
 unfold qP1 at p
 dsimp only at p
 cases e:δ[i]? with
 | none=>rw [e] at p;exact p.elim
 | some s=>
  rw [e] at p
  have hs:=r.sl i s e
  cases s with
  | un=>exact p.elim
  | im d=>
   obtain ⟨v,e1,e2⟩:=hs
   exact ⟨v,e1,p v B H r.whole e2⟩
  | rd ds=>
   obtain ⟨a,vs,e1,e2,e3⟩:=hs
   exact ⟨_,e1,p _ B H r.whole ⟨a,vs,rfl,qA5.rdl r.fh e2,e3⟩⟩
  | own ds=>
   obtain ⟨a,vs,e1,e2,e3,e4,e5,e6⟩:=hs
   exact ⟨_,e1,p _ B H r.whole ⟨a,vs,rfl,e2,e4,e5,e6⟩⟩
  | dct ks=>exact p.elim
  | dtt ks=>exact p.elim
  | exc x=>exact p.elim
end
section
variable {K:PySem.W.Frag}{B0 F0 P B H:Hp}{σ:L2.St}{δ:qAj}
theorem qAy {α:Type}{l:List α}{i j:Nat}{x:α}(h:i≠j):(l.set i x)[j]?=l[j]?:=List.getElem?_set_ne h
theorem qBb {α:Type}{l:List α}{i:Nat}{x y:α}(h:(l.set i x)[i]?=some y):y=x∧i < l.length:=by
 rw [List.getElem?_set] at h
 split at h
 ·split at h
  ·exact ⟨(Option.some.inj h).symm,by assumption⟩
  ·cases h
 ·rename_i z;exact absurd rfl z
theorem R.im (r:R K B0 F0 P B H σ δ){i:Nat}{d:D}{v:V}(h:IsD K B d v):R K B0 F0 P B H (σ.set i (some v)) (δ.set i (.im d)) where
 b0:=r.b0
 nw:=r.nw
 fh:=r.fh
 ph:=r.ph
 bh:=r.bh
 len:=by rw [List.length_set,List.length_set];exact r.len
 sl:=fun j s e=>by
  by_cases hj:i=j
  ·subst hj
   obtain ⟨rfl,hl⟩:=qBb e
   refine ⟨v,?_,h⟩
   rw [List.getElem?_set_self (by rw [←r.len];exact hl)]
  ·rw [qAy hj] at e
   rw [qAy hj]
   exact r.sl j s e
 ne:=fun j k s t a hjk e1 e2 o1 o2 z1 z2=>by
  by_cases hj:i=j
  ·subst hj
   obtain ⟨rfl,_⟩:=qBb e1
   cases o1
  ·by_cases hk:i=k
   ·subst hk
    obtain ⟨rfl,_⟩:=qBb e2
    cases o2
   ·rw [qAy hj] at e1 z1
    rw [qAy hk] at e2 z2
    exact r.ne j k s t a hjk e1 e2 o1 o2 z1 z2
theorem R.own {B' H':Hp}(r:R K B0 F0 P B H σ δ)(g:Grow B H B' H'){i:Nat}{ds:List D}{a:Addr}{vs:List V}(h0:H a=none)(hb:B' a=none)(hh:H' a=some (.lst vs))(h:IsDs K B' ds vs) :
  R K B0 F0 P B' H' (σ.set i #[25]) (δ.set i (.own ds)):=by
 have r':=r.grow g
 refine ⟨r'.b0,r'.nw,r'.fh,r'.ph,r'.bh,by rw [List.length_set,List.length_set];exact r.len,fun j s e=>?_,fun j k s t b hjk e1 e2 o1 o2 z1 z2=>?_⟩
 ·by_cases hj:i=j
  ·subst hj
   obtain ⟨rfl,hl⟩:=qBb e
   refine ⟨a,vs,?_,r.fh.free h0,r.ph.free h0,hb,hh,h⟩
   rw [List.getElem?_set_self (by rw [←r.len];exact hl)]
  ·rw [qAy hj] at e
   rw [qAy hj]
   exact r'.sl j s e
 ·have live:∀ (j:Nat) (s:Sl),δ[j]?=some s→s.isOwn=true→σ[j]?=some #[25]→False:=fun j s e o z=>by
   cases s with
   | own es=>
    obtain ⟨c,us,q1,q2,q3,q4,q5,_⟩:=r.sl j _ e
    rw [z] at q1
    cases q1
    rw [h0] at q5
    cases q5
   | dct es=>
    obtain ⟨c,us,q1,q2,q3,q4,q5,_⟩:=r.sl j _ e
    rw [z] at q1
    cases q1
    rw [h0] at q5
    cases q5
   | dtt es=>
    obtain ⟨c,us,q1,q2,q3,q4,q5,_⟩:=r.sl j _ e
    rw [z] at q1
    cases q1
    rw [h0] at q5
    cases q5
   | _=>cases o
  by_cases hj:i=j
  ·subst hj
   by_cases hk:i=k
   ·exact hjk hk
   ·rw [qAy hk] at e2 z2
    obtain ⟨_,hl⟩:=qBb z1
    rw [List.getElem?_set_self hl] at z1
    cases z1
    exact live k t e2 o2 z2
  ·by_cases hk:i=k
   ·subst hk
    rw [qAy hj] at e1 z1
    obtain ⟨_,hl⟩:=qBb z2
    rw [List.getElem?_set_self hl] at z2
    cases z2
    exact live j s e1 o1 z1
   ·rw [qAy hj] at e1 z1
    rw [qAy hk] at e2 z2
    exact r.ne j k s t b hjk e1 e2 o1 o2 z1 z2
theorem R.put (r:R K B0 F0 P B H σ δ){i:Nat}{ds es:List D}{a:Addr}{vs us:List V}(ei:δ[i]?=some (.own ds))(ea:σ[i]?=some #[25])(hu:IsDs K B es us) :
  R K B0 F0 P B (upd H a (.lst us)) σ (δ.set i (.own es)):=by
 obtain ⟨a',vs',q1,q2,q3,q4,q5,q6⟩:=r.sl i _ ei
 rw [ea] at q1
 cases q1
 have keep:∀ {G:Hp},qA5 G H→G a=none→qA5 G (upd H a (.lst us)):=fun hs hn b o e=>by
  rw [qAo (qAm e hn)];exact hs b o e
 refine ⟨r.b0,r.nw,keep r.fh q2,keep r.ph q3,keep r.bh q4,by rw [List.length_set];exact r.len,fun j s e=>?_,fun j k s t b hjk e1 e2 o1 o2 z1 z2=>?_⟩
 ·by_cases hj:i=j
  ·subst hj
   obtain ⟨rfl,hl⟩:=qBb e
   exact ⟨a,us,ea,q2,q3,q4,qAu,hu⟩
  ·rw [qAy hj] at e
   have:=r.sl j s e
   cases s with
   | own fs=>
    obtain ⟨c,ws,w1,w2,w3,w4,w5,w6⟩:=this
    have hne:c≠a:=fun z=>by
     subst z
     exact r.ne j i _ _ c (Ne.symm hj) e ei rfl rfl w1 ea
    exact ⟨c,ws,w1,w2,w3,w4,by rw [qAo hne];exact w5,w6⟩
   | dct fs=>
    obtain ⟨c,ws,w1,w2,w3,w4,w5,w6⟩:=this
    have hne:c≠a:=fun z=>by
     subst z
     exact r.ne j i _ _ c (Ne.symm hj) e ei rfl rfl w1 ea
    exact ⟨c,ws,w1,w2,w3,w4,by rw [qAo hne];exact w5,w6⟩
   | dtt fs=>
    obtain ⟨c,ws,w1,w2,w3,w4,w5,w6⟩:=this
    have hne:c≠a:=fun z=>by
     subst z
     exact r.ne j i _ _ c (Ne.symm hj) e ei rfl rfl w1 ea
    exact ⟨c,ws,w1,w2,w3,w4,by rw [qAo hne];exact w5,w6⟩
   | _=>exact this
 ·have back:∀ (j:Nat) (s:Sl),(δ.set i (.own es))[j]?=some s→s.isOwn=true→∃ s',δ[j]?=some s'∧s'.isOwn=true:=fun j s e o=>by
   by_cases hj:i=j
   ·subst hj;exact ⟨_,ei,rfl⟩
   ·rw [qAy hj] at e;exact ⟨s,e,o⟩
  obtain ⟨s',e1',o1'⟩:=back j s e1 o1
  obtain ⟨t',e2',o2'⟩:=back k t e2 o2
  exact r.ne j k s' t' b hjk e1' e2' o1' o2' z1 z2
end
section
variable {X:Cx}{Ew:XW}{Wr Wr':List Nat}{st:Stmt}{sts:List Stmt}{e c:Expr}{es:List Expr}{pos p' apos:Pos}{g:qAj→Rs W}{h k:qAj→Rs Fl}
def asg (i:Nat)(δ:qAj):W→Rs Fl
 | .im d=>.ok (.nx (δ.set i (.im d)))
 | .li true ds=>.ok (.nx (δ.set i (.own ds)))
 | .li false _=>.no
theorem qH4 {σ:L2.St}{i:Nat}{v:Option V}:∀ j,j∉[i]→(σ.set i v)[j]?=σ[j]?:=fun j hj=>List.getElem?_set_ne fun z=>hj (by simp [z])
theorem qbw {K:PySem.W.Frag}{B0 F0 P B H B1 H1:Hp}{σ:L2.St}{δ:qAj}{D:Ends}{i:Nat}{w:W}{v:V}(r:R K B0 F0 P B H σ δ)(g1:Grow B H B1 H1)(hw:IsW K B1 H H1 w v)
  (p:qB3 K Ew B0 F0 P [i] σ (asg i δ w) D):D.nx (σ.set i (some v)) H1:=by
 cases w with
 | im d=>exact p B1 H1 _ ((r.grow g1).im hw) qH4
 | li f ds=>
  cases f with
  | false=>exact False.elim p
  | true=>
   obtain ⟨a,vs,rfl,e2,e3,e4,e5⟩:=hw
   exact p B1 H1 _ (r.own g1 e2 e3 e4 e5) qH4
theorem qA0 (i:Nat){x:Str}(hN:X.N.Nodup)(he:PX X Ew e g)(hi:X.N[i]?=some x:=by rfl)(hx:Loc X.env.scope x:=by first | exact Or.inl rfl | exact Or.inr rfl)(hs:swapsWith e (some (.Name x p')) pos.line X.env=pure false:=by rfl)
  (hf:X.fn x=true∨X.env.scope.names.lookup x=some .local:=by first | exact .inl rfl | exact .inr rfl | assumption) :
  PSX X Ew [i] (.Assign [.Name x p'] e pos) (fun δ=>g δ>>=asg i δ):=by
 obtain ⟨te,h1,h2⟩:=he
 exact ⟨_,qK2 hN hi hx h1 hs hf,fun B0 F0 P B H σ δ D r p=>h2 B0 F0 P B H σ δ _ r ((qB3.bind r p).mono fun w B1 H1 g1 p1 v hw=>qbw r g1 hw p1)⟩
def qKr (i:Nat)(gd:qAj→Rs D)(δ:qAj):Rs Fl:=match δ[i]? with
 | some (.own ds)=>gd δ>>=fun d=>if ds.length < lim then .ok (.nx (δ.set i (.own (ds++[d])))) else .no
 | _=>.no
theorem qCf (i:Nat){x:Str}{cpos spos:Pos}{gd:qAj→Rs D}(he:PXd X Ew e gd)(hN:X.N[i]?=some x:=by rfl)(hv:Vis X.env.scope x:=by first | exact Or.inl rfl | exact Or.inr (Or.inl rfl) | exact Or.inr (Or.inr rfl))
  (hd:#[17]=false:=by decide) (hcd:#[33]=false:=by decide)
  (hbase:attributeBase (.Name x p') "append" X.env (eval (.Name x p') X.env)=eval (.Name x p') X.env:=by rfl)
  (hfew:((backTo cpos (starEach [e] X.env)).all (fun x=>!x.1) && #[55].all (fun x=>x.1.isSome)
   && decide #[59])=true:=by rfl)
  (hline:(apos.endLine == cpos.line)=true:=by rfl) (hst:starEach [e] X.env=#[22]::starEach [] X.env:=by rfl) (hplain:(backTo cpos #[26]).any (·.1)=false:=by rfl)
  (hsw:swapsWith (.Call (.Attribute (.Name x p') "append" apos) [e] [] cpos) none spos.line X.env=pure false:=by rfl) :
  PSX X Ew [] (.Expr (.Call (.Attribute (.Name x p') "append" apos) [e] [] cpos) spos) (qKr i gd):=by
 obtain ⟨te,h1,h2⟩:=he
 refine ⟨_,qVr (qVy PySem.F.plainAttrs_list PySem.F.slot_list_append PySem.F.type_list_append qOl (qCb hN hv hd hcd) (qBx h1 qCx hst) hbase hfew hline hst hplain) hsw,fun B0 F0 P B H σ δ D r p=>?_⟩
 unfold qKr at p
 split at p
 ·rename_i ds ei
  obtain ⟨a,vs,e1,e2,e3,e4,e5,e6⟩:=r.sl i _ ei
  refine ⟨_,e1,.inl ⟨rfl,vs,SqL.of e5⟩,h2 B0 F0 P B H σ δ _ r ((qB3.bind r p).mono fun d B1 H1 g1 p1 v hd=>?_)⟩
  split at p1
  ·rename_i hl
   have l1:=e6.len
   refine ⟨a,vs,v,rfl,rfl,g1.sh _ _ e5,by rw [qDv];omega,?_⟩
   have r1:=(r.grow g1).put (ds:=ds) (es:=ds++[d]) (vs:=vs) (us:=vs++[v]) ei e1 ((IsDs.mono g1.sb _ _ e6).app (.one hd))
   exact p1 B1 _ σ r1 fun _ _=>rfl
  ·exact p1.elim
 ·exact p.elim
def qXo (i:Nat)(g:qAj→Rs W)(δ:qAj):Rs Fl:=match δ[i]? with
 | some (.own ds)=>g δ>>=fun w=>match w with
  | .li true zs=>if ds.length + zs.length≤lim then .ok (.nx (δ.set i (.own (ds++zs)))) else .no
  | _=>.no
 | _=>.no
theorem qE5 (i:Nat){x:Str}{cpos spos:Pos}(he:PX X Ew e g)(hN:X.N[i]?=some x:=by rfl)(hv:Vis X.env.scope x:=by first | exact Or.inl rfl | exact Or.inr (Or.inl rfl) | exact Or.inr (Or.inr rfl))
  (hd:#[17]=false:=by decide) (hcd:#[33]=false:=by decide)
  (hbase:attributeBase (.Name x p') "extend" X.env (eval (.Name x p') X.env)=eval (.Name x p') X.env:=by rfl)
  (hfew:((backTo cpos (starEach [e] X.env)).all (fun x=>!x.1) && #[55].all (fun x=>x.1.isSome)
   && decide #[59])=true:=by rfl)
  (hline:(apos.endLine == cpos.line)=true:=by rfl) (hst:starEach [e] X.env=#[22]::starEach [] X.env:=by rfl) (hplain:(backTo cpos #[26]).any (·.1)=false:=by rfl)
  (hsw:swapsWith (.Call (.Attribute (.Name x p') "extend" apos) [e] [] cpos) none spos.line X.env=pure false:=by rfl) :
  PSX X Ew [] (.Expr (.Call (.Attribute (.Name x p') "extend" apos) [e] [] cpos) spos) (qXo i g):=by
 obtain ⟨te,h1,h2⟩:=he
 refine ⟨_,qVr (qVy PySem.F.plainAttrs_list PySem.F.slot_list_extend PySem.F.type_list_extend qWc (qCb hN hv hd hcd) (qBx h1 qCx hst) hbase hfew hline hst hplain) hsw,fun B0 F0 P B H σ δ D r p=>?_⟩
 unfold qXo at p
 split at p
 ·rename_i ds ei
  obtain ⟨a,vs,e1,e2,e3,e4,e5,e6⟩:=r.sl i _ ei
  refine ⟨_,e1,.inl ⟨rfl,vs,SqL.of e5⟩,h2 B0 F0 P B H σ δ _ r ((qB3.bind r p).mono fun w B1 H1 g1 p1 v hw=>?_)⟩
  split at p1
  ·rename_i zs
   split at p1
   ·rename_i hl
    obtain ⟨b,us,rfl,q2,q3,q4,q5⟩:=hw
    have l1:=e6.len
    have l2:=q5.len
    refine ⟨a,b,vs,us,rfl,rfl,g1.sh _ _ e5,q4,by rw [qDv];omega,?_⟩
    have r1:=(r.grow g1).put (ds:=ds) (es:=ds++zs) (vs:=vs) (us:=vs++us) ei e1 ((IsDs.mono g1.sb _ _ e6).app q5)
    exact p1 B1 _ σ r1 fun _ _=>rfl
   ·exact p1.elim
  ·exact p1.elim
 ·exact p.elim
def PXg (X:Cx)(Wr:List Nat)(tg:Expr)(t:D→qAj→Rs qAj):Prop:=
 ∃ tt:TG,PG X tg tt∧∀ (B0 F0 P B H:Hp) (σ:L2.St) (δ δ':qAj) (d:D) (v:V) (Q:L2.St→Hp→Prop),R X.K B0 F0 P B H σ δ→IsD X.K B d v→t d δ=.ok δ'→
  (∀ σ',R X.K B0 F0 P B H σ' δ'→(∀ i,i∉Wr→σ'[i]?=σ[i]?)→Q σ' H)→tt v σ H Q
def PXgs (X:Cx)(Wr:List Nat)(tgs:List Expr)(t:List D→qAj→Rs qAj):Prop:=
 ∃ tt:TGs,PGs X tgs tt∧∀ (B0 F0 P B H:Hp) (σ:L2.St) (δ δ':qAj) (ds:List D) (vs:List V) (Q:L2.St→Hp→Prop),R X.K B0 F0 P B H σ δ→IsDs X.K B ds vs→t ds δ=.ok δ'→
  (∀ σ',R X.K B0 F0 P B H σ' δ'→(∀ i,i∉Wr→σ'[i]?=σ[i]?)→Q σ' H)→tt vs σ H Q
def qFb (i:Nat):D→qAj→Rs qAj:=fun d δ=>.ok (δ.set i (.im d))
theorem qBv (i:Nat){x:Str}(hN:X.N.Nodup)(hi:X.N[i]?=some x:=by rfl)(hx:Loc X.env.scope x:=by first | exact Or.inl rfl | exact Or.inr rfl)
  (hf:X.fn x=true∨X.env.scope.names.lookup x=some .local:=by first | exact .inl rfl | exact .inr rfl | assumption):PXg X [i] (.Name x pos) (qFb i):=by
 refine ⟨_,qc4 hN hi hx hf,fun B0 F0 P B H σ δ δ' d v Q r hd e k=>?_⟩
 cases e
 exact k _ (r.im hd) qH4
theorem qGf:PXgs X [] [] (fun ds δ=>match ds with | []=>.ok δ | _=>.no):=by
 refine ⟨_,qc3,fun B0 F0 P B H σ δ δ' ds vs Q r hd e k=>?_⟩
 cases ds with
 | nil=>
  cases e
  exact ⟨hd,k σ r fun _ _=>rfl⟩
 | cons _ _=>cases e
def qIh (t:D→qAj→Rs qAj)(u:List D→qAj→Rs qAj):List D→qAj→Rs qAj:=fun ds δ=>match ds with
 | d::r=>t d δ>>=u r
 | []=>.no
theorem qCl {tg:Expr}{tgs:List Expr}{t:D→qAj→Rs qAj}{u:List D→qAj→Rs qAj}(h1:PXg X Wr tg t)(h2:PXgs X Wr' tgs u)
  (hs:(assignEach (tg::tgs) X.env).map (·.2)=assign tg X.env::(assignEach tgs X.env).map (·.2):=by rfl):PXgs X (Wr++Wr') (tg::tgs) (qIh t u):=by
 obtain ⟨tt,a1,a2⟩:=h1
 obtain ⟨tu,b1,b2⟩:=h2
 refine ⟨_,qZl a1 b1 hs,fun B0 F0 P B H σ δ δ' ds vs Q r hd e k=>?_⟩
 cases ds with
 | nil=>cases e
 | cons d ds=>
  obtain ⟨v,rr,rfl,q2,q3⟩:=hd
  have e':(t d δ>>=u ds)=.ok δ':=e
  cases z:t d δ with
  | no=>rw [z] at e';cases e'
  | ex x=>rw [z] at e';cases e'
  | ok δ1=>
   rw [z] at e'
   refine ⟨v,rr,rfl,a2 B0 F0 P B H σ δ δ1 d v _ r q2 z fun σ1 r1 f1=>?_⟩
   exact b2 B0 F0 P B H σ1 δ1 δ' ds rr Q r1 q3 e' fun σ2 r2 f2=>k σ2 r2 fun i hi=>(f2 i fun z=>hi (List.mem_append_right _ z)).trans (f1 i fun z=>hi (List.mem_append_left _ z))
def qa6 (t:List D→qAj→Rs qAj)(n:Nat):D→qAj→Rs qAj:=fun d δ=>match d with
 | .tup ds=>if ds.length=n then t ds δ else .no
 | _=>.no
end
open PySem PySem.Spec PyProof.Rows L2
section
variable {X:Cx}{Ew:XW}{Wr Wr':List Nat}{st:Stmt}{sts:List Stmt}{e c:Expr}{es:List Expr}{pos p' apos:Pos}{g:qAj→Rs W}{h k:qAj→Rs Fl}
theorem qJg {tgs:List Expr}{k:Nat}{t:List D→qAj→Rs qAj}(n:Nat)(hc:X.calm=true)(h:PXgs X Wr tgs t)(hn:(assignEach tgs X.env).length=n:=by rfl)(hst:(assignEach tgs X.env).findIdx? (·.1)=none:=by rfl) :
  PXg X Wr (.Tuple tgs k pos) (qa6 t n):=by
 obtain ⟨tt,a1,a2⟩:=h
 refine ⟨_,pg_tup hc a1 hn hst,fun B0 F0 P B H σ δ δ' d v Q r hd e k=>?_⟩
 unfold qa6 at e
 split at e
 ·rename_i ds
  split at e
  ·rename_i hl
   obtain ⟨a,vs,rfl,e2,e3⟩:=hd
   exact ⟨a,vs,rfl,qA5.tp r.bh e2,by rw [←e3.len];exact hl,a2 B0 F0 P B H σ δ δ' ds vs Q r e3 e k⟩
  ·cases e
 ·cases e
end
structure IterOf (K:PySem.W.Frag) (B:Hp) (J:It) (ds:List D) (Pn:Hp):Prop where
 go:∀ (i:Nat) (d:D) (B2 H2:Hp),ds[i]?=some d→qA5 B B2→qA5 Pn H2→qA5 B2 H2→J.go i H2∧∀ x H3,J.yld i H2 x H3→∃ B3,Grow B2 H2 B3 H3∧IsD K B3 d x
 stop:∀ (B2 H2:Hp),qA5 B B2→qA5 Pn H2→qA5 B2 H2→J.stop ds.length H2
def qby (σ:L2.St)(δ:qAj)(Pn:Hp):Prop:=∀ (i:Nat) (s:Sl) (a:Addr),δ[i]?=some s→s.isOwn=true→σ[i]?=some #[25]→Pn a=none
def PXi (X:Cx)(Ew:XW)(tg iter:Expr)(gi:qAj→Rs (List D)):Prop:=
 ∃ wi:TI,PI X tg iter wi∧∀ (B0 F0 P B H:Hp) (σ:L2.St) (δ:qAj) (R':It→Hp→Prop),R X.K B0 F0 P B H σ δ→
  Pst Ew B H (fun ds B' H'=>∀ J Pn,IterOf X.K B' J ds Pn→qA5 Pn H'→qby σ δ Pn→R' J H') (gi δ)→wi σ H R'
def PXc (X:Cx)(Ew:XW)(tg iter:Expr)(gi:qAj→Rs (List D)):Prop:=
 ∃ wi:TI,PI X tg iter wi∧∀ (B0 F0 P B H:Hp) (σ:L2.St) (δ:qAj) (R':It→Hp→Prop),R X.K B0 F0 P B H σ δ→
  Pst Ew B H (fun ds B' H'=>∀ J Pn,IterOf X.K B' J ds Pn→qA5 Pn H'→R' J H') (gi δ)→wi σ H R'
def qDh:Hp:=fun _=>none
theorem qCg {H:Hp}:qA5 qDh H:=fun b o e=>by cases (show (none:Option HO)=some o from e)
def qGj (a:Addr)(o:HO):Hp:=upd qDh a o
theorem qJo {a:Addr}{o:HO}:qGj a o a=some o:=qAu
theorem qJn {H:Hp}{a:Addr}{o:HO}(h:H a=some o):qA5 (qGj a o) H:=fun b u e=>by
 by_cases hb:b=a
 ·subst hb;rw [qJo] at e;cases e;exact h
 ·unfold qGj at e;rw [qAo hb] at e;cases (show (none:Option HO)=some u from e)
theorem qOi {a b:Addr}{o:HO}(h:b≠a):qGj a o b=none:=by unfold qGj;rw [qAo h];rfl
section
variable {K:PySem.W.Frag}{B:Hp}
theorem qWv {a:Addr}{vs:List V}{ds:List D}{Pn:Hp}(hq:∀ B2 H2,qA5 B B2→qA5 Pn H2→qA5 B2 H2→SqL K H2 a vs)(hd:IsDs K B ds vs):IterOf K B (Itl K a) ds Pn where
 go:=fun i d B2 H2 e s1 s2 s3=>by
  obtain ⟨v,ev,iv⟩:=hd.get e
  refine ⟨⟨vs,v,hq B2 H2 s1 s2 s3,ev⟩,fun x H3 ⟨e3,y⟩=>?_⟩
  subst e3
  have:=y vs (hq B2 _ s1 s2 s3)
  rw [ev] at this
  cases this
  exact ⟨B2,Grow.refl s3,IsD.mono s1 d _ iv⟩
 stop:=fun B2 H2 s1 s2 s3=>⟨vs,hq B2 H2 s1 s2 s3,by rw [hd.len];exact Nat.le_refl _⟩
theorem qZ8 {a:Addr}{vs:List V}{ds:List D}{Pn:Hp}(hq:∀ B2 H2,qA5 B B2→qA5 Pn H2→qA5 B2 H2→SqT K H2 a vs)(hd:IsDs K B ds vs):IterOf K B (Itt K a) ds Pn where
 go:=fun i d B2 H2 e s1 s2 s3=>by
  obtain ⟨v,ev,iv⟩:=hd.get e
  refine ⟨⟨vs,v,hq B2 H2 s1 s2 s3,ev⟩,fun x H3 ⟨e3,y⟩=>?_⟩
  subst e3
  have:=y vs (hq B2 _ s1 s2 s3)
  rw [ev] at this
  cases this
  exact ⟨B2,Grow.refl s3,IsD.mono s1 d _ iv⟩
 stop:=fun B2 H2 s1 s2 s3=>⟨vs,hq B2 H2 s1 s2 s3,by rw [hd.len];exact Nat.le_refl _⟩
def qCv (n:Nat):List D:=(List.range n).map fun (i:Nat)=>D.int (i:Int)
theorem qLe {n:Nat}:IterOf K B (Itr 0 n) (qCv n) qDh where
 go:=fun i d B2 H2 e s1 s2 s3=>by
  unfold qCv at e
  rw [List.getElem?_map] at e
  have hi:i < n:=by
   cases q:(List.range n)[i]? with
   | none=>rw [q] at e;cases e
   | some j=>
    have:=(List.getElem?_eq_some_iff.mp q).1
    simpa using this
  rw [List.getElem?_range hi] at e
  cases e
  refine ⟨hi,fun x H3 ⟨e3,y⟩=>?_⟩
  subst e3 y
  exact ⟨B2,Grow.refl s3,by simp [IsD]⟩
 stop:=fun B2 H2 s1 s2 s3=>by
  show n≤(qCv n).length
  unfold qCv
  simp
end
section
variable {X:Cx}{Ew:XW}{Wr Wr':List Nat}{tg iter e c:Expr}{es:List Expr}{body:List Stmt}{pos p:Pos}{g:qAj→Rs W}{h:qAj→Rs Fl}
def qKe (K:PySem.W.Frag)(B H:Hp)(σ:L2.St)(δ:qAj)(ds:List D)(v:V)(fr:Bool):Prop:=
 ∃ a vs Pn,v=.ref a∧IsDs K B ds vs∧qA5 Pn H∧(fr=true→qby σ δ Pn)∧
  ((SqL K H a vs∧∀ B2 H2,qA5 B B2→qA5 Pn H2→qA5 B2 H2→SqL K H2 a vs)∨(SqT K H a vs∧∀ B2 H2,qA5 B B2→qA5 Pn H2→qA5 B2 H2→SqT K H2 a vs))
def qb7 (z:Str):List D:=z.cps.toList.map fun c=>D.str ⟨#[c]⟩
theorem qZ9 {K:PySem.W.Frag}{B:Hp}{z:Str}:IterOf K B (Its z) (qb7 z) qDh where
 go:=fun i d B2 H2 e s1 s2 s3=>by
  unfold qb7 at e
  rw [List.getElem?_map] at e
  cases q:z.cps.toList[i]? with
  | none=>rw [q] at e;cases e
  | some c=>
   rw [q] at e
   cases e
   have q':z.cps[i]?=some c:=by simpa using q
   refine ⟨(Array.getElem?_eq_some_iff.mp q').1,fun x H3 ⟨e3,c',y1,y2⟩=>?_⟩
   subst e3
   rw [q'] at y1
   cases y1
   subst y2
   exact ⟨B2,Grow.refl s3,by simp [IsD]⟩
 stop:=fun B2 H2 s1 s2 s3=>by
  show (qb7 z).length=z.cps.size
  unfold qb7
  simp
def W.walk:W→Rs (List D):=fun w=>match w.items with
 | some (_,ds)=>.ok ds
 | none=>match w with
  | .im (.str z)=>.ok (qb7 z)
  | _=>.no
theorem qNk {K:PySem.W.Frag}{B H:Hp}{σ:L2.St}{δ:qAj}{d:D}{ds:List D}{v:V}{k:Bool}{fr:Bool}(hs:qA5 B H)(hd:IsD K B d v)(e:(W.im d).items=some (k,ds)):qKe K B H σ δ ds v fr:=by
 cases d with
 | lst es=>
  cases e
  obtain ⟨a,vs,rfl,e2,e3⟩:=hd
  exact ⟨a,vs,qDh,rfl,e3,qCg,fun _ _ _ _ _ _ _=>rfl,.inl ⟨hs.seq e2,fun B2 H2 s1 _ s3=>s3.seq (s1.seq e2)⟩⟩
 | tup es=>
  cases e
  obtain ⟨a,vs,rfl,e2,e3⟩:=hd
  exact ⟨a,vs,qDh,rfl,e3,qCg,fun _ _ _ _ _ _ _=>rfl,.inr ⟨qA5.tp hs e2,fun B2 H2 s1 _ s3=>qA5.sqT s3 (qA5.tp s1 e2)⟩⟩
 | _=>cases e
theorem qUs {K:PySem.W.Frag}{B H:Hp}{σ:L2.St}{δ:qAj}{ds:List D}{a:Addr}{vs:List V}{fr:Bool}(hr:Rd H a (.lst vs))(hd:IsDs K B ds vs)(hf:∀ o,H a=some o→fr=true→qby σ δ (qGj a o)):qKe K B H σ δ ds (.ref a) fr:=by
 rcases hr with e | ⟨o,e⟩
 ·exact ⟨a,vs,qGj a (.lst vs),rfl,hd,qJn e,hf _ e,.inl ⟨SqL.of e,fun B2 H2 _ s2 _=>SqL.of (s2 a _ qJo)⟩⟩
 ·exact ⟨a,vs,qGj a (.frz o (.lst vs)),rfl,hd,qJn e,hf _ e,.inl ⟨.inl (.inr ⟨o,e⟩),fun B2 H2 _ s2 _=>.inl (.inr ⟨o,s2 a _ qJo⟩)⟩⟩
theorem qb9 {K:PySem.W.Frag}{B H:Hp}{σ:L2.St}{δ:qAj}{w:W}{ds:List D}{v:V}{k:Bool}(hs:qA5 B H)(hw:Rdw K B H w v)(e:w.items=some (k,ds)):qKe K B H σ δ ds v false:=by
 cases w with
 | li f es=>
  cases e
  obtain ⟨a,vs,rfl,e2,e3⟩:=hw
  exact qUs e2 e3 fun _ _ z=>by cases z
 | im d=>exact qNk hs hw e
theorem qP8 {B H:Hp}{σ:L2.St}{δ:qAj}{ds:List D}{v:V}{fr:Bool}{R':It→Hp→Prop}(h:qKe X.K B H σ δ ds v fr)(q:∀ J Pn,IterOf X.K B J ds Pn→qA5 Pn H→(fr=true→qby σ δ Pn)→R' J H) :
  ∃ a,v=.ref a∧(((∃ xs,SqL X.K H a xs)∧R' (Itl X.K a) H)∨((∃ xs,SqT X.K H a xs)∧R' (Itt X.K a) H)):=by
 obtain ⟨a,vs,Pn,e1,e2,e3,e4,e5⟩:=h
 refine ⟨a,e1,?_⟩
 rcases e5 with ⟨h1,h2⟩ | ⟨h1,h2⟩
 ·exact .inl ⟨⟨vs,h1⟩,q _ Pn (qWv h2 e2) e3 e4⟩
 ·exact .inr ⟨⟨vs,h1⟩,q _ Pn (qZ8 h2 e2) e3 e4⟩
theorem qDg (he:PX X Ew e g):PXc X Ew tg e (fun δ=>g δ>>=W.walk):=by
 obtain ⟨te,h1,h2⟩:=he
 refine ⟨_,qVw h1,fun B0 F0 P B H σ δ R' r p=>h2 B0 F0 P B H σ δ _ r #[45]⟩
 unfold W.walk at p1
 split at p1
 ·rename_i k ds ek
  exact .inl (qP8 (qb9 (σ:=σ) (δ:=δ) g1.bh hw.rd ek) fun J Pn hJ hP _=>p1 B1 H1 #[32] J Pn hJ hP)
 ·split at p1
  ·rename_i z _
   exact .inr ⟨z,hw,p1 B1 H1 #[32] _ qDh qZ9 qCg⟩
  ·exact p1.elim
def W.walkN:W→Rs (List D)
 | .li true ds=>.ok ds
 | .im (.lst ds)=>.ok ds
 | .im (.tup ds)=>.ok ds
 | _=>.no
theorem qEc {K:PySem.W.Frag}{B0 F0 P B H:Hp}{σ:L2.St}{δ:qAj}(r:R K B0 F0 P B H σ δ){i:Nat}{s:Sl}{a:Addr}(e:δ[i]?=some s)(o:s.isOwn=true)(z:σ[i]?=some #[25]):F0 a=none∧P a=none∧B a=none∧∃ u,H a=some u:=by
 cases s with
 | own ds=>
  obtain ⟨c,vs,e1,e2,e3,e4,e5,e6⟩:=r.sl i _ e
  rw [z] at e1
  cases e1
  exact ⟨e2,e3,e4,_,e5⟩
 | dct ks=>
  obtain ⟨c,vs,e1,e2,e3,e4,e5,e6⟩:=r.sl i _ e
  rw [z] at e1
  cases e1
  exact ⟨e2,e3,e4,_,e5⟩
 | dtt ks=>
  obtain ⟨c,vs,e1,e2,e3,e4,e5,e6⟩:=r.sl i _ e
  rw [z] at e1
  cases e1
  exact ⟨e2,e3,e4,_,e5⟩
 | _=>cases o
theorem qb8 {B0 F0 P B H B1 H1:Hp}{σ:L2.St}{δ:qAj}{w:W}{v:V}{ds:List D}(r:R X.K B0 F0 P B H σ δ)(g1:Grow B H B1 H1)(hw:IsW X.K B1 H H1 w v)(e:w.walkN=.ok ds):qKe X.K B1 H1 σ δ ds v true:=by
 cases w with
 | li f es=>
  cases f with
  | false=>cases e
  | true=>
   cases e
   obtain ⟨a,vs,rfl,e2,e3,e4,e5⟩:=hw
   refine qUs (Rd.of e4) e5 fun o eo _ i s b q1 q2 q3=>?_
   obtain ⟨_,_,_,u,hu⟩:=qEc r q1 q2 q3
   exact qOi fun z=>by subst z;rw [e2] at hu;cases hu
 | im d=>
  cases d with
  | lst es=>cases e;exact qNk g1.bh hw rfl
  | tup es=>cases e;exact qNk g1.bh hw rfl
  | _=>cases e
theorem qP6 {w:W}{x:XD}:w.walkN≠.ex x:=by
 intro e
 cases w with
 | li f ds=>cases f <;> cases e
 | im d=>cases d <;> cases e
theorem qFr (he:PX X Ew e g):PXi X Ew tg e (fun δ=>g δ>>=W.walkN):=by
 obtain ⟨te,h1,h2⟩:=he
 refine ⟨_,qVw h1,fun B0 F0 P B H σ δ R' r p=>h2 B0 F0 P B H σ δ _ r #[45]⟩
 cases ew:w.walkN with
 | no=>rw [ew] at p1;exact p1.elim
 | ex x=>exact (qP6 ew).elim
 | ok ds=>
  rw [ew] at p1
  exact .inl (qP8 (qb8 r g1 hw ew) fun J Pn hJ hP hF=>p1 B1 H1 #[32] J Pn hJ hP (hF rfl))
def qF7 (i:Nat):qAj→Rs (List D):=fun δ=>match δ[i]? with
 | some (.rd ds)=>.ok ds
 | some (.im (.lst ds))=>.ok ds
 | some (.im (.tup ds))=>.ok ds
 | _=>.no
theorem qIx {i:Nat}{δ:qAj}{x:XD}:qF7 i δ≠.ex x:=by
 intro e
 unfold qF7 at e
 split at e <;> cases e
theorem qUr {B0 F0 P B H:Hp}{σ:L2.St}{δ:qAj}{i:Nat}{ds:List D}(r:R X.K B0 F0 P B H σ δ)(e:qF7 i δ=.ok ds):∃ v,σ[i]?=some (some v)∧qKe X.K B H σ δ ds v true:=by
 unfold qF7 at e
 split at e
 ·rename_i es ei
  cases e
  obtain ⟨a,vs,e1,e2,e3⟩:=r.sl i _ ei
  have fr:∀ o,F0 a=some o→qby σ δ (qGj a o):=fun o eo j s b q1 q2 q3=>qOi fun z=>by
   subst z
   obtain ⟨hf,_⟩:=qEc r q1 q2 q3
   rw [hf] at eo;cases eo
  refine ⟨_,e1,qUs (qA5.rdl r.fh e2) e3 fun o eo _=>?_⟩
  rcases e2 with z | ⟨ob,z⟩
  ·have:=r.fh _ _ z
   rw [eo] at this;cases this
   exact fr _ z
  ·have:=r.fh _ _ z
   rw [eo] at this;cases this
   exact fr _ z
 ·rename_i es ei
  cases e
  obtain ⟨v,e1,hd⟩:=r.sl i _ ei
  exact ⟨v,e1,qNk r.bh hd rfl⟩
 ·rename_i es ei
  cases e
  obtain ⟨v,e1,hd⟩:=r.sl i _ ei
  exact ⟨v,e1,qNk r.bh hd rfl⟩
 ·cases e
theorem qcm (i:Nat){x:Str}(hN:X.N[i]?=some x:=by rfl)(hv:Vis X.env.scope x:=by first | exact Or.inl rfl | exact Or.inr (Or.inl rfl) | exact Or.inr (Or.inr rfl))(hd:#[17]=false:=by decide)
  (hcd:#[33]=false:=by decide):PXi X Ew tg (.Name x pos) (qF7 i):=by
 refine ⟨_,qVw (qCb hN hv hd hcd),fun B0 F0 P B H σ δ R' r p=>?_⟩
 cases ew:qF7 i δ with
 | no=>rw [ew] at p;exact p.elim
 | ex x=>exact (qIx ew).elim
 | ok ds=>
  rw [ew] at p
  obtain ⟨v,e1,sr⟩:=qUr r ew
  exact ⟨v,e1,.inl (qP8 sr fun J Pn hJ hP hF=>p B H (Grow.refl r.bh) J Pn hJ hP (hF rfl))⟩
def qF4 (ds:List D):List D:=ds.zipIdx.map fun x=>D.tup [.int (x.2:Int),x.1]
def qUa (ds:List D):Rs (List D):=.ok (qF4 ds)
theorem qSs {ds:List D}{i:Nat}{d:D}(h:(qF4 ds)[i]?=some d):∃ x,ds[i]?=some x∧d=.tup [.int (i:Int),x]:=by
 unfold qF4 at h
 rw [List.getElem?_map,List.getElem?_zipIdx] at h
 cases q:ds[i]? with
 | none=>rw [q] at h;cases h
 | some x=>
  rw [q] at h
  simp at h
  exact ⟨x,rfl,h.symm⟩
theorem qTx {K:PySem.W.Frag}{B:Hp}{a:Addr}{vs:List V}{ds:List D}{Pn:Hp}(hq:∀ B2 H2,qA5 B B2→qA5 Pn H2→qA5 B2 H2→SqL K H2 a vs)(hd:IsDs K B ds vs):IterOf K B (IeL K a) (qF4 ds) Pn where
 go:=fun i d B2 H2 e s1 s2 s3=>by
  obtain ⟨x,ex,rfl⟩:=qSs e
  obtain ⟨v,ev,iv⟩:=hd.get ex
  refine ⟨⟨vs,v,hq B2 H2 s1 s2 s3,ev⟩,fun y H3 ⟨p,v',e1,e2,e3,e4⟩=>?_⟩
  have:=e3 vs (hq B2 H2 s1 s2 s3)
  rw [ev] at this
  cases this
  subst e1 e4
  have sm:qA5 B2 (upd B2 p (.tup [.int (i:Int),v])):=fun b u z=>by rw [qAo (qAm z (s3.free e2))];exact z
  exact ⟨_,Grow.newB s3 e2,p,_,rfl,qAu,.int i,[v],rfl,by simp [IsD],v,[],rfl,IsD.mono sm _ _ (IsD.mono s1 _ _ iv),rfl⟩
 stop:=fun B2 H2 s1 s2 s3=>⟨vs,hq B2 H2 s1 s2 s3,by unfold qF4;simp [hd.len]⟩
theorem qTw {K:PySem.W.Frag}{B:Hp}{a:Addr}{vs:List V}{ds:List D}{Pn:Hp}(hq:∀ B2 H2,qA5 B B2→qA5 Pn H2→qA5 B2 H2→SqT K H2 a vs)(hd:IsDs K B ds vs):IterOf K B (IeT K a) (qF4 ds) Pn where
 go:=fun i d B2 H2 e s1 s2 s3=>by
  obtain ⟨x,ex,rfl⟩:=qSs e
  obtain ⟨v,ev,iv⟩:=hd.get ex
  refine ⟨⟨vs,v,hq B2 H2 s1 s2 s3,ev⟩,fun y H3 ⟨p,v',e1,e2,e3,e4⟩=>?_⟩
  have:=e3 vs (hq B2 H2 s1 s2 s3)
  rw [ev] at this
  cases this
  subst e1 e4
  have sm:qA5 B2 (upd B2 p (.tup [.int (i:Int),v])):=fun b u z=>by rw [qAo (qAm z (s3.free e2))];exact z
  exact ⟨_,Grow.newB s3 e2,p,_,rfl,qAu,.int i,[v],rfl,by simp [IsD],v,[],rfl,IsD.mono sm _ _ (IsD.mono s1 _ _ iv),rfl⟩
 stop:=fun B2 H2 s1 s2 s3=>⟨vs,hq B2 H2 s1 s2 s3,by unfold qF4;simp [hd.len]⟩
theorem qYq {B H:Hp}{σ:L2.St}{δ:qAj}{ds:List D}{v:V}{fr:Bool}{R':It→Hp→Prop}(h:qKe X.K B H σ δ ds v fr)(q:∀ J Pn,IterOf X.K B J (qF4 ds) Pn→qA5 Pn H→(fr=true→qby σ δ Pn)→R' J H) :
  ∃ a,[v]=[V.ref a]∧(((∃ xs,SqL X.K H a xs)∧R' (IeL X.K a) H)∨((∃ xs,SqT X.K H a xs)∧R' (IeT X.K a) H)):=by
 obtain ⟨a,vs,Pn,e1,e2,e3,e4,e5⟩:=h
 refine ⟨a,by rw [e1],?_⟩
 rcases e5 with ⟨h1,h2⟩ | ⟨h1,h2⟩
 ·exact .inl ⟨⟨vs,h1⟩,q _ Pn (qTx h2 e2) e3 e4⟩
 ·exact .inr ⟨⟨vs,h1⟩,q _ Pn (qTw h2 e2) e3 e4⟩
theorem qJf {elts:List Expr}{kk:Nat}{tpos p2:Pos}(i:Nat){x:Str}(hg:Gl X "enumerate")(hm:X.mg "enumerate"=none)(hN:X.N[i]?=some x:=by rfl)(hv:Vis X.env.scope x:=by first | exact Or.inl rfl | exact Or.inr (Or.inl rfl) | exact Or.inr (Or.inr rfl))(hd:#[17]=false:=by decide)
  (hcd:#[33]=false:=by decide) (hs:starEach [.Name x p2] X.env=[(false,eval (.Name x p2) X.env)]:=by rfl) (hs2:starEach [.Name x p2] X.env=(false,eval (.Name x p2) X.env)::starEach [] X.env:=by rfl) :
  PXi X Ew (.Tuple elts kk tpos) (.Call (.Name "enumerate" p) [.Name x p2] [] pos) (fun δ=>qF7 i δ>>=qUa):=by
 refine ⟨_,qc2 hg hm (qBx (qCb hN hv hd hcd) qCx hs2) hs,fun B0 F0 P B H σ δ R' r p=>?_⟩
 have p':Pst Ew B H (fun ds B' H'=>∀ J Pn,IterOf X.K B' J ds Pn→qA5 Pn H'→qby σ δ Pn→R' J H') (qF7 i δ>>=qUa):=p
 cases ew:qF7 i δ with
 | no=>rw [ew] at p';exact p'.elim
 | ex x=>exact (qIx ew).elim
 | ok ds=>
  rw [ew] at p'
  obtain ⟨v,e1,sr⟩:=qUr r ew
  exact ⟨v,e1,qYq sr fun J Pn hJ hP hF=>p' B H (Grow.refl r.bh) J Pn hJ hP (hF rfl)⟩
def qYb:List W→Rs (List D)
 | [.im (.int j)]=>if -(2 ^ 62)≤j∧j < 2 ^ 62 then .ok (qCv j.toNat) else .no
 | _=>.no
theorem qU9 {ta:TA}{ka:qAj→Rs (List W)}(h2:∀ (B0 F0 P B H:Hp) (σ:L2.St) (δ:qAj) (Q:List V→Hp→Prop),R X.K B0 F0 P B H σ δ→qX8 X.K Ew B H (ka δ) Q→ta σ H Q)
  {B0 F0 P B H:Hp} {σ:L2.St} {δ:qAj} {R':It→Hp→Prop} {A:List D→Hp→Hp→Prop} (r:R X.K B0 F0 P B H σ δ) (p:Pst Ew B H A (ka δ>>=qYb)) (hA:∀ n B' H',A (qCv n) B' H'→R' (Itr 0 n) H'):iRng1 ta σ H R':=by
 refine h2 B0 F0 P B H σ δ _ r #[54]
 unfold qYb at p1
 split at p1
 ·rename_i j
  split at p1
  ·rename_i hj
   obtain ⟨v,rr,rfl,e2,e3⟩:=hw
   cases (show rr=[] from e3)
   exact ⟨j,by rw [show v=.int j from e2],hj.1,hj.2,hA _ B1 H1 (p1 B1 H1 #[32])⟩
  ·exact p1.elim
 ·exact p1.elim
theorem qJe {a:Expr}{ka:qAj→Rs (List W)}(hg:Gl X "range")(hm:X.mg "range"=none)(ha:PXa X Ew [a] ka)(hs:starEach [a] X.env=[(false,eval a X.env)]:=by rfl):PXi X Ew tg (.Call (.Name "range" p) [a] [] pos) (fun δ=>ka δ>>=qYb):=by
 obtain ⟨ta,h1,h2⟩:=ha
 exact ⟨_,qOc hg hm h1 hs,fun B0 F0 P B H σ δ R' r p=>qU9 h2 r p fun n B' H' q=>q _ qDh qLe qCg fun _ _ _ _ _ _=>rfl⟩
theorem qVh {a:Expr}{ka:qAj→Rs (List W)}(hg:Gl X "range")(hm:X.mg "range"=none)(ha:PXa X Ew [a] ka)(hs:starEach [a] X.env=[(false,eval a X.env)]:=by rfl):PXc X Ew tg (.Call (.Name "range" p) [a] [] pos) (fun δ=>ka δ>>=qYb):=by
 obtain ⟨ta,h1,h2⟩:=ha
 exact ⟨_,qOc hg hm h1 hs,fun B0 F0 P B H σ δ R' r p=>qU9 h2 r p fun n B' H' q=>q _ qDh qLe qCg⟩
def qFh (t:D→qAj→Rs qAj)(b:qAj→Rs Fl):List D→qAj→Rs Fl
 | [],δ=>.ok (.nx δ)
 | d::ds,δ=>match t d δ with
  | .ok δ1=>(match b δ1 with
   | .ok (.nx δ2)=>qFh t b ds δ2
   | .ok (.ct δ2)=>qFh t b ds δ2
   | .ok (.bk δ2)=>.ok (.nx δ2)
   | .ok (.rt w)=>.ok (.rt w)
   | .ok (.rl d δ2)=>.ok (.rl d δ2)
   | .no=>.no
   | .ex x=>.ex x)
  | _=>.no
def qP4 (Pn P:Hp):Hp:=fun a=>match Pn a with
 | some o=>some o
 | none=>P a
section
variable {K:PySem.W.Frag}{B0 F0 P Pn B Bs H:Hp}{σ:L2.St}{δ:qAj}
theorem R.base (r:R K B0 F0 P B H σ δ):R K B F0 P B H σ δ:=⟨qA5.refl _,fun _ _ e=>.inl e,r.fh,r.ph,r.bh,r.len,r.sl,r.ne⟩
theorem R.unbase (r:R K Bs F0 P B H σ δ)(h1:qA5 B0 Bs)(h2:∀ a o,Bs a=some o→B0 a=some o∨Nw F0 a o):R K B0 F0 P B H σ δ:=
 ⟨h1.trans r.b0,fun a o e=>(r.nw a o e).elim (fun z=>h2 a o z) .inr,r.fh,r.ph,r.bh,r.len,r.sl,r.ne⟩
theorem qel.pin {ov:Option (Option V)}{s:Sl}{P':Hp}(h:qel K F0 P B H ov s)(hp:∀ a,s.isOwn=true→ov=some #[25]→P' a=none):qel K F0 P' B H ov s:=by
 cases s with
 | own ds=>
  obtain ⟨a,vs,e1,e2,e3,e4,e5,e6⟩:=h
  exact ⟨a,vs,e1,e2,hp a rfl e1,e4,e5,e6⟩
 | dct ks=>
  obtain ⟨a,vs,e1,e2,e3,e4,e5,e6⟩:=h
  exact ⟨a,vs,e1,e2,hp a rfl e1,e4,e5,e6⟩
 | dtt ks=>
  obtain ⟨a,vs,e1,e2,e3,e4,e5,e6⟩:=h
  exact ⟨a,vs,e1,e2,hp a rfl e1,e4,e5,e6⟩
 | _=>exact h
theorem R.pin (r:R K B0 F0 P B H σ δ)(hs:qA5 Pn H)(hf:qby σ δ Pn):R K B0 F0 (qP4 Pn P) B H σ δ where
 b0:=r.b0
 nw:=r.nw
 fh:=r.fh
 ph:=fun a o e=>by
  unfold qP4 at e
  split at e
  ·rename_i o' q
   cases e
   exact hs a _ q
  ·exact r.ph a o e
 bh:=r.bh
 len:=r.len
 sl:=fun i s e=>(r.sl i s e).pin fun a o z=>by
  unfold qP4
  rw [hf i s a e o z]
  exact (qEc r e o z).2.1
 ne:=r.ne
theorem R.unpin (r:R K B0 F0 (qP4 Pn P) B H σ δ)(hP:qA5 P (qP4 Pn P)):R K B0 F0 P B H σ δ where
 b0:=r.b0
 nw:=r.nw
 fh:=r.fh
 ph:=hP.trans r.ph
 bh:=r.bh
 len:=r.len
 sl:=fun i s e=>(r.sl i s e).pin fun a o z=>by
  have:=(qEc r e o z).2.1
  unfold qP4 at this
  split at this
  ·cases this
  ·exact this
 ne:=r.ne
end
theorem qWt {Pn P H:Hp}(h:qA5 (qP4 Pn P) H):qA5 Pn H:=fun a o e=>h a o (by unfold qP4;rw [e])
theorem join_p {Pn P H:Hp}(h1:qA5 Pn H)(h2:qA5 P H):qA5 P (qP4 Pn P):=fun a o e=>by
 unfold qP4
 split
 ·rename_i o' q
  have z1:=h1 a _ q
  have z2:=h2 a _ e
  rw [z1] at z2
  exact z2
 ·exact e
theorem qCs {gi:qAj→Rs (List D)}{t:D→qAj→Rs qAj}(hp:PassesOwn #[9] X.A X.env X.xe)(hc:X.calm=true)(hi:PXi X Ew tg iter gi)(hg:PXg X Wr tg t)(hb:qP0 X Ew Wr' body h)
  (hs:∀ x,foldedSetIterable iter X.env x=pure x:=by intro _;rfl):PSX X Ew (Wr++Wr') (.For tg iter body [] pos) (fun δ=>gi δ>>=fun ds=>qFh t h ds δ):=by
 obtain ⟨wi,i1,i2⟩:=hi
 obtain ⟨tt,g1,g2⟩:=hg
 obtain ⟨tb,b1,b2⟩:=hb
 refine ⟨_,ps_for hp hc i1 g1 b1 hs,fun B0 F0 P B H σ δ D r p=>i2 B0 F0 P B H σ δ _ r ((qB3.bind r p).mono fun ds Bs Hs gs ps J Pn hJ hPn hfree=>?_)⟩
 have rs:=r.grow gs
 have hcomp:qA5 P (qP4 Pn P):=join_p hPn rs.ph
 have out:∀ {B' H':Hp} {σ':L2.St} {δ':qAj},R X.K Bs F0 (qP4 Pn P) B' H' σ' δ'→R X.K B0 F0 P B' H' σ' δ':=fun r'=>(r'.unpin hcomp).unbase rs.b0 rs.nw
 refine ⟨fun i m σ' H'=>m + i=ds.length∧∃ B' δ',R X.K Bs F0 (qP4 Pn P) B' H' σ' δ'∧(∀ j,j∉Wr++Wr'→σ'[j]?=σ[j]?)∧qB3 X.K Ew B0 F0 P (Wr++Wr') σ (qFh t h (ds.drop i) δ') D,
  ⟨ds.length,rfl,Bs,δ,(rs.base.pin hPn hfree),fun _ _=>rfl,ps⟩,?_⟩
 rintro i m σ1 H1 ⟨hm,B1,δ1,r1,fr1,p1⟩
 by_cases hlt:i < ds.length
 ·have ed:ds[i]?=some ds[i]:=List.getElem?_eq_getElem hlt
  rw [List.drop_eq_getElem_cons hlt] at p1
  obtain ⟨go,yld⟩:=hJ.go i ds[i] B1 H1 ed r1.b0 (qWt r1.ph) r1.bh
  refine .inr ⟨go,fun σ' H'=>∃ B' δ',R X.K Bs F0 (qP4 Pn P) B' H' σ' δ'∧(∀ j,j∉Wr++Wr'→σ'[j]?=σ[j]?)∧qB3 X.K Ew B0 F0 P (Wr++Wr') σ (qFh t h (ds.drop (i + 1)) δ') D,
   fun σ' H' ⟨B',δ',q1,q2,q3⟩=>⟨m - 1,by omega,by omega,B',δ',q1,q2,q3⟩,fun x H2 y=>?_⟩
  obtain ⟨B2,gr2,d2⟩:=yld x H2 y
  have r2:=r1.grow gr2
  have p1':qB3 X.K Ew B0 F0 P (Wr++Wr') σ (match t ds[i] δ1 with
   | .ok δ1=>(match h δ1 with
    | .ok (.nx δ2)=>qFh t h (ds.drop (i + 1)) δ2
    | .ok (.ct δ2)=>qFh t h (ds.drop (i + 1)) δ2
    | .ok (.bk δ2)=>.ok (.nx δ2)
    | .ok (.rt w)=>.ok (.rt w)
    | .ok (.rl d δ2)=>.ok (.rl d δ2)
    | .no=>.no
    | .ex x=>.ex x)
   | _=>.no) D:=p1
  cases et:t ds[i] δ1 with
  | no=>rw [et] at p1';exact p1'.elim
  | ex x=>rw [et] at p1';exact p1'.elim
  | ok δ2=>
   rw [et] at p1'
   refine g2 Bs F0 (qP4 Pn P) B2 H2 σ1 δ1 δ2 ds[i] x _ r2 d2 et fun σ3 r3 f3=>?_
   have fr3:∀ j,j∉Wr++Wr'→σ3[j]?=σ[j]?:=fun j hj=>(f3 j fun z=>hj (List.mem_append_left _ z)).trans (fr1 j hj)
   refine b2 Bs F0 (qP4 Pn P) B2 H2 σ3 δ2 _ r3 ?_
   have p2:qB3 X.K Ew B0 F0 P (Wr++Wr') σ (match h δ2 with
    | .ok (.nx δ2)=>qFh t h (ds.drop (i + 1)) δ2
    | .ok (.ct δ2)=>qFh t h (ds.drop (i + 1)) δ2
    | .ok (.bk δ2)=>.ok (.nx δ2)
    | .ok (.rt w)=>.ok (.rt w)
    | .ok (.rl d δ2)=>.ok (.rl d δ2)
    | .no=>.no
    | .ex x=>.ex x) D:=p1'
   cases eh:h δ2 with
   | no=>rw [eh] at p2;exact p2
   | ex x=>
    rw [eh] at p2
    intro B' H' gg
    exact p2 B' H' ⟨rs.b0.trans gg.sb,gg.sh,gg.bh,fun a o e=>(gg.nw a o e).elim (fun z=>rs.nw a o z) .inr⟩
   | ok f=>
    rw [eh] at p2
    cases f with
    | nx δ4=>exact fun B' H' σ' r' f'=>⟨B',δ4,r',fun j hj=>(f' j fun z=>hj (List.mem_append_right _ z)).trans (fr3 j hj),p2⟩
    | ct δ4=>exact fun B' H' σ' r' f'=>⟨B',δ4,r',fun j hj=>(f' j fun z=>hj (List.mem_append_right _ z)).trans (fr3 j hj),p2⟩
    | bk δ4=>exact fun B' H' σ' r' f'=>p2 B' H' σ' (out r') fun j hj=>(f' j fun z=>hj (List.mem_append_right _ z)).trans (fr3 j hj)
    | rl d δ4=>exact fun v B' H' σ' r' f'=>p2 v B' H' σ' (out r') fun j hj=>(f' j fun z=>hj (List.mem_append_right _ z)).trans (fr3 j hj)
    | rt w=>exact fun v B' H' gg hw=>p2 v B' H' ⟨rs.b0.trans gg.sb,gg.sh,gg.bh,fun a o e=>(gg.nw a o e).elim (fun z=>rs.nw a o z) .inr⟩ hw
 ·have e:i=ds.length:=by omega
  subst e
  rw [List.drop_length] at p1
  exact .inl ⟨hJ.stop B1 H1 r1.b0 (qWt r1.ph) r1.bh,p1 B1 H1 σ1 (out r1) fr1⟩
def qCj (t:qAj→Rs Bool)(b:qAj→Rs Fl):Nat→qAj→Rs Fl
 | 0,_=>.no
 | n + 1,δ=>t δ>>=fun c=>if c=true then (match b δ with
  | .ok (.nx δ2)=>qCj t b n δ2
  | .ok (.ct δ2)=>qCj t b n δ2
  | .ok (.bk δ2)=>.ok (.nx δ2)
  | .ok (.rt w)=>.ok (.rt w)
  | .ok (.rl d δ2)=>.ok (.rl d δ2)
  | .no=>.no
  | .ex x=>.ex x) else .ok (.nx δ)
theorem qGg (n:Nat){t:qAj→Rs Bool}(hp:PassesOwn #[9] X.A X.env X.xe)(hc:PXt X Ew c t)(hb:qP0 X Ew Wr body h):PSX X Ew Wr (.While c body [] pos) (qCj t h n):=by
 obtain ⟨tc,c1,c2⟩:=hc
 obtain ⟨tb,b1,b2⟩:=hb
 refine ⟨_,qZh hp c1 b1,fun B0 F0 P B H σ δ D r p=>?_⟩
 refine ⟨fun m σ' H'=>∃ B' δ',R X.K B0 F0 P B' H' σ' δ'∧(∀ j,j∉Wr→σ'[j]?=σ[j]?)∧qB3 X.K Ew B0 F0 P Wr σ (qCj t h m δ') D,⟨n,B,δ,r,fun _ _=>rfl,p⟩,?_⟩
 rintro m σ1 H1 ⟨B1,δ1,r1,fr1,p1⟩
 cases m with
 | zero=>exact False.elim p1
 | succ m=>
  have p1':qB3 X.K Ew B0 F0 P Wr σ (t δ1>>=fun c=>if c=true then (match h δ1 with
   | .ok (.nx δ2)=>qCj t h m δ2
   | .ok (.ct δ2)=>qCj t h m δ2
   | .ok (.bk δ2)=>.ok (.nx δ2)
   | .ok (.rt w)=>.ok (.rt w)
   | .ok (.rl d δ2)=>.ok (.rl d δ2)
   | .no=>.no
   | .ex x=>.ex x) else .ok (.nx δ1)) D:=p1
  refine c2 B0 F0 P B1 H1 σ1 δ1 _ r1 ((qB3.bind r1 p1').mono fun b B2 H2 gr p2=>?_)
  have r2:=r1.grow gr
  cases b with
  | false=>
   rw [if_neg Bool.false_ne_true] at p2
   dsimp only
   rw [if_neg Bool.false_ne_true]
   exact p2 B2 H2 σ1 r2 fr1
  | true=>
   rw [if_pos rfl] at p2
   dsimp only
   rw [if_pos rfl]
   refine ⟨fun σ' H'=>∃ B' δ',R X.K B0 F0 P B' H' σ' δ'∧(∀ j,j∉Wr→σ'[j]?=σ[j]?)∧qB3 X.K Ew B0 F0 P Wr σ (qCj t h m δ') D,fun σ' H' q=>⟨m,Nat.lt_succ_self m,q⟩,?_⟩
   refine b2 B0 F0 P B2 H2 σ1 δ1 _ r2 ?_
   cases eh:h δ1 with
   | no=>rw [eh] at p2;exact p2
   | ex x=>rw [eh] at p2;exact p2
   | ok f=>
    rw [eh] at p2
    cases f with
    | nx δ4=>exact fun B' H' σ' r' f'=>⟨B',δ4,r',fun j hj=>(f' j hj).trans (fr1 j hj),p2⟩
    | ct δ4=>exact fun B' H' σ' r' f'=>⟨B',δ4,r',fun j hj=>(f' j hj).trans (fr1 j hj),p2⟩
    | bk δ4=>exact fun B' H' σ' r' f'=>p2 B' H' σ' r' fun j hj=>(f' j hj).trans (fr1 j hj)
    | rl d δ4=>exact fun v B' H' σ' r' f'=>p2 v B' H' σ' r' fun j hj=>(f' j hj).trans (fr1 j hj)
    | rt w=>exact p2
end
open PySem PySem.Spec PyProof.Rows L2
def teS (X:Cx)(e:Expr):TE:=fun σ H Q=>∀ pins s,Inv X pins σ H s→wpAny #[9] X.A (eval e X.env) (EP X pins σ Q) X.xe s
def ttS (X:Cx)(ifs:List Expr):TT:=fun σ H Q=>∀ pins s,Inv X pins σ H s→
 wpAny #[9] X.A (forIn ifs true fun c r=>if r=true then do let ok ←isTrue c X.env (eval c X.env);pure (ForInStep.yield ok) else pure (ForInStep.yield r)) (TP X pins σ Q) X.xe s
def PXts (X:Cx)(Ew:XW)(ifs:List Expr)(g:qAj→Rs Bool):Prop:=
 ∃ tt:TT,PTs X ifs tt∧∀ (B0 F0 P B H:Hp) (σ:L2.St) (δ:qAj) (Q:Bool→Hp→Prop),R X.K B0 F0 P B H σ δ→qX7 Ew B H (g δ) Q→tt σ H Q
theorem qDm {X:Cx}{Ew:XW}:PXts X Ew [] (fun _=>.ok true):=⟨_,qcu,fun B0 F0 P B H σ δ Q r p=>p B H (Grow.refl r.bh)⟩
theorem qIo {X:Cx}{Ew:XW}{c:Expr}{t:qAj→Rs Bool}(h:PXt X Ew c t):PXts X Ew [c] t:=let ⟨tt,h1,h2⟩:=h;⟨tt,qct h1,h2⟩
def qF5 (t:qAj→Rs Bool)(el:qAj→Rs D):List D→qAj→Rs (List D)
 | [],_=>.ok []
 | d::ds,δ=>t (.im d::δ)>>=fun b=>if b=true then el (.im d::δ)>>=fun y=>qF5 t el ds δ>>=fun r=>.ok (y::r) else qF5 t el ds δ
def qJ9 (t:qAj→Rs Bool)(el:qAj→Rs D)(ds:List D)(δ:qAj):Rs W:=if ds.length < lim then qF5 t el ds δ>>=fun r=>.ok (.li true r) else .no
section
variable {K:PySem.W.Frag}{B0 F0 P B H:Hp}{σ:L2.St}{δ:qAj}
theorem R.push (r:R K B0 F0 P B H σ δ){d:D}{v:V}(h:IsD K B d v):R K B0 F0 P B H (some v::σ) (.im d::δ) where
 b0:=r.b0
 nw:=r.nw
 fh:=r.fh
 ph:=r.ph
 bh:=r.bh
 len:=by rw [List.length_cons,List.length_cons,r.len]
 sl:=fun i s e=>by
  cases i with
  | zero=>cases e;exact ⟨v,rfl,h⟩
  | succ i=>exact r.sl i s e
 ne:=fun i j s t a hij e1 e2 o1 o2 z1 z2=>by
  cases i with
  | zero=>cases e1;cases o1
  | succ i=>
   cases j with
   | zero=>cases e2;cases o2
   | succ j=>exact r.ne i j s t a (fun z=>hij (by rw [z])) e1 e2 o1 o2 z1 z2
theorem R.side (r:R K B0 F0 P B H σ δ){l:Addr}{o:HO}(h1:F0 l=none)(h2:P l=none)(h3:B l=none)(h4:∀ (i:Nat) (s:Sl),δ[i]?=some s→s.isOwn=true→σ[i]?≠some (some (.ref l))):R K B0 F0 P B (upd H l o) σ δ:=by
 have keep:∀ {G:Hp},qA5 G H→G l=none→qA5 G (upd H l o):=fun hs hn b u e=>by
  rw [qAo (qAm e hn)];exact hs b u e
 refine ⟨r.b0,r.nw,keep r.fh h1,keep r.ph h2,keep r.bh h3,r.len,fun i s e=>?_,r.ne⟩
 have:=r.sl i s e
 cases s with
 | own ds=>
  obtain ⟨a,vs,e1,e2,e3,e4,e5,e6⟩:=this
  have hne:a≠l:=fun z=>by subst z;exact h4 i _ e rfl e1
  exact ⟨a,vs,e1,e2,e3,e4,by rw [qAo hne];exact e5,e6⟩
 | dct ks=>
  obtain ⟨a,vs,e1,e2,e3,e4,e5,e6⟩:=this
  have hne:a≠l:=fun z=>by subst z;exact h4 i _ e rfl e1
  exact ⟨a,vs,e1,e2,e3,e4,by rw [qAo hne];exact e5,e6⟩
 | dtt ks=>
  obtain ⟨a,vs,e1,e2,e3,e4,e5,e6⟩:=this
  have hne:a≠l:=fun z=>by subst z;exact h4 i _ e rfl e1
  exact ⟨a,vs,e1,e2,e3,e4,by rw [qAo hne];exact e5,e6⟩
 | _=>exact this
end
section
variable {X:Cx}{Ew:XW}{elt iter:Expr}{x y:Str}{px py:Pos}{ifs:List Expr}{scope:Scope}{pos spos:Pos}
theorem qSv {gi:qAj→Rs (List D)}{t:qAj→Rs Bool}{el:qAj→Rs D}{wi:TI}{tt:TT}{te:TE}
  (i2:∀ (B0 F0 P B H:Hp) (σ:L2.St) (δ:qAj) (R':It→Hp→Prop),R X.K B0 F0 P B H σ δ→Pst Ew B H (fun ds B' H'=>∀ J Pn,IterOf X.K B' J ds Pn→qA5 Pn H'→R' J H') (gi δ)→wi σ H R')
  (t2:∀ (B0 F0 P B H:Hp) (σ:L2.St) (δ:qAj) (Q:Bool→Hp→Prop),R X.K B0 F0 P B H σ δ→qX7 Ew B H (t δ) Q→tt σ H Q)
  (e2:∀ (B0 F0 P B H:Hp) (σ:L2.St) (δ:qAj) (Q:VK),R X.K B0 F0 P B H σ δ→qeo X.K Ew B H (el δ) Q→te σ H Q)
  (B0 F0 P B H:Hp) (σ:L2.St) (δ:qAj) (Q:VK) (r:R X.K B0 F0 P B H σ δ) (p:qF6 X.K Ew B H (gi δ>>=fun ds=>qJ9 t el ds δ) Q):qb6 wi tt te σ H Q:=by
 refine i2 B0 F0 P B H σ δ _ r ((Pst.bind p).mono fun ds B1 H1 g1 p1 J Pn hJ hPn l hl=>?_)
 have r1:=r.grow g1
 have lH:H l=none:=g1.sh.free hl
 have lB1:B1 l=none:=g1.bh.free hl
 have lF:F0 l=none:=r1.fh.free hl
 have lP:P l=none:=r1.ph.free hl
 have lPn:Pn l=none:=hPn.free hl
 have lown:∀ (i:Nat) (s:Sl),δ[i]?=some s→s.isOwn=true→σ[i]?≠some (some (.ref l)):=fun i s e o z=>by
  obtain ⟨_,_,_,u,hu⟩:=qEc r1 e o z
  rw [hl] at hu;cases hu
 have same_l:∀ {G G':Hp} {o:HO},qA5 G G'→G l=none→qA5 G (upd G' l o):=fun hs hn b u e=>by
  rw [qAo (qAm e hn)];exact hs b u e
 unfold qJ9 at p1
 by_cases hlim:ds.length < lim
 ·rw [if_pos hlim] at p1
  let Fin:List D→Rs (List D)→Prop:=fun acc r=>match r with
   | .no=>False
   | .ok qE4=>∀ B' H',Grow B1 H1 B' H'→∀ v,IsW X.K B' H H' (.li true (acc++qE4)) v→Q v H'
   | .ex x=>∀ B' H',Grow B1 H1 B' H'→Ew x B' H'
  have fin0:Fin [] (qF5 t el ds δ):=by
   cases q:qF5 t el ds δ with
   | no=>rw [q] at p1;exact p1
   | ok qE4=>rw [q] at p1;exact p1
   | ex x=>rw [q] at p1;exact p1
  refine ⟨fun i acc m H2=>m + i=ds.length∧acc.length≤i∧∃ B2 accD,Grow B1 H1 B2 H2∧R X.K B0 F0 P B2 H2 σ δ∧H2 l=some (.lst acc)∧B2 l=none∧IsDs X.K B2 accD acc∧qA5 Pn H2∧Fin accD (qF5 t el (ds.drop i) δ),
   ⟨ds.length,rfl,Nat.zero_le _,B1,[],⟨qA5.refl _,same_l (qA5.refl _) hl,same_l g1.bh lB1,fun _ _ e=>.inl e⟩,r1.side lF lP lB1 lown,qAu,lB1,rfl,same_l hPn lPn,fin0⟩,?_⟩
  rintro i acc m H2 ⟨hm,hacc,B2,accD,g2,r2,al,bl,ad,pn2,f2⟩
  by_cases hlt:i < ds.length
  ·have ed:ds[i]?=some ds[i]:=List.getElem?_eq_getElem hlt
   rw [List.drop_eq_getElem_cons hlt] at f2
   obtain ⟨go,yld⟩:=hJ.go i ds[i] B2 H2 ed g2.sb pn2 r2.bh
   refine .inr ⟨go,fun v H3 yy=>?_⟩
   obtain ⟨B3,g3,d3⟩:=yld v H3 yy
   have r3:=(r2.grow g3).push d3
   have g13:=g2.trans g3
   have f2':Fin accD (t (.im ds[i]::δ)>>=fun b=>if b=true then el (.im ds[i]::δ)>>=fun y=>qF5 t el (ds.drop (i + 1)) δ>>=fun r=>.ok (y::r) else qF5 t el (ds.drop (i + 1)) δ):=f2
   refine t2 B0 F0 P B3 H3 (some v::σ) (.im ds[i]::δ) _ r3 ?_
   cases et:t (.im ds[i]::δ) with
   | no=>rw [et] at f2';exact f2'
   | ex x=>rw [et] at f2';exact fun B' H' g'=>f2' B' H' (g13.trans g')
   | ok b=>
    rw [et] at f2'
    intro B4 H4 g4
    have g14:=g13.trans g4
    have al4:H4 l=some (.lst acc):=g4.sh _ _ (g3.sh _ _ al)
    have bl4:B4 l=none:=(g3.trans g4).free bl al
    cases b with
    | false=>
     dsimp only
     rw [if_neg Bool.false_ne_true]
     refine ⟨m - 1,by omega,by omega,by omega,B4,accD,g14,(r2.grow g3).grow g4,al4,bl4,IsDs.mono (g3.trans g4).sb _ _ ad,pn2.trans (g3.trans g4).sh,f2'⟩
    | true=>
     dsimp only
     rw [if_pos rfl]
     have f3:Fin accD (el (.im ds[i]::δ)>>=fun y=>qF5 t el (ds.drop (i + 1)) δ>>=fun r=>.ok (y::r)):=f2'
     refine e2 B0 F0 P B4 H4 (some v::σ) (.im ds[i]::δ) _ (r3.grow g4) ?_
     cases ee:el (.im ds[i]::δ) with
     | no=>rw [ee] at f3;exact f3
     | ex x=>rw [ee] at f3;exact fun B' H' g'=>f3 B' H' (g14.trans g')
     | ok yD=>
      rw [ee] at f3
      intro B5 H5 g5 yv hy
      have g25:=g3.trans (g4.trans g5)
      have al5:H5 l=some (.lst acc):=g5.sh _ _ al4
      have bl5:B5 l=none:=g5.free bl4 al4
      have r5:=((r2.grow g3).grow g4).grow g5
      have g15:=g14.trans g5
      refine ⟨al5,by rw [qDv];omega,m - 1,by omega,by omega,by rw [List.length_append,List.length_singleton];omega,B5,accD++[yD],?_,r5.side lF lP bl5 lown,qAu,bl5,(IsDs.mono g25.sb _ _ ad).app (.one hy),?_,?_⟩
      ·exact ⟨g15.sb,same_l g15.sh hl,same_l r5.bh bl5,g15.nw⟩
      ·exact same_l (pn2.trans g25.sh) lPn
      ·have f4:Fin accD (qF5 t el (ds.drop (i + 1)) δ>>=fun r=>.ok (yD::r)):=f3
       cases eq:qF5 t el (ds.drop (i + 1)) δ with
       | no=>rw [eq] at f4;exact f4
       | ex x=>rw [eq] at f4;exact f4
       | ok qE4=>
        rw [eq] at f4
        intro B' H' g' v hv
        rw [List.append_assoc] at hv
        exact f4 B' H' g' v hv
  ·have e:i=ds.length:=by omega
   subst e
   rw [List.drop_length] at f2
   have f2':∀ B' H',Grow B1 H1 B' H'→∀ v,IsW X.K B' H H' (.li true (accD++[])) v→Q v H':=f2
   refine .inl ⟨hJ.stop B2 H2 g2.sb pn2 r2.bh,f2' B2 H2 g2 (.ref l) ⟨l,acc,rfl,lH,bl,al,?_⟩⟩
   rw [List.append_nil]
   exact ad
 ·rw [if_neg hlim] at p1
  exact p1.elim
theorem qEa {gi:qAj→Rs (List D)}{t:qAj→Rs Bool}{el:qAj→Rs D}(hc:X.calm=true)(hN:X.N.Nodup)(S:CompScope X M x scope)(hi:PXc X Ew (.Name x px) iter gi)
  (ht:∀ s₀ H₀ C fp cl,PXts #[42] Ew ifs t) (he:∀ s₀ H₀ C fp cl,PXd #[42] Ew elt el)
  (hs:∀ x,foldedSetIterable iter X.env x=pure x:=by intro _;rfl):PX X Ew #[51] (fun δ=>gi δ>>=fun ds=>qJ9 t el ds δ):=by
 obtain ⟨wi,i1,i2⟩:=hi
 refine ⟨_,qc5 (tt:=fun σ H Q=>∀ s₀ H₀ C fp cl,ttS #[42] ifs σ H Q) (te:=fun σ H Q=>∀ s₀ H₀ C fp cl,teS #[42] elt σ H Q) hc hN S i1
  (fun s₀ H₀ C fp cl pins s σ H Q I h=>h s₀ H₀ C fp cl pins s I) (fun s₀ H₀ C fp cl pins s σ H Q I h=>h s₀ H₀ C fp cl pins s I) hs,qSv i2 (fun B0 F0 P B H σ δ Q r p s₀ H₀ C fp cl pins s I=>?_) (fun B0 F0 P B H σ δ Q r p s₀ H₀ C fp cl pins s I=>?_)⟩
 ·obtain ⟨tt,h1,h2⟩:=ht s₀ H₀ C fp cl
  exact h1 pins s σ H Q I (h2 B0 F0 P B H σ δ Q r p)
 ·obtain ⟨te,h1,h2⟩:=he s₀ H₀ C fp cl
  exact h1 pins s σ H Q I (h2 B0 F0 P B H σ δ Q r p)
theorem qMk (i:Nat){gi:qAj→Rs (List D)}{t:qAj→Rs Bool}{el:qAj→Rs D}(hc:X.calm=true)(hN:X.N.Nodup)(S:CompScope X M x scope)(hi:PXc X Ew (.Name x px) iter gi)
  (ht:∀ s₀ H₀ C fp cl,PXts #[42] Ew ifs t) (he:∀ s₀ H₀ C fp cl,PXd #[42] Ew elt el) (hiy:X.N[i]?=some y:=by rfl) (hy:X.env.scope.names.lookup y=some .local:=by rfl)
  (hsw:swapsWith #[51] (some (.Name y py)) spos.line X.env=pure true:=by rfl)
  (hs:∀ x,foldedSetIterable iter X.env x=pure x:=by intro _;rfl):PSX X Ew [i] (.Assign [.Name y py] #[51] spos) (fun δ=>(gi δ>>=fun ds=>qJ9 t el ds δ)>>=asg i δ):=by
 obtain ⟨wi,i1,i2⟩:=hi
 refine ⟨_,qcy (tt:=fun σ H Q=>∀ s₀ H₀ C fp cl,ttS #[42] ifs σ H Q) (te:=fun σ H Q=>∀ s₀ H₀ C fp cl,teS #[42] elt σ H Q) hc hN S i1 hiy hy
  (fun s₀ H₀ C fp cl pins s σ H Q I h=>h s₀ H₀ C fp cl pins s I) (fun s₀ H₀ C fp cl pins s σ H Q I h=>h s₀ H₀ C fp cl pins s I) hsw hs,fun B0 F0 P B H σ δ D r p=>?_⟩
 refine qSv (Ew:=Ew) (gi:=gi) (t:=t) (el:=el) i2 (fun B0 F0 P B H σ δ Q r p s₀ H₀ C fp cl pins s I=>?_) (fun B0 F0 P B H σ δ Q r p s₀ H₀ C fp cl pins s I=>?_) B0 F0 P B H σ δ _ r ((qB3.bind r p).mono fun w B1 H1 g1 p1 v hw=>qbw r g1 hw p1)
 ·obtain ⟨tt,h1,h2⟩:=ht s₀ H₀ C fp cl
  exact h1 pins s σ H Q I (h2 B0 F0 P B H σ δ Q r p)
 ·obtain ⟨te,h1,h2⟩:=he s₀ H₀ C fp cl
  exact h1 pins s σ H Q I (h2 B0 F0 P B H σ δ Q r p)
end
open PySem PySem.Spec PyProof.Rows L2
abbrev EN:XW:=fun _ _ _=>False
def spD (K:PySem.W.Frag)(n:Nat)(m:List W→Rs W):Sp:=fun vs H Q _=>∃ B ws,qA5 B H∧qPy K B H ws vs∧ws.length=n∧qF6 K EN B H (m ws) Q
theorem qPy.len {K:PySem.W.Frag}{B H:Hp}:∀ {ws:List W} {vs:List V},qPy K B H ws vs→ws.length=vs.length
 | [],vs,h=>by cases #[40];rfl
 | w::ws,vs,h=>by
  obtain ⟨v,r,e1,e2,e3⟩:=h
  subst e1
  rw [List.length_cons,List.length_cons,qPy.len e3]
def W.slot:W→Sl
 | .im d=>.im d
 | .li _ ds=>.rd ds
def frame (N:List Str)(ws:List W):qAj:=ws.map W.slot++List.replicate (N.length - ws.length) .un
def fin:Fl→Rs W
 | .nx _=>.ok (.im .non)
 | .rt w=>.ok w
 | .rl d _=>.ok (.im d)
 | .bk _=>.no
 | .ct _=>.no
def mir (N:List Str)(h:qAj→Rs Fl):List W→Rs W:=fun ws=>h (frame N ws)>>=fin
theorem qGa {K:PySem.W.Frag}{B H:Hp}{N:List Str}{ws:List W}{vs:List V}(hs:qA5 B H)(hw:qPy K B H ws vs)(hl:ws.length≤N.length):R K B H qDh B H (L2.start N vs) (frame N ws):=by
 have hlen:=hw.len
 have get:∀ {ws:List W} {vs:List V},qPy K B H ws vs→∀ (i:Nat) (w:W),ws[i]?=some w→∃ v,vs[i]?=some v∧Rdw K B H w v:=by
  intro ws
  induction ws with
  | nil=>intro vs h i w e;simp at e
  | cons w ws ih=>
   intro vs h i w' e
   obtain ⟨v,r,rfl,e2,e3⟩:=h
   cases i with
   | zero=>simp at e;subst e;exact ⟨v,rfl,e2⟩
   | succ i=>exact ih e3 i w' (by simpa using e)
 have slots:∀ (i:Nat) (s:Sl),(frame N ws)[i]?=some s→(∃ w,ws[i]?=some w∧s=w.slot)∨s=.un:=fun i s e=>by
  unfold frame at e
  by_cases hi:i < ws.length
  ·rw [List.getElem?_append_left (by simpa using hi),List.getElem?_map] at e
   cases q:ws[i]? with
   | none=>rw [q] at e;cases e
   | some w=>rw [q] at e;cases e;exact .inl ⟨w,rfl,rfl⟩
  ·rw [List.getElem?_append_right (by simpa using hi)] at e
   rw [List.getElem?_replicate] at e
   split at e
   ·cases e;exact .inr rfl
   ·cases e
 have notOwn:∀ (i:Nat) (s:Sl),(frame N ws)[i]?=some s→s.isOwn=false:=fun i s e=>by
  rcases slots i s e with ⟨w,_,rfl⟩ | rfl
  ·cases w <;> rfl
  ·rfl
 refine ⟨qA5.refl _,fun _ _ e=>.inl e,qA5.refl _,qCg,hs,?_,fun i s e=>?_,fun i j s t a hij e1 e2 o1 o2 z1 z2=>?_⟩
 ·unfold frame L2.start
  simp only [List.length_append,List.length_map,List.length_replicate]
  omega
 ·rcases slots i s e with ⟨w,ew,rfl⟩ | rfl
  ·obtain ⟨v,ev,hv⟩:=get hw i w ew
   have hi:i < vs.length:=(List.getElem?_eq_some_iff.mp ev).1
   have es:(L2.start N vs)[i]?=some (some v):=by
    unfold L2.start
    rw [List.getElem?_append_left (by simpa using hi),List.getElem?_map,ev]
    rfl
   rw [es]
   cases w with
   | im d=>exact ⟨v,rfl,hv⟩
   | li f ds=>
    obtain ⟨a,us,rfl,e2,e3⟩:=hv
    exact ⟨a,us,rfl,e2,e3⟩
  ·exact trivial
 ·rw [notOwn i s e1] at o1;cases o1
section
variable {P:Program}{w:World}{K:PySem.W.Frag}{mg:Str→Option Value}{base:Heap}
theorem Fun.okD {x qual:Str}{st:Stmt}{f:Addr}{fd:FuncData}{N ps:List Str}{k:Nat}{h:qAj→Rs Fl}(F:Fun K x qual st f fd)(S:FnScope N ps (qAd st))(hl:ps.length≤N.length)
  (hbody:∀ (cdv:Value) (A:Around) (outer:List Env) (s:Shared) (H:Hp) (E:XK),Room k (A.deeper (envOfC qual (qAd st) s.heap.objs.size f cdv))→
   ∃ Wr,qP0 (qLt CX0 P w K mg base N qual (qAd st) f cdv A outer s H E).nox EN Wr (qBp st) h):FnOk P w K mg base CX0 (k + 1) f fd ps (spD K ps.length (mir N h)):=by
 refine F.ok S (fun vs H Q E hsp=>?_) fun cdv A outer s H vs Q E hr hsp=>?_
 ·obtain ⟨B,ws,hs,hw,hn,_⟩:=hsp
  rw [←hw.len,hn]
 ·obtain ⟨B,ws,hs,hw,hn,p⟩:=hsp
  obtain ⟨Wr,ts,h1,h2⟩:=hbody cdv A outer s H E hr
  refine ⟨ts,h1,h2 B H qDh B H _ (frame N ws) _ (qGa hs hw #[0]) ?_⟩
  have p':qF6 K EN B H (h (frame N ws)>>=fin) Q:=p
  cases q:h (frame N ws) with
  | no=>rw [q] at p';exact p'
  | ex x=>rw [q] at p';exact p'
  | ok fl=>
   rw [q] at p'
   cases fl with
   | nx δ=>exact fun B' H' σ' r' _=>p' B' H' r'.whole .non rfl
   | rt w=>exact fun v B' H' g hw'=>p' B' H' g v hw'
   | rl d δ=>exact fun v B' H' σ' r' _ hd=>p' B' H' r'.whole v hd
   | bk δ=>exact p'.elim
   | ct δ=>exact p'.elim
structure FnD (P:Program) (w:World) (K:PySem.W.Frag) (mg:Str→Option Value) (base:Heap) (k:Nat) (x:Str) (n:Nat) (m:List W→Rs W):Prop where
 ex:∃ f fd ps,FnOk P w K mg base CX0 k f fd ps (spD K n m)∧mg x=some (.ref f)∧PySem.W.keepIn K (.ref f)=true∧qIi K fd ps []∧ps.length=n
end
section
variable {X:Cx}{Ew:XW}{e:Expr}{es:List Expr}{p pos:Pos}{x:Str}{n k:Nat}{m:List W→Rs W}{g:qAj→Rs (List W)}
theorem qAl (F:FnD X.prog X.w X.K X.mg X.base k x n m)(hr:Room k X.A)(hg:Gl X x)(ha:PXa X EN (e::es) g)(hn:(e::es).length=n)(hdb:#[17]=false:=by decide)
  (he:starEach (e::es) X.env=#[22]::starEach es X.env:=by rfl) (hpl:#[43].any (·.1)=false:=by rfl):PX X EN #[46] (fun δ=>g δ>>=fun ws=>if ws.length=n then m ws else .no):=by
 obtain ⟨f,fd,ps,F1,hm,hk,hb,hps⟩:=F.ex
 obtain ⟨ta,h1,h2⟩:=ha
 refine ⟨_,qFt (E:=E0) F1 hr hg hm hk hb .nil qV1 h1 hdb he hpl,fun B0 F0 P B H σ δ Q r p=>h2 B0 F0 P B H σ δ _ r #[54]⟩
 split at p1
 ·rename_i hl
  refine ⟨B1,ws,g1.bh,by rw [List.append_nil];exact hw.rd,hl,Pst.mono p1 fun w B' H' _ q v hv=>q v (hv.older g1.sh)⟩
 ·exact p1.elim
end
def rA (K:PySem.W.Frag)(Ew:XW)(fn:List W→Rs W):List V→Hp→VK→Prop:=fun xs H Q=>∃ B ws,qA5 B H∧qPy K B H ws xs∧qF6 K Ew B H (fn ws) Q
section
variable {X:Cx}{Ew:XW}{e:Expr}{es:List Expr}{p pos:Pos}{x:Str}{id T:String}{fn:List W→Rs W}{g:qAj→Rs (List W)}
theorem qBw (hc:qEh X (.builtin id) (rA X.K Ew fn))(hg:Gl X x)(hm:X.mg x=none)(hv:bootBuiltins x=some (.builtin id))(ha:PXa X Ew (e::es) g)(hn:x≠"__name__":=by decide)(hdb:#[17]=false:=by decide)
  (he:starEach (e::es) X.env=#[22]::starEach es X.env:=by rfl) (hpl:#[43].any (·.1)=false:=by rfl):PX X Ew #[46] (fun δ=>g δ>>=fn):=by
 obtain ⟨ta,h1,h2⟩:=ha
 refine ⟨_,qGi hc hg hm hv h1 hn hdb he hpl,fun B0 F0 P B H σ δ Q r p=>h2 B0 F0 P B H σ δ _ r #[54]⟩
 exact ⟨B1,ws,g1.bh,hw.rd,Pst.mono p1 fun w B' H' _ q v hv=>q v (hv.older g1.sh)⟩
theorem qC4 (hc:qEh X (.type T) (rA X.K Ew fn))(hg:Gl X x)(hm:X.mg x=none)(hv:bootBuiltins x=some (.type T))(ha:PXa X Ew (e::es) g)(hn:x≠"__name__":=by decide)(hdb:#[17]=false:=by decide)
  (he:starEach (e::es) X.env=#[22]::starEach es X.env:=by rfl) (hpl:#[43].any (·.1)=false:=by rfl):PX X Ew #[46] (fun δ=>g δ>>=fn):=by
 obtain ⟨ta,h1,h2⟩:=ha
 refine ⟨_,qOd hc hg hm hv h1 hn hdb he hpl,fun B0 F0 P B H σ δ Q r p=>h2 B0 F0 P B H σ δ _ r #[54]⟩
 exact ⟨B1,ws,g1.bh,hw.rd,Pst.mono p1 fun w B' H' _ q v hv=>q v (hv.older g1.sh)⟩
def qIs:List W→Rs W
 | [w]=>match w.items with
  | some (_,ds)=>.ok (.im (.int ds.length))
  | none=>match w with
   | .im (.str z)=>if z.length≤lim then .ok (.im (.int z.length)) else .no
   | _=>.no
 | _=>.no
theorem qB6:qEh X (.builtin "len") (rA X.K Ew qIs):=by
 intro pins s σ H xs us Q I rx ⟨B,ws,hs,hw,p⟩
 unfold qIs at p
 split at p
 ·rename_i w
  obtain ⟨v,r,rfl,e2,e3⟩:=hw
  cases (show r=[] from e3)
  split at p
  ·rename_i k ds ek
   obtain ⟨c,vs,rfl,q2,q3⟩:=e2.items hs ek
   have q:=p B H #[24] (.int vs.length) (by show V.int _=V.int _;rw [q3.len])
   refine qPq pins s σ H _ us Q I rx ⟨c,vs,rfl,?_,q⟩
   cases k with
   | true=>exact .inl q2
   | false=>exact .inr q2
  ·split at p
   ·rename_i z _
    split at p
    ·rename_i hl
     exact qPp pins s σ H _ us Q I rx ⟨z,by rw [show v=.str z from e2],by rw [qDv];exact hl,p B H #[24] _ rfl⟩
    ·exact p.elim
   ·exact p.elim
 ·exact p.elim
def qYf:List W→Rs W
 | [.im (.int i)]=>.ok (.im (.int i))
 | [.im (.bl b)]=>.ok (.im (.int (if b then 1 else 0)))
 | _=>.no
theorem qG4:qEh X (.type "int") (rA X.K Ew qYf):=by
 intro pins s σ H xs us Q I rx ⟨B,ws,hs,hw,p⟩
 unfold qYf at p
 split at p
 ·obtain ⟨v,r,rfl,e2,e3⟩:=hw
  cases (show r=[] from e3)
  exact qPr pins s σ H _ us Q I rx (.inl ⟨_,by rw [show v=.int _ from e2],p B H #[24] _ rfl⟩)
 ·rename_i b
  obtain ⟨v,r,rfl,e2,e3⟩:=hw
  cases (show r=[] from e3)
  exact qPr pins s σ H _ us Q I rx (.inr ⟨b,by rw [show v=.bl b from e2],p B H #[24] _ rfl⟩)
 ·exact p.elim
def qb2:List W→Rs W
 | [w]=>match w.items with
  | some (_,ds)=>.ok (.im (.tup ds))
  | none=>.no
 | _=>.no
theorem qEf:qEh X (.type "tuple") (rA X.K Ew qb2):=by
 intro pins s σ H xs us Q I rx ⟨B,ws,hs,hw,p⟩
 unfold qb2 at p
 split at p
 ·rename_i w
  obtain ⟨v,r,rfl,e2,e3⟩:=hw
  cases (show r=[] from e3)
  split at p
  ·rename_i k ds ek
   cases k with
   | true=>
    obtain ⟨c,vs,rfl,q2,q3⟩:=e2.items hs ek
    refine qG6 pins s σ H _ us Q I rx ⟨c,vs,rfl,.inl ⟨q2,fun l hl=>?_⟩⟩
    have sm:qA5 B (upd B l (.tup vs)):=fun b u z=>by rw [qAo (qAm z (hs.free hl))];exact z
    exact p _ _ (Grow.newB hs hl) _ ⟨l,vs,rfl,qAu,IsDs.mono sm _ _ q3⟩
   | false=>
    cases w with
    | li f es=>cases ek
    | im d=>
     cases d with
     | tup es=>
      cases ek
      obtain ⟨c,vs,rfl,z2,z3⟩:=e2
      exact qG6 pins s σ H _ us Q I rx ⟨c,vs,rfl,.inr ⟨qA5.tp hs z2,p B H #[24] _ ⟨c,vs,rfl,z2,z3⟩⟩⟩
     | _=>cases ek
  ·exact p.elim
 ·exact p.elim
def lstA:List W→Rs W
 | [w]=>match w.items with
  | some (_,ds)=>.ok (.li true ds)
  | none=>.no
 | _=>.no
theorem qLw:qEh X (.type "list") (rA X.K Ew lstA):=by
 intro pins s σ H xs us Q I rx ⟨B,ws,hs,hw,p⟩
 unfold lstA at p
 split at p
 ·rename_i w
  obtain ⟨v,r,rfl,e2,e3⟩:=hw
  cases (show r=[] from e3)
  split at p
  ·rename_i k ds ek
   obtain ⟨c,vs,rfl,q2,q3⟩:=e2.items hs ek
   refine qPo pins s σ H _ us Q I rx ⟨c,vs,rfl,?_,fun l hl=>p B _ (Grow.new hs hl (hs.free hl)) _ ⟨l,vs,rfl,hl,hs.free hl,qAu,q3⟩⟩
   cases k with
   | true=>exact .inl q2
   | false=>exact .inr q2
  ·exact p.elim
 ·exact p.elim
theorem qcp {z:Str}{u:Value}(hg:Gl X x)(hm:X.mg x=some u)(r:RelV (.str z) u)(hd:#[17]=false:=by decide):PXd X Ew (.Name x pos) (cst (.str z)):=
 ⟨_,qQm hg hm r hd,fun B0 F0 P B H σ δ Q r p=>p B H (Grow.refl r.bh) _ rfl⟩
def tyD (T:String):W→Rs Bool
 | .im .non=>.ok (T == "NoneType")
 | .im (.bl _)=>.ok (T == "bool" || T == "int")
 | .im (.int _)=>.ok (T == "int")
 | .im (.str _)=>.ok (T == "str")
 | .im (.tup _)=>.ok (T == "tuple")
 | .im (.lst _)=>.ok (T == "list")
 | .li _ _=>.ok (T == "list")
 | .im (.fn _)=>.no
 | .im (.clo _ _ _)=>.no
end
open PySem PySem.Spec PyProof.Rows L2
section
variable {X:Cx}{Ew:XW}{e a:Expr}{es:List Expr}{p p2 pos:Pos}{x:Str}{g:qAj→Rs W}
structure TyTab (K:PySem.W.Frag) (T:String):Prop where
 non:PySem.W.kitOne K (.type "NoneType") (.type T)=some (T == "NoneType")
 bl:PySem.W.kitOne K (.type "bool") (.type T)=some (T == "bool" || T == "int")
 int:PySem.W.kitOne K (.type "int") (.type T)=some (T == "int")
 str:PySem.W.kitOne K (.type "str") (.type T)=some (T == "str")
 tup:PySem.W.kitOne K (.type "tuple") (.type T)=some (T == "tuple")
 lst:PySem.W.kitOne K (.type "list") (.type T)=some (T == "list")
theorem ty_int (K:PySem.W.Frag):TyTab K "int":=⟨by kernel_rfl,by kernel_rfl,by kernel_rfl,by kernel_rfl,by kernel_rfl,by kernel_rfl⟩
theorem qb1 (K:PySem.W.Frag):TyTab K "bool":=⟨by kernel_rfl,by kernel_rfl,by kernel_rfl,by kernel_rfl,by kernel_rfl,by kernel_rfl⟩
theorem ty_str (K:PySem.W.Frag):TyTab K "str":=⟨by kernel_rfl,by kernel_rfl,by kernel_rfl,by kernel_rfl,by kernel_rfl,by kernel_rfl⟩
theorem qYm (K:PySem.W.Frag):TyTab K "tuple":=⟨by kernel_rfl,by kernel_rfl,by kernel_rfl,by kernel_rfl,by kernel_rfl,by kernel_rfl⟩
def rTy (K:PySem.W.Frag)(T:String):List V→Hp→VK→Prop:=fun xs H Q=>∃ B w v b,qA5 B H∧xs=[v,.ty T]∧Rdw K B H w v∧tyD T w=.ok b∧Q (.bl b) H
theorem qX2 {T:String}(tab:TyTab X.K T):qEh X (.builtin "isinstance") (rTy X.K T):=by
 intro pins s σ H xs us Q I rx ⟨B,w,v,b,hs,exs,hw,hb,q⟩
 subst exs
 cases rx with
 | cons r1 r2=>
  cases r2 with
  | cons r3 r4=>
   cases r4
   cases (show _=Value.type T from r3)
   have go:∀ {t:Value},TyOf X.K H v t→PySem.W.kitOne X.K t (.type T)=some b→wpAny #[9] X.A (call (.builtin "isinstance") [_,.type T]) (EP X pins σ Q) X.xe s:=fun ty e=>
    qWw I r1 ty e fun tk=>⟨.bl b,H,I.tok tk,rfl,q⟩
   cases w with
   | li f ds=>
    obtain ⟨c,vs,rfl,e2,e3⟩:=hw
    cases hb
    rcases e2 with e2 | ⟨o,e2⟩
    ·exact go (.lst e2) tab.lst
    ·exact go (.frz e2) tab.lst
   | im d=>
    cases d with
    | non=>cases hb;cases (show v=.non from hw);exact go .non tab.non
    | bl k=>cases hb;cases (show v=.bl k from hw);exact go (.bl k) tab.bl
    | int k=>cases hb;cases (show v=.int k from hw);exact go (.int k) tab.int
    | str k=>cases hb;cases (show v=.str k from hw);exact go (.str k) tab.str
    | tup ds=>
     cases hb
     obtain ⟨c,vs,rfl,e2,e3⟩:=hw
     cases (show _=Value.ref c from r1)
     obtain ⟨its,_,⟨o,h1,h2,_⟩,_⟩:=I.tuple (qA5.tp hs e2)
     exact PySem.W.kia_one PySem.W.kitx_tuple I.kIn ⟨o,h1,h2⟩ tab.tup #[36] fun tk=>⟨.bl _,H,I.tok tk,rfl,q⟩
    | lst ds=>
     cases hb
     obtain ⟨c,vs,rfl,e2,e3⟩:=hw
     cases (show _=Value.ref c from r1)
     obtain ⟨its,_,⟨o,n,h1,h2,_⟩,_⟩:=I.list (hs.seq e2)
     exact PySem.W.kia_one PySem.W.kitx_list I.kIn ⟨o,h1,h2⟩ tab.lst #[36] fun tk=>⟨.bl _,H,I.tok tk,rfl,q⟩
    | fn c=>cases hb
    | clo _ _ _=>cases hb
def qYe (T:String)(w:W):Rs W:=tyD T w>>=fun b=>.ok (.im (.bl b))
theorem qRv {T:String}{Tn:Str}(tab:TyTab X.K T)(hv:bootBuiltins Tn=some (.type T))(hg:Gl X "isinstance")(hm:X.mg "isinstance"=none)(hgT:Gl X Tn)(hmT:X.mg Tn=none)(ha:PX X Ew a g)(hn:Tn≠"__name__":=by decide)(hd:(Tn == ("__debug__":Str))=false:=by decide)
  (he:starEach [a,.Name Tn p2] X.env=(false,eval a X.env)::starEach [.Name Tn p2] X.env:=by rfl) (he2:starEach [.Name Tn p2] X.env=(false,eval (.Name Tn p2) X.env)::starEach [] X.env:=by rfl)
  (hpl:(backTo pos (starEach [.Name Tn p2] X.env)).any (·.1)=false:=by rfl) :
  PX X Ew (.Call (.Name "isinstance" p) [a,.Name Tn p2] [] pos) (fun δ=>g δ>>=qYe T):=by
 obtain ⟨te,h1,h2⟩:=ha
 refine ⟨_,qGi (qX2 tab) hg hm boot_isinstance (qBx h1 (qBx (qVz (v:=.ty T) hgT hmT hv rfl hn hd) qCx he2) he) #[4] #[4] he hpl,fun B0 F0 P B H σ δ Q r p=>h2 B0 F0 P B H σ δ _ r #[45]⟩
 cases eb:tyD T w with
 | no=>unfold qYe at p1;rw [eb] at p1;exact p1.elim
 | ex x=>
  cases w with
  | li f ds=>cases eb
  | im d=>cases d <;> cases eb
 | ok b=>
  unfold qYe at p1
  rw [eb] at p1
  exact ⟨B1,w,v,b,g1.bh,rfl,hw.rd,eb,(show Pst Ew B1 H1 _ (Rs.ok (W.im (.bl b))) from p1) B1 H1 #[32] _ rfl⟩
def qFj:List D→Option (List Bool)
 | []=>some []
 | .bl b::r=>(qFj r).map (b::·)
 | _=>none
theorem qLx {K:PySem.W.Frag}{B:Hp}:∀ {ds:List D} {vs:List V} {us:List Value} {bs:List Bool},IsDs K B ds vs→qBu vs us→qFj ds=some bs→us=bs.map Value.bool
 | [],vs,us,bs,h,r,e=>by cases #[40];cases r;cases e;rfl
 | d::ds,vs,us,bs,h,r,e=>by
  obtain ⟨v,rr,rfl,e2,e3⟩:=h
  cases r with
  | cons r1 r2=>
   cases d with
   | bl b=>
    simp only [qFj] at e
    obtain ⟨bs',q1,q2⟩:=Option.map_eq_some_iff.mp e
    subst q2
    cases (show v=.bl b from e2)
    cases (show _=Value.bool b from r1)
    rw [qLx e3 r2 q1]
    rfl
   | _=>cases e
theorem qPx:∀ (bs:List Bool),(List.range bs.length).all (fun i=>bs.getD i true)=bs.all id
 | []=>rfl
 | b::bs=>by
  rw [List.length_cons,List.range_succ_eq_map,List.all_cons,List.all_map,List.all_cons]
  have ih:=qPx bs
  have:((fun i=>(b::bs).getD i true) ∘ Nat.succ)=fun i=>bs.getD i true:=by funext i;rfl
  rw [this,ih]
  rfl
def qX6:List W→Rs W
 | [w]=>match w.seq with
  | some ds=>match qFj ds with
   | some bs=>.ok (.im (.bl (bs.all id)))
   | none=>.no
  | none=>.no
 | _=>.no
theorem qG5 (hh:X.calm=true):qEh X (.builtin "all") (rA X.K Ew qX6):=by
 intro pins s σ H xs us Q I rx ⟨B,ws,hs,hw,p⟩
 unfold qX6 at p
 split at p
 ·rename_i w
  obtain ⟨v,r,rfl,e2,e3⟩:=hw
  cases (show r=[] from e3)
  split at p
  ·rename_i ds ek
   split at p
   ·rename_i bs eb
    obtain ⟨c,vs,rfl,q2,q3⟩:=e2.seq hs ek
    cases rx with
    | cons r1 r2=>
     cases r2
     cases (show _=Value.ref c from r1)
     obtain ⟨its,rv,pl,hz⟩:=I.list q2
     have eits:=qLx q3 rv eb
     refine call_all_walk (wpAny_pyIter_list pl.isList ?_)
     have hd:X.A.in1.handled=none:=I.ok.hd hh
     have hne:c≠s.heap.objs.size:=Nat.ne_of_lt pl.lt
     refine ⟨s.heap.objs.size,_,_,its.toArray.size,_,_,fun i=>bs.getD i true,rfl,Walks.list hd s.heap.objs.size c hne its.toArray,⟨⟨_,Heap.get?_push_size _ rfl,rfl,rfl⟩,?_⟩,?_,?_⟩
     ·exact (pl.keeps fun b o e=>Heap.get?_push_of_some _ e).isList
     ·intro i u s' Q' E' hu hQ'
      subst eits
      simp only [List.getElem?_toArray,List.getElem?_map] at hu
      cases q:bs[i]? with
      | none=>rw [q] at hu;cases hu
      | some b=>
       rw [q] at hu
       cases hu
       dsimp only at hQ'
       rw [qEd q] at hQ'
       exact wpAny_truthy_bool hQ'
     ·intro h' tk kp
      have ev:(List.range its.toArray.size).all (fun i=>bs.getD i true)=bs.all id:=by
       subst eits
       simp only [List.size_toArray,List.length_map]
       exact qPx bs
      rw [ev]
      exact ⟨.bl _,H,I.kept (t':=tk) fun b o e=>kp b o (by simp;exact Nat.ne_of_lt (Heap.lt_size e)) (Heap.get?_push_of_some _ e),rfl,p B H #[24] _ rfl⟩
   ·exact p.elim
  ·exact p.elim
 ·exact p.elim
end
open PySem PySem.Spec PyProof.Rows L2
theorem qGv {A:Around}{k:Nat}(hr:Room k A):A.units + 50 < cLine:=by have:=hr.un;omega
theorem qac {A:Around}{k:Nat}(hr:Room k A):A.units + 51 < cLine:=by have:=hr.un;omega
abbrev toW (m:qAj→Rs D):qAj→Rs W:=fun δ=>m δ>>=fun d=>Rs.ok (W.im d)
abbrev qBg (m:qAj→Rs W):qAj→Rs D:=fun δ=>m δ>>=W.toD
abbrev qAc (m:qAj→Rs W)(k:qAj→Rs (List W)):qAj→Rs (List W):=fun δ=>m δ>>=fun w=>k δ>>=fun ws=>Rs.ok (w::ws)
abbrev qAq (m:qAj→Rs D)(k:qAj→Rs (List D)):qAj→Rs (List D):=fun δ=>m δ>>=fun w=>k δ>>=fun ws=>Rs.ok (w::ws)
abbrev qA2:qAj→Rs (List W):=fun _=>.ok []
abbrev qB4:qAj→Rs (List D):=fun _=>.ok []
abbrev qAg {α β:Type}(k:qAj→Rs α)(fn:α→Rs β):qAj→Rs β:=fun δ=>k δ>>=fn
abbrev qAs (m:List W→Rs W)(n:Nat)(k:qAj→Rs (List W)):qAj→Rs W:=fun δ=>k δ>>=fun ws=>if ws.length=n then m ws else .no
abbrev qHk (t:qAj→Rs Bool):qAj→Rs Bool:=fun δ=>t δ>>=fun b=>.ok (!b)
abbrev notW (m:qAj→Rs W):qAj→Rs W:=fun δ=>m δ>>=fun w=>w.bool>>=fun b=>.ok (.im (.bl (!b)))
abbrev qFe (m:qAj→Rs W)(l u:qAj→Rs (Option Int)):qAj→Rs W:=fun δ=>m δ>>=fun w=>l δ>>=fun l=>u δ>>=fun u=>slW w l u
abbrev qC2 (gi:qAj→Rs (List D))(t:qAj→Rs Bool)(el:qAj→Rs D):qAj→Rs W:=fun δ=>gi δ>>=fun ds=>qJ9 t el ds δ
abbrev qCk (i:Nat)(m:qAj→Rs W):qAj→Rs Fl:=fun δ=>m δ>>=asg i δ
abbrev qB8 (m:qAj→Rs W):qAj→Rs Fl:=fun δ=>m δ>>=fun w=>.ok (.rt w)
abbrev qH5 (gi:qAj→Rs (List D))(t:D→qAj→Rs qAj)(b:qAj→Rs Fl):qAj→Rs Fl:=fun δ=>gi δ>>=fun ds=>qFh t b ds δ
abbrev qC8:qAj→Rs Fl:=fun δ=>.ok (.nx δ)
abbrev noF:qAj→Rs Fl:=fun _=>.no
abbrev qDy:qAj→Rs (Option Int):=fun _=>.ok none
abbrev part (m:qAj→Rs W):qAj→Rs (Option Int):=fun δ=>m δ>>=W.part
abbrev nilT:List D→qAj→Rs qAj:=fun ds δ=>match ds with | []=>.ok δ | _=>.no
def Has (K:PySem.W.Frag)(mg:Str→Option Value)(x:Str)(st:Stmt):Prop:=∃ f fd,Fun K x x st f fd∧mg x=some (.ref f)
section
variable {P:Program}{w:World}{K:PySem.W.Frag}{mg:Str→Option Value}{base:Heap}
theorem qBm {x:Str}{st:Stmt}{N ps:List Str}{k:Nat}{h:qAj→Rs Fl}(T:Has K mg x st)(S:FnScope N ps (qAd st))(hl:ps.length≤N.length)
  (hb:∀ (kV doc pm:Value) (an:Option Addr) (cdv ct:Value) (us:List Value),us.length=ps.length→bindArgs #[47] ⟨us,[]⟩=pure (ps.zip us))
  (hbody:∀ (f:Addr) (cdv:Value) (A:Around) (outer:List Env) (s:Shared) (H:Hp) (E:XK),Room k (A.deeper (envOfC x (qAd st) s.heap.objs.size f cdv))→
   ∃ Wr,qP0 (qLt CX0 P w K mg base N x (qAd st) f cdv A outer s H E).nox EN Wr (qBp st) h):FnD P w K mg base (k + 1) x ps.length (mir N h):=by
 obtain ⟨f,fd,F,hm⟩:=T
 exact ⟨f,fd,ps,PD.Fun.okD F S hl (hbody f),hm,F.kp,F.binds hb,rfl⟩
end
open PySem PySem.Spec PyProof.Rows L2
theorem has_mk {K:PySem.W.Frag}{h:Heap}{mg:Str→Option Value}{x:Str}{st:Stmt}{f:Addr}{od an:Option Addr}{sl:Array (Option Value)}{oc kV dc pm cd ct:Value}(X:K.In h)(G:h.Ns mainGlobals mg)
  (a:PySem.W.nsIn K mainGlobals x=some (some (.ref f))) (l:K.lookup f=some ⟨oc,od,.func (PySem.W.fnOf x x (qCi st) (qBp st) (qAd st) .none kV dc pm an cd ct),sl⟩)
  (c:PySem.W.codeIn K cd x=true) (k:PySem.W.keepIn K (.ref f)=true):Has K mg x st:=⟨f,_,fun_mk (st:=st) l c k,PySem.W.mg_of X G a⟩
theorem ok_of_fnD {P:Program}{w:World}{K:PySem.W.Frag}{mg:Str→Option Value}{base:Heap}{k:Nat}{x p:Str}{m:List W→Rs W}{st:Stmt}{fa:Addr}(T:Has K mg x st)(hfa:mg x=some (.ref fa))
  (hps:∀ f fd,Fun K x x st f fd→∀ base,FnOk P w K mg base CX0 k f fd [p] (spD K 1 m)) (hb:∀ (kV doc pm:Value) (an:Option Addr) (cdv ct:Value) (u:Value),bindArgs #[47] ⟨[u],[]⟩=pure [(p,u)]) :
  ∃ fd:FuncData,(∀ (s:Shared) (u:Value),BindsTo s fd ⟨[u],[]⟩ [(p,u)])∧∀ base:Heap,K.In base→base.Ns mainGlobals mg→FnOk P w K mg base CX0 k fa fd [p] (spD K 1 m):=by
 obtain ⟨f,fd,F,hm⟩:=T
 rw [hfa] at hm
 cases hm
 obtain ⟨oc,od,kV,doc,pm,an,cdv,ct,osl,rfl,lk,hcd⟩:=id F.ex
 exact ⟨_,fun s u=>.of_eq (hb kV doc pm an cdv ct u),fun base _ _=>hps _ _ F base⟩
open PySem PySem.Spec PyProof.Rows L2
def qa1:List DictEntry→List (Str×Int)→Prop
 | [],t=>t=[]
 | e::r,t=>∃ s n t',t=(s,n)::t'∧(∃ u,e.key=.str s u)∧(∃ u,e.val=.int n u)∧qa1 r t'
def qHd (t:List (Str×Int))(k:Str):Option Int:=(t.find? fun p=>p.1 == k).map (·.2)
theorem qRd:∀ {es:List DictEntry} {t:List (Str×Int)},qa1 es t→∀ k:Str,qYi ((qHd t k).map V.int) ((es.find? fun e=>Value.isStrOf k e.key).map (·.val))
 | [],t,h,k=>by cases (show t=[] from h);trivial
 | e::r,t,h,k=>by
  obtain ⟨s,n,t',rfl,⟨u,hk⟩,⟨u',hv⟩,hr⟩:=h
  have ih:=qRd hr k
  unfold qHd at ih ⊢
  rw [List.find?_cons,List.find?_cons,hk]
  by_cases z:s=k
  ·subst z
   simp only [beq_self_eq_true,Value.isStrOf,Option.map_some,hv]
   exact ⟨u',rfl⟩
  ·have b1:(s == k)=false:=by simpa using z
   have b2:Value.isStrOf k (.str s u)=false:=by simpa [Value.isStrOf] using z
   simp only [b1,b2]
   exact ih
def qek (w:World)(K:PySem.W.Frag)(mg:Str→Option Value)(x:Str)(t:List (Str×Int)):Prop:=
 ∃ d es n,mg x=some (.ref d)∧K.lookup d=some ⟨.type "dict",none,.dict es n,#[]⟩∧PySem.W.KeysLit w.params es.toList∧(d == sysModules)=false∧qa1 es.toList t
def qO8 (t:List (Str×Int)):W→Rs W
 | .im (.str k)=>match qHd t k with
  | some n=>.ok (.im (.int n))
  | none=>.ok (.im .non)
 | _=>.no
section
variable {X:Cx}{Ew:XW}{a:Expr}{p pos apos:Pos}{x:Str}{g:qAj→Rs W}{t:List (Str×Int)}
theorem qVm (T:qek X.w X.K X.mg x t)(hg:Gl X x)(ha:PX X Ew a g)(m:M1 X (.Name x p) "get" apos a pos)(hd:#[17]=false:=by decide):PX X Ew (.Call (.Attribute (.Name x p) "get" apos) [a] [] pos) (fun δ=>g δ>>=qO8 t):=by
 obtain ⟨d,es,n,hm,lk,kl,hsys,tb⟩:=T
 obtain ⟨te,h1,h2⟩:=ha
 refine ⟨fun σ H Q=>te σ H fun y H1=>∃ k,y=.str k∧Q (((qHd t k).map V.int).getD .non) H1,fun pins s σ H Q I hq=>?_,fun B0 F0 P B H σ δ Q r p=>h2 B0 F0 P B H σ δ _ r #[45]⟩
 ·refine wpAny_Call_method m.base m.few m.line PySem.F.plainAttrs_dict PySem.F.slot_dict_get PySem.F.type_dict_get (qF0 I hg hm ?_ hd)
  have ho:=I.kIn _ _ lk
  refine ⟨⟨_,ho,rfl⟩,fun b q=>by cases q;exact ⟨_,ho,rfl⟩,?_⟩
  rw [m.trees]
  refine Calls.callWith_builtin rfl (Calls.evalArgs_plain (Calls.spliced_cons (thn (h1 pins s σ H _ I hq) fun iv s2 ⟨y,H2,I2,ry,k,ey,q2⟩=>Calls.spliced_nil ?_)))
  subst ey
  obtain ⟨tk,rfl⟩:=ry
  have mo:=PySem.W.mapOf_K (prog:=X.prog) (w:=X.w) I2.kIn lk kl
  refine call_meetsIn PySem.F.slot_dict_get mo.typeIs PySem.F.entry_dict_get (PySem.F.args_dict_get_2 _ _) (meets_dict_get (strKind X.prog X.w) d (strKind_is _ _ k tk) hsys) ⟨_,mo,?_⟩
  have rel:=qRd tb k
  have e:findBy Value.isStrOf es k=(es.toList.find? fun e=>Value.isStrOf k e.key).map (·.val):=by
   unfold findBy
   rw [←Array.find?_toList]
  refine ⟨_,H2,I2.tok _,?_,q2⟩
  rw [e]
  cases z:qHd t k with
  | none=>
   rw [z] at rel
   cases z2:(es.toList.find? fun e=>Value.isStrOf k e.key).map (·.val) with
   | none=>exact rfl
   | some v=>rw [z2] at rel;exact rel.elim
  | some i=>
   rw [z] at rel
   cases z2:(es.toList.find? fun e=>Value.isStrOf k e.key).map (·.val) with
   | none=>rw [z2] at rel;exact rel.elim
   | some v=>rw [z2] at rel;exact rel
 ·cases w with
  | li f ds=>exact False.elim p1
  | im dd=>
   cases dd with
   | str k=>
    refine ⟨k,hw,?_⟩
    unfold qO8 at p1
    cases z:qHd t k with
    | none=>simp only [z] at p1;exact p1 B1 H1 #[32] _ rfl
    | some i=>simp only [z] at p1;exact p1 B1 H1 #[32] _ rfl
   | _=>exact False.elim p1
def qNg:List D→Option (List Str)
 | []=>some []
 | .str b::r=>(qNg r).map (b::·)
 | _=>none
theorem qI2 {K:PySem.W.Frag}{B:Hp}:∀ {ds:List D} {vs:List V} {us:List Value} {bs:List Str},IsDs K B ds vs→qBu vs us→qNg ds=some bs→us.length=bs.length∧∀ (i:Nat) (v:Value),us[i]?=some v→∃ t,v=.str (bs.getD i Str.empty) t
 | [],vs,us,bs,h,r,e=>by cases #[40];cases r;cases e;exact ⟨rfl,fun i v q=>by simp at q⟩
 | d::ds,vs,us,bs,h,r,e=>by
  obtain ⟨v,rr,rfl,e2,e3⟩:=h
  cases r with
  | cons r1 r2=>
   cases d with
   | str b=>
    simp only [qNg] at e
    obtain ⟨bs',q1,q2⟩:=Option.map_eq_some_iff.mp e
    subst q2
    cases (show v=.str b from e2)
    obtain ⟨t,rfl⟩:=(show ∃ t,_=Value.str b t from r1)
    obtain ⟨l,ih⟩:=qI2 e3 r2 q1
    refine ⟨by simp [l],fun i v q=>?_⟩
    cases i with
    | zero=>simp at q;exact ⟨t,q.symm⟩
    | succ i=>exact ih i v (by simpa using q)
   | _=>cases e
def qHc (bs:List Str):Nat:=(qHa (fun i=>bs.getD i Str.empty) bs.length).length
def qGt (w:W):Rs W:=match w.items with
 | some (_,ds)=>match qNg ds with
  | some bs=>if bs.length < 1000 then .ok (.im (.int (qHc bs))) else .no
  | none=>.no
 | none=>.no
def qYs (P:Program)(w:World)(p:Addr)(bs:List Str):HO:=.ext fun h=>h.SetOf (strKind P w) p (fun k'=>(qHa (fun i=>bs.getD i Str.empty) bs.length).any (· == k')) (qHc bs)
def rSet (X:Cx):List V→Hp→VK→Prop:=fun xs H Q=>∃ B w v k ds bs,qA5 B H∧xs=[v]∧Rdw X.K B H w v∧w.items=some (k,ds)∧qNg ds=some bs∧bs.length < 1000∧∀ p,H p=none→Q (.ref p) (upd H p (qYs X.prog X.w p bs))
theorem qX1 (hc:X.calm=true):qEh X (.type "set") (rSet X):=by
 intro pins s σ H xs us Q I rx ⟨B,w,v,k,ds,bs,hs,exs,hw,ek,eb,hl,q⟩
 subst exs
 obtain ⟨c,vs,rfl,q2,q3⟩:=hw.items hs ek
 cases rx with
 | cons r1 r2=>
  cases r2
  cases (show _=Value.ref c from r1)
  have hd:X.A.handled=none:=I.ok.hd hc
  have done:∀ (h':Heap) (tk:Nat),h'.SetOf (strKind X.prog X.w) s.heap.objs.size (fun k'=>(qHa (fun i=>bs.getD i Str.empty) bs.length).any (· == k')) (qHa (fun i=>bs.getD i Str.empty) bs.length).length→
    (∀ b o,b < s.heap.objs.size→s.heap.get? b=some o→h'.get? b=some o)→EP X pins σ Q #[38] { s with heap:=h',toks:=tk }:=fun h' tk hS kp=>by
   refine ⟨.ref s.heap.objs.size,_,I.laid (t':=tk) (o:=qYs X.prog X.w s.heap.objs.size bs) (fun b u e=>kp b u (Heap.lt_size e) e) #[10] ?_,rfl,q _ (I.hok.fresh #[10])⟩
   refine ⟨hS,?_,fun h1 h2 hs1 kk=>?_⟩
   ·obtain ⟨o,es,ep,t,ho,_⟩:=hS
    exact ⟨o,ho⟩
   ·obtain ⟨o,es,ep,t,ho,qE4⟩:=hs1
    exact ⟨o,es,ep,t,kk o ho,qE4⟩
  cases k with
  | true=>
   obtain ⟨its,rv,pl,hz⟩:=I.list (show SqL X.K H c vs from q2)
   obtain ⟨e1,e2⟩:=qI2 q3 rv eb
   have esz:its.toArray.size=bs.length:=by rw [List.size_toArray];exact e1
   refine qP9 (val:=fun i=>bs.getD i Str.empty) hd pl.isList (fun i v hv=>e2 i v (by simpa using hv)) (by rw [esz];unfold scanBound;omega) fun h' tk hS kp=>?_
   rw [esz] at hS
   exact done h' tk hS kp
  | false=>
   obtain ⟨its,rv,pl,hz⟩:=I.tuple (show SqT X.K H c vs from q2)
   obtain ⟨e1,e2⟩:=qI2 q3 rv eb
   have esz:its.toArray.size=bs.length:=by rw [List.size_toArray];exact e1
   refine qNm (val:=fun i=>bs.getD i Str.empty) hd (show s.heap.IsTuple c its.toArray from pl) (fun i v hv=>e2 i v (by simpa using hv)) (by rw [esz];unfold scanBound;omega) fun h' tk hS kp=>?_
   rw [esz] at hS
   exact done h' tk hS kp
def rLenS (X:Cx):List V→Hp→VK→Prop:=fun xs H Q=>∃ p bs,xs=[.ref p]∧H p=some (qYs X.prog X.w p bs)∧bs.length < 1000∧Q (.int (qHc bs)) H
theorem qUd:qEh X (.builtin "len") (rLenS X):=by
 intro pins s σ H xs us Q I rx ⟨p,bs,exs,hp,hl,q⟩
 subst exs
 cases rx with
 | cons r1 r2=>
  cases r2
  cases (show _=Value.ref p from r1)
  obtain ⟨hS,_,_⟩:=(show qB7 X.prog X.w H s.heap p (qYs X.prog X.w p bs) from I.hok p _ hp)
  obtain ⟨o,es,ep,tb,ho,hex,hd,_,_,hb,hf,hn⟩:=hS
  have hb2:scanBound < 2 ^ 62:=by unfold scanBound;decide
  refine call_len_set ho hex hd hf #[0] ⟨.int (qHc bs),H,I.tok _,⟨_,by rw [hn]⟩,q⟩
theorem qN8 {p1 p2 pos2:Pos}(hc:X.calm=true)(hgl:Gl X "len")(hml:X.mg "len"=none)(hgs:Gl X "set")(hms:X.mg "set"=none)(ha:PX X Ew a g)
  (hs:starEach [a] X.env=(false,eval a X.env)::starEach [] X.env:=by rfl) (hs2:starEach [.Call (.Name "set" p2) [a] [] pos2] X.env=(false,eval (.Call (.Name "set" p2) [a] [] pos2) X.env)::starEach [] X.env:=by rfl)
  (hp1:(backTo pos2 #[26]).any (·.1)=false:=by rfl) (hp2:(backTo pos #[26]).any (·.1)=false:=by rfl) :
  PX X Ew (.Call (.Name "len" p1) [.Call (.Name "set" p2) [a] [] pos2] [] pos) (fun δ=>g δ>>=qGt):=by
 obtain ⟨te,h1,h2⟩:=ha
 refine ⟨_,qGi qUd hgl hml boot_len (qBx (qOd (qX1 hc) hgs hms boot_set (qBx h1 qCx hs) #[4] #[4] hs hp1) qCx hs2) #[4] #[4] hs2 hp2,fun B0 F0 P B H σ δ Q r p=>h2 B0 F0 P B H σ δ _ r #[45]⟩
 unfold qGt at p1
 split at p1
 ·rename_i k ds ek
  split at p1
  ·rename_i bs eb
   split at p1
   ·rename_i hl
    refine ⟨B1,w,v,k,ds,bs,g1.bh,rfl,hw.rd,ek,eb,hl,fun q hq=>⟨q,bs,rfl,qAu,hl,?_⟩⟩
    exact p1 B1 _ (Grow.new g1.bh hq (g1.bh.free hq)) _ rfl
   ·exact p1.elim
  ·exact p1.elim
 ·exact p1.elim
end
open PySem PySem.Spec PyProof.Rows L2
theorem qM4:bootBuiltins "reversed"=some (.type "reversed"):=by rfl
theorem qH8:∀ {xs:List V} {us:List Value},qBu xs us→qBu xs.reverse us.reverse
 | [],[],_=>.nil
 | x::xs,u::us,.cons r1 r2=>by
  rw [List.reverse_cons,List.reverse_cons]
  exact (qH8 r2).append (.cons r1 .nil)
theorem qH9 {K:PySem.W.Frag}{B:Hp}:∀ {ds:List D} {vs:List V},IsDs K B ds vs→IsDs K B ds.reverse vs.reverse
 | [],vs,h=>by cases #[40];exact rfl
 | d::ds,vs,h=>by
  obtain ⟨v,r,rfl,e2,e3⟩:=h
  rw [List.reverse_cons,List.reverse_cons]
  exact (qH9 e3).app (IsDs.one e2)
theorem qMs {its:List Value}{acc:Array Value}(h:ItemsOf (fun i v=>its.toArray[its.toArray.size - 1 - i]?=some v) acc its.toArray.size):acc=its.reverse.toArray:=by
 obtain ⟨h1,h2⟩:=h
 apply Array.ext'
 apply List.ext_getElem?
 intro i
 by_cases hi:i < acc.size
 ·have e:=h2 i acc[i] (Array.getElem?_eq_getElem hi)
  rw [Array.getElem?_toList,Array.getElem?_eq_getElem hi]
  simp only [List.getElem?_toArray,List.size_toArray] at e h1
  rw [List.getElem?_reverse #[0]]
  exact e.symm
 ·rw [Array.getElem?_toList,Array.getElem?_eq_none #[0]]
  simp only [List.size_toArray] at h1
  rw [List.getElem?_eq_none (by simp;omega)]
def revL (w:W):Rs W:=match w.items with
 | some (true,ds)=>.ok (.li true ds.reverse)
 | _=>.no
section
variable {X:Cx}{Ew:XW}{a:Expr}{p pos:Pos}{g:qAj→Rs W}
theorem qTl {p1 p2 pos2:Pos}(hc:X.calm=true)(hgl:Gl X "list")(hml:X.mg "list"=none)(hgs:Gl X "reversed")(hms:X.mg "reversed"=none)(ha:PX X Ew a g)
  (hs:starEach [a] X.env=(false,eval a X.env)::starEach [] X.env:=by rfl) (hs2:starEach [.Call (.Name "reversed" p2) [a] [] pos2] X.env=(false,eval (.Call (.Name "reversed" p2) [a] [] pos2) X.env)::starEach [] X.env:=by rfl)
  (hp1:(backTo pos2 #[26]).any (·.1)=false:=by rfl) (hp2:(backTo pos #[26]).any (·.1)=false:=by rfl) (hn1:backTo pos #[26]=[]:=by rfl) (hn2:backTo pos2 #[26]=[]:=by rfl) :
  PX X Ew (.Call (.Name "list" p1) [.Call (.Name "reversed" p2) [a] [] pos2] [] pos) (fun δ=>g δ>>=revL):=by
 obtain ⟨te,h1,h2⟩:=ha
 refine ⟨fun σ H Q=>te σ H fun y H1=>∃ c vs,y=.ref c∧SqL X.K H1 c vs∧∀ l,H1 l=none→Q (.ref l) (upd H1 l (.lst vs.reverse)),fun pins s σ H Q I hq=>?_,fun B0 F0 P B H σ δ Q r p=>h2 B0 F0 P B H σ δ _ r #[45]⟩
 ·refine wpAny_Call_Name_kw (qFg I hgl hml boot_list ?_ #[4] #[4])
  refine PyProof.Rows.callWith_type1 ?_ hs2 hp2
  rw [hs2]
  show wpAny _ _ (spliced ((false,eval (.Call (.Name "reversed" p2) [a] [] pos2) X.env)::backTo pos #[26])) _ _ s
  rw [hn1]
  refine Calls.spliced_cons ?_
  refine wpAny_Call_Name_kw (qFg I hgs hms qM4 ?_ #[4] #[4])
  refine PyProof.Rows.callWith_type1 ?_ hs hp1
  rw [hs]
  show wpAny _ _ (spliced ((false,eval a X.env)::backTo pos2 #[26])) _ _ s
  rw [hn2]
  refine Calls.spliced_cons (thn (h1 pins s σ H _ I hq) fun iv s2 ⟨y,H2,I2,ry,c,vs,ey,hl,q2⟩=>Calls.spliced_nil ?_)
  subst ey
  cases (show iv=Value.ref c from ry)
  obtain ⟨its,rv,pl,hz⟩:=I2.list hl
  have hlen:=rv.length
  have hd:X.A.handled=none:=I2.ok.hd hc
  refine wpAny_mono (qYz (Q:=EP X pins σ Q) hd pl.isList (by simp only [List.size_toArray] <;> omega) fun h' tk acc' c' n hn kp e hacc=>?_) (fun v s' h=>Calls.spliced_nil h) fun _ _ e=>e
  have ea:=qMs hacc
  subst ea
  exact ⟨.ref n,_,I2.laid (t':=tk) kp hn (show qB7 X.prog X.w _ h' _ (.lst vs.reverse) from ⟨by simpa using hz,its.reverse,c',qH8 rv,e⟩),rfl,q2 _ (I2.hok.fresh hn)⟩
 ·unfold revL at p1
  split at p1
  ·rename_i ds ek
   obtain ⟨c,vs,rfl,q2,q3⟩:=hw.rd.items g1.bh ek
   exact ⟨c,vs,rfl,q2,fun l hl=>p1 B1 _ (Grow.new g1.bh hl (g1.bh.free hl)) _ ⟨l,vs.reverse,rfl,g1.sh.free hl,g1.bh.free hl,qAu,qH9 q3⟩⟩
  ·exact p1.elim
end
open PySem PySem.Spec PyProof.Rows L2 PySem.W
def ltP (a b:Int×Str):Bool:=if a.1=b.1 then decide (a.2.cps.toList < b.2.cps.toList) else decide (a.1 < b.1)
theorem qWg (a b:Int×Str)(h:ltP a b=true):ltP b a=false:=by
 unfold ltP at h ⊢
 by_cases e:a.1=b.1
 ·rw [if_pos e] at h
  rw [if_pos e.symm]
  have h':=of_decide_eq_true h
  exact decide_eq_false fun z=>List.lt_irrefl _ (List.lt_trans h' z)
 ·rw [if_neg e] at h
  rw [if_neg (Ne.symm e)]
  have h':=of_decide_eq_true h
  exact decide_eq_false #[0]
theorem qWf (a b c:Int×Str)(h:ltP b a=false)(h':ltP c b=false):ltP c a=false:=by
 unfold ltP at h h' ⊢
 by_cases e:b.1=a.1
 ·rw [if_pos e] at h
  by_cases e2:c.1=b.1
  ·rw [if_pos e2] at h'
   rw [if_pos (e2.trans e)]
   have q:=of_decide_eq_false h
   have q':=of_decide_eq_false h'
   exact decide_eq_false (List.not_lt.mpr (List.le_trans (List.not_lt.mp q) (List.not_lt.mp q')))
  ·rw [if_neg e2] at h'
   rw [if_neg #[0]]
   have q':=of_decide_eq_false h'
   exact decide_eq_false #[0]
 ·rw [if_neg e] at h
  have q:=of_decide_eq_false h
  by_cases e2:c.1=b.1
  ·rw [if_neg #[0]]
   exact decide_eq_false #[0]
  ·rw [if_neg e2] at h'
   have q':=of_decide_eq_false h'
   rw [if_neg #[0]]
   exact decide_eq_false #[0]
theorem qZz (a b:Int×Str)(h:ltP a b=false)(h':ltP b a=false):a=b:=by
 unfold ltP at h h'
 obtain ⟨a1,⟨⟨a2⟩⟩⟩:=a
 obtain ⟨b1,⟨⟨b2⟩⟩⟩:=b
 simp only at h h'
 by_cases e:a1=b1
 ·subst e
  rw [if_pos rfl] at h h'
  have q:=of_decide_eq_false h
  have q':=of_decide_eq_false h'
  have:a2=b2:=List.le_antisymm (List.not_lt.mp q') (List.not_lt.mp q)
  subst this;rfl
 ·rw [if_neg e] at h
  rw [if_neg (Ne.symm e)] at h'
  have q:=of_decide_eq_false h
  have q':=of_decide_eq_false h'
  omega
theorem qIz {α:Type}{r:α→α→Prop}(anti:∀ a b,r a b→r b a→a=b):∀ (l l':List α),l.Perm l'→l.Pairwise r→l'.Pairwise r→l=l'
 | [],l',h,_,_=>(h.symm.eq_nil).symm
 | a::l,[],h,_,_=>absurd h.length_eq #[6]
 | a::l,b::l',h,h1,h2=>by
  have e:a=b:=by
   rcases List.mem_cons.mp (h.mem_iff.mp (List.mem_cons_self (a:=a) (l:=l))) with e | m
   ·exact e
   ·rcases List.mem_cons.mp (h.mem_iff.mpr (List.mem_cons_self (a:=b) (l:=l'))) with e | m'
    ·exact e.symm
    ·exact anti _ _ ((List.pairwise_cons.mp h1).1 b m') ((List.pairwise_cons.mp h2).1 a m)
  subst e
  rw [qIz anti l l' (List.Perm.cons_inv h) (List.pairwise_cons.mp h1).2 (List.pairwise_cons.mp h2).2]
def qD8 (ps:List (Int×Str)):List (Int×Str):=ps.mergeSort fun a b=>!ltP b a
theorem qE2 (ps:List (Int×Str)):(qD8 ps).Perm ps:=List.mergeSort_perm _ _
theorem qL7 (ps:List (Int×Str)):(qD8 ps).Pairwise fun a b=>ltP b a=false:=by
 have h:=List.pairwise_mergeSort (le:=fun a b:Int×Str=>!ltP b a) (fun a b c h1 h2=>by
  simp only [Bool.not_eq_true'] at h1 h2 ⊢;exact qWf _ _ _ h1 h2) (fun a b=>by
  simp only [Bool.or_eq_true,Bool.not_eq_true']
  cases z:ltP b a with
  | false=>exact .inl rfl
  | true=>exact .inr (qWg _ _ z)) ps
 exact h.imp fun {a b} q=>by simpa using q
theorem qIk {ps l:List (Int×Str)}(h:l.Perm ps)(u:l.Pairwise fun a b=>ltP b a=false):l=qD8 ps:=
 qIz (fun a b h1 h2=>(qZz _ _ h1 h2).symm) _ _ (h.trans (qE2 ps).symm) u (qL7 ps)
def qK7:List D→Option (List (Int×Str))
 | []=>some []
 | .tup [.int a,.str x]::r=>(qK7 r).map ((a,x)::·)
 | _=>none
def unP (p:Int×Str):D:=.tup [.int p.1,.str p.2]
def qS3:List W→Rs W
 | [w]=>match w.items with
  | some (true,ds)=>match qK7 ds with
   | some ps=>if ps.length < 64 then .ok (.li true ((qD8 ps).map unP)) else .no
   | none=>.no
  | _=>.no
 | _=>.no
theorem qK6:∀ (ps:List (Int×Str)),qK7 (ps.map unP)=some ps
 | []=>rfl
 | p::r=>by simp only [List.map_cons,unP,qK7];rw [qK6 r];rfl
theorem qOe:∀ {ds:List D} {ps:List (Int×Str)},qK7 ds=some ps→ds=ps.map unP
 | [],ps,h=>by cases h;rfl
 | d::r,ps,h=>by
  unfold qK7 at h
  split at h
  ·rename_i e;cases e
  ·rename_i a x r' e
   cases e
   obtain ⟨q,h1,h2⟩:=Option.map_eq_some_iff.mp h
   subst h2
   rw [qOe h1];rfl
  ·cases h
def Pr (h:Heap)(v:Value)(p:Int×Str):Prop:=∃ c t u o k,v=.ref c∧h.get? c=some o∧o.cls=.type "tuple"∧o.data=.seq #[.int p.1 t,.str p.2 u] k
theorem Pr.kept {h h':Heap}{v:Value}{p:Int×Str}(x:Pr h v p)(k:∀ b o,h.get? b=some o→h'.get? b=some o):Pr h' v p:=by
 obtain ⟨c,t,u,o,n,rfl,ho,hc,hd⟩:=x
 exact ⟨c,t,u,o,n,rfl,k _ _ ho,hc,hd⟩
section
variable {X:Cx}{pins:List (Addr×Obj)}{σ:L2.St}{H B:Hp}{s:Shared}
theorem qVt (I:Inv X pins σ H s)(hs:qA5 B H):∀ {ps:List (Int×Str)} {vs:List V} {us:List Value},IsDs X.K B (ps.map unP) vs→qBu vs us→us.length=ps.length∧∀ i,i < ps.length→Pr s.heap (us.getD i .none) (ps.getD i (0,Str.empty))
 | [],vs,us,h,r=>by cases #[40];cases r;exact ⟨rfl,fun i hi=>absurd hi #[6]⟩
 | p::ps,vs,us,h,r=>by
  obtain ⟨v,rr,rfl,e2,e3⟩:=h
  cases r with
  | cons r1 r2=>
   obtain ⟨l,ih⟩:=qVt I hs e3 r2
   refine ⟨by simp [l],fun i hi=>?_⟩
   cases i with
   | zero=>
    obtain ⟨c,ws,rfl,q2,q3⟩:=e2
    obtain ⟨v0,rr0,rfl,b2,b3⟩:=q3
    obtain ⟨v1,rr1,rfl,c2,c3⟩:=b3
    cases (show rr1=[] from c3)
    cases (show v0=.int p.1 from b2)
    cases (show v1=.str p.2 from c2)
    obtain ⟨its,rv,⟨ob,ho,hc,n,hd⟩,hz⟩:=I.tuple (qA5.tp hs q2)
    cases rv with
    | cons s1 s2=>
     cases s2 with
     | cons s3 s4=>
      cases s4
      obtain ⟨t,rfl⟩:=s1
      obtain ⟨u,rfl⟩:=s3
      cases (show _=Value.ref c from r1)
      exact ⟨c,t,u,_,_,rfl,ho,hc,hd⟩
   | succ i=>exact ih i (by simpa using hi)
theorem pr_lt {prog:Program}{w:World}{A:Around}{E:Value→Shared→Prop}{s:Shared}{x y:Value}{p q:Int×Str}{C:Bool→Shared→Prop}(hx:Pr s.heap x p)(hy:Pr s.heap y q)(h:C (ltP p q) s) :
  wpAny #[18] A (keyLt' (tuples' true) x y) C E s:=by
 obtain ⟨c,t,u,o,k,rfl,ho,hc,hd⟩:=hx
 obtain ⟨c',t',u',o',k',rfl,ho',hc',hd'⟩:=hy
 refine kat_lt ho hd ho' hd' ?_
 unfold ltP at h
 refine kat_cons (wpAny_eqBool_int (kat_go (fun e=>?_) fun e=>?_))
 ·rw [if_pos (by simpa using e)] at h
  refine kat_yes (kat_cons (wpAny_eqBool_str (kat_go (fun e2=>?_) fun e2=>?_)))
  ·refine kat_yes (kat_nil ?_)
   have e3:p.2=q.2:=of_decide_eq_true e2
   rw [e3,decide_eq_false (List.lt_irrefl _)] at h
   exact h
  ·exact kat_no (kat_one _ _ (PyProof.Rows.lt_str h))
 ·rw [if_neg (by simpa using e)] at h
  exact kat_no (oneLt_int h)
theorem qWs:∀ {h:Heap} {us:List Value} {ps:List (Int×Str)},us.length=ps.length→(∀ i,i < ps.length→Pr h (us.getD i .none) (ps.getD i (0,Str.empty)))→∃ fs,KatTups h us fs∧fs.length=us.length∧∀ v∈fs,∃ a t,v=.int a t
 | h,[],ps,hl,hp=>⟨[],.nil,rfl,fun v hv=>absurd hv #[6]⟩
 | h,u::us,[],hl,hp=>absurd hl #[6]
 | h,u::us,p::ps,hl,hp=>by
  obtain ⟨fs,h1,h2,h3⟩:=qWs (h:=h) (us:=us) (ps:=ps) (by simpa using hl) fun i hi=>by simpa using hp (i + 1) (by simpa using hi)
  obtain ⟨c,t,u',o,k,e,ho,hc,hd⟩:=hp 0 #[6]
  have e':u=.ref c:=by simpa using e
  subst e'
  refine ⟨.int p.1 t::fs,KatTups.cons ho hc hd rfl h1,by simp [h2],fun v hv=>?_⟩
  rcases List.mem_cons.mp hv with e | m
  ·exact ⟨_,_,e⟩
  ·exact h3 v m
theorem qIy {vs:List V}{us:List Value}(r:qBu vs us):∀ (l:List Nat),(∀ i∈l,i < vs.length)→qBu (l.map fun i=>vs.getD i .non) (l.map fun i=>us.getD i .none)
 | [],_=>.nil
 | i::l,h=>by
  have hi:=h i (List.mem_cons_self ..)
  obtain ⟨u,e1,e2⟩:=r.get (List.getElem?_eq_getElem hi)
  refine .cons ?_ (qIy r l fun j hj=>h j (List.mem_cons_of_mem _ hj))
  show L2.RelV (vs.getD i .non) (us.getD i .none)
  rw [List.getD_eq_getElem?_getD,List.getD_eq_getElem?_getD,List.getElem?_eq_getElem hi,e1]
  exact e2
theorem qJw {K:PySem.W.Frag}{B:Hp}{ps:List (Int×Str)}{vs:List V}(r:IsDs K B (ps.map unP) vs):∀ (l:List Nat),(∀ i∈l,i < vs.length)→IsDs K B ((l.map fun i=>ps.getD i (0,Str.empty)).map unP) (l.map fun i=>vs.getD i .non)
 | [],_=>rfl
 | i::l,h=>by
  have hi:=h i (List.mem_cons_self ..)
  have hl:vs.length=ps.length:=by rw [←r.len];simp
  have hi':i < ps.length:=by omega
  refine ⟨_,_,rfl,?_,qJw r l fun j hj=>h j (List.mem_cons_of_mem _ hj)⟩
  obtain ⟨v,e1,e2⟩:=r.get (i:=i) (d:=unP (ps.getD i (0,Str.empty))) (by rw [List.getElem?_map,List.getElem?_eq_getElem hi',List.getD_eq_getElem?_getD,List.getElem?_eq_getElem hi'];rfl)
  show IsD K B (unP (ps.getD i (0,Str.empty))) (vs.getD i .non)
  rw [show vs.getD i .non=v by rw [List.getD_eq_getElem?_getD,e1];rfl]
  exact e2
theorem boot_sorted:bootBuiltins "sorted"=some (.builtin "sorted"):=by rfl
theorem qH7 {Ew:XW}:qEh X (.builtin "sorted") (rA X.K Ew qS3):=by
 intro pins s σ H xs us Q I rx ⟨B,ws,hs,hw,p⟩
 unfold qS3 at p
 split at p
 ·rename_i w
  obtain ⟨v,r,rfl,e2,e3⟩:=hw
  cases (show r=[] from e3)
  split at p
  ·rename_i ds ek
   split at p
   ·rename_i ps eps
    split at p
    ·rename_i h64
     obtain ⟨c,vs,rfl,q2,q3⟩:=e2.items hs ek
     rw [qOe eps] at q3
     cases rx with
     | cons r1 r2=>
      cases r2
      cases (show _=Value.ref c from r1)
      obtain ⟨its,rv,pl,hz⟩:=I.list (show SqL X.K H c vs from q2)
      obtain ⟨hl,hp⟩:=qVt I hs q3 rv
      have hvl:vs.length=ps.length:=by rw [←q3.len];simp
      refine qYp (κ:=tuples' true) (lt:=fun i j=>ltP (ps.getD i (0,Str.empty)) (ps.getD j (0,Str.empty))) (PP:=fun p=>Pm its.length p∧Up (fun i j=>ltP (ps.getD i (0,Str.empty)) (ps.getD j (0,Str.empty))) p 0 its.length∨p=(List.range its.length).toArray∧its.length < 2)
       pl.isList #[0] (fun h2 h1 k Q q=>?_) (fun h1 tk i j C k hi hj hC=>?_) (fun h2=>qFu (fun p z=>.inl z) _ (qV6 (fun i j=>qWg _ _) (fun i j k=>qWf _ _ _) #[0])) (fun h2=>.inr ⟨rfl,h2⟩) fun h' tk cc n p' hPP hn kp e=>?_
      ·obtain ⟨fs,f1,f2,f3⟩:=qWs hl fun i hi=>(hp i hi).kept k
       have e0:(Value.type "int" != Value.type "tuple")=true:=by decide
       refine kat_kind (s:={ s with heap:=h1 }) (T:=Value.type "int") f1 #[0] (fun v hv=>?_) #[4] (by rw [e0];exact q)
       obtain ⟨a,t,rfl⟩:=f3 v hv
       exact .now
      ·unfold kas_ask
       exact pr_lt ((hp i #[0]).kept k) ((hp j #[0]).kept k) (hC tk)
      ·have fin:∀ l:List Nat,l.Perm (List.range its.length)→(l.map fun i=>ps.getD i (0,Str.empty)).Pairwise (fun a b=>ltP b a=false)→p'.toList=l→EP X pins σ Q (.ref n) { s with heap:=h',toks:=tk }:=fun l hlp hup el=>by
        have hmem:∀ i∈l,i < vs.length:=fun i hi=>by
         have:=hlp.mem_iff.mp hi
         rw [List.mem_range] at this;omega
        have hsrt:(l.map fun i=>ps.getD i (0,Str.empty))=qD8 ps:=by
         refine qIk ?_ hup
         refine (hlp.map _).trans ?_
         have:(List.range its.length).map (fun i=>ps.getD i (0,Str.empty))=ps:=by
          apply List.ext_getElem
          ·simp [hl]
          ·intro i h1 h2
           simp [List.getD_eq_getElem?_getD,List.getElem?_eq_getElem h2]
         rw [this]
        rw [el] at e
        have hll:l.length=vs.length:=by rw [hlp.length_eq,List.length_range];omega
        refine ⟨.ref n,_,I.laid (t':=tk) kp hn (show qB7 X.prog X.w _ h' _ (.lst (l.map fun i=>vs.getD i .non)) from ⟨by rw [List.length_map,hll];exact hz,_,cc,qIy rv l hmem,e⟩),rfl,?_⟩
        have hfr:=I.hok.fresh hn
        refine p B _ (Grow.new hs hfr (hs.free hfr)) _ ⟨n,_,rfl,hfr,hs.free hfr,qAu,?_⟩
        rw [←hsrt]
        exact qJw q3 l hmem
       rcases hPP with ⟨hpm,hup⟩ | ⟨rfl,h2⟩
       ·refine fin p'.toList ?_ ?_ rfl
        ·simpa using hpm.pm.toList
        ·rw [List.pairwise_map,List.pairwise_iff_getElem]
         intro i j hi hj hij
         have hsz:=hpm.sz
         have:=hup i j (Nat.zero_le _) hij (by simpa [hsz] using hj)
         have g1:p'.getD i 0=p'.toList[i]:=by simp [Array.getD,show i < p'.size by simpa using hi]
         have g2:p'.getD j 0=p'.toList[j]:=by simp [Array.getD,show j < p'.size by simpa using hj]
         rw [g1,g2] at this
         exact this
       ·refine fin (List.range its.length) (List.Perm.refl _) ?_ #[6]
        have:its.length=0∨its.length=1:=by omega
        rcases this with z | z
        ·rw [z];simp
        ·rw [z];simp [List.range_succ]
    ·exact p.elim
   ·exact p.elim
  ·exact p.elim
 ·exact p.elim
end
open PySem PySem.Spec PyProof.Rows L2
theorem hu1 {A:Around}{k:Nat}(hr:Room k A):A.units + 1 < cLine:=by have:=hr.un;omega
def kD:Key→D
 | .inl i=>.int i
 | .inr x=>.str x
def keyD:D→Option Key
 | .int i=>some (.inl i)
 | .str x=>some (.inr x)
 | _=>none
def qMi (ks:List (Key×D))(k:Key)(d:D):List (Key×D):=
 if (ks.any fun kv=>decide (kv.1=k))=true then ks.map (fun kv=>if kv.1=k then (kv.1,d) else kv) else ks++[(k,d)]
section
variable {K:PySem.W.Frag}{B:Hp}
theorem qWr {d:D}{k:Key}{v:V}(e:keyD d=some k)(h:IsD K B d v):v=kV k:=by
 cases d with
 | int i=>cases e;exact h
 | str x=>cases e;exact h
 | _=>cases e
theorem KD.len {ks:List (Key×D)}{kvs:List (Key×V)}(h:KD K B ks kvs):kvs.length=ks.length:=by have:=congrArg List.length h.1;simpa using this
theorem KD.swap {k:Key}{d:D}{v:V}(hd:IsD K B d v):∀ {ks:List (Key×D)} {kvs:List (Key×V)},KD K B ks kvs→KD K B (ks.map fun kv=>if kv.1=k then (kv.1,d) else kv) (kvs.map fun kv=>if kv.1=k then (kv.1,v) else kv)
 | [],kvs,h=>by
  have:kvs=[]:=by have:=h.len;simpa using this
  subst this;exact ⟨rfl,rfl⟩
 | (k1,d1)::ks,kvs,h=>by
  cases kvs with
  | nil=>have:=h.len;simp at this
  | cons q kvs=>
   obtain ⟨k2,v2⟩:=q
   obtain ⟨h1,u,us,e,h2,h3⟩:=h
   simp only [List.map_cons,List.cons.injEq] at h1 e
   obtain ⟨rfl,rfl⟩:=e
   obtain ⟨rfl,h1⟩:=h1
   have ih:=KD.swap hd (k:=k) (ks:=ks) (kvs:=kvs) ⟨h1,h3⟩
   by_cases z:k2=k
   ·simp only [List.map_cons,if_pos z]
    exact ⟨by simp only [List.map_cons];rw [ih.1],v,_,rfl,hd,ih.2⟩
   ·simp only [List.map_cons,if_neg z]
    exact ⟨by simp only [List.map_cons];rw [ih.1],v2,_,rfl,h2,ih.2⟩
theorem KD.put {ks:List (Key×D)}{kvs:List (Key×V)}{k:Key}{d:D}{v:V}(h:KD K B ks kvs)(hd:IsD K B d v):KD K B (qMi ks k d) (qJj kvs k v):=by
 have e:(kvs.any fun kv=>decide (kv.1=k))=(ks.any fun kv=>decide (kv.1=k)):=by
  have a1:(kvs.any fun kv=>decide (kv.1=k))=(kvs.map (·.1)).any fun x=>decide (x=k):=by rw [List.any_map];rfl
  have a2:(ks.any fun kv=>decide (kv.1=k))=(ks.map (·.1)).any fun x=>decide (x=k):=by rw [List.any_map];rfl
  rw [a1,a2,h.1]
 unfold qMi qJj
 rw [e]
 split
 ·exact h.swap hd
 ·exact ⟨by rw [List.map_append,List.map_append,h.1];rfl,by rw [List.map_append,List.map_append];exact h.2.app (.one hd)⟩
variable {B0 F0 P H:Hp}{σ:L2.St}{δ:qAj}
theorem R.dct {B' H':Hp}(r:R K B0 F0 P B H σ δ)(g:Grow B H B' H'){i:Nat}{ks:List (Key×D)}{a:Addr}{kvs:List (Key×V)}(h0:H a=none)(hb:B' a=none)(hh:H' a=some (.dK kvs))(h:KD K B' ks kvs) :
  R K B0 F0 P B' H' (σ.set i #[25]) (δ.set i (.dct ks)):=by
 have r':=r.grow g
 refine ⟨r'.b0,r'.nw,r'.fh,r'.ph,r'.bh,by rw [List.length_set,List.length_set];exact r.len,fun j s e=>?_,fun j k s t b hjk e1 e2 o1 o2 z1 z2=>?_⟩
 ·by_cases hj:i=j
  ·subst hj
   obtain ⟨rfl,hl⟩:=qBb e
   refine ⟨a,kvs,?_,r.fh.free h0,r.ph.free h0,hb,hh,h⟩
   rw [List.getElem?_set_self (by rw [←r.len];exact hl)]
  ·rw [qAy hj] at e
   rw [qAy hj]
   exact r'.sl j s e
 ·have live:∀ (j:Nat) (s:Sl),δ[j]?=some s→s.isOwn=true→σ[j]?=some #[25]→False:=fun j s e o z=>by
   obtain ⟨_,_,_,u,hu⟩:=qEc r e o z
   rw [h0] at hu;cases hu
  by_cases hj:i=j
  ·subst hj
   by_cases hk:i=k
   ·exact hjk hk
   ·rw [qAy hk] at e2 z2
    obtain ⟨_,hl⟩:=qBb z1
    rw [List.getElem?_set_self hl] at z1
    cases z1
    exact live k t e2 o2 z2
  ·by_cases hk:i=k
   ·subst hk
    rw [qAy hj] at e1 z1
    obtain ⟨_,hl⟩:=qBb z2
    rw [List.getElem?_set_self hl] at z2
    cases z2
    exact live j s e1 o1 z1
   ·rw [qAy hj] at e1 z1
    rw [qAy hk] at e2 z2
    exact r.ne j k s t b hjk e1 e2 o1 o2 z1 z2
theorem R.putd (r:R K B0 F0 P B H σ δ){i:Nat}{ks es:List (Key×D)}{a:Addr}{us:List (Key×V)}(ei:δ[i]?=some (.dct ks))(ea:σ[i]?=some #[25])(hu:KD K B es us) :
  R K B0 F0 P B (upd H a (.dK us)) σ (δ.set i (.dct es)):=by
 obtain ⟨a',vs',q1,q2,q3,q4,q5,q6⟩:=r.sl i _ ei
 rw [ea] at q1
 cases q1
 have keep:∀ {G:Hp},qA5 G H→G a=none→qA5 G (upd H a (.dK us)):=fun hs hn b o e=>by
  rw [qAo (qAm e hn)];exact hs b o e
 refine ⟨r.b0,r.nw,keep r.fh q2,keep r.ph q3,keep r.bh q4,by rw [List.length_set];exact r.len,fun j s e=>?_,fun j k s t b hjk e1 e2 o1 o2 z1 z2=>?_⟩
 ·by_cases hj:i=j
  ·subst hj
   obtain ⟨rfl,hl⟩:=qBb e
   exact ⟨a,us,ea,q2,q3,q4,qAu,hu⟩
  ·rw [qAy hj] at e
   have:=r.sl j s e
   cases s with
   | own fs=>
    obtain ⟨c,ws,w1,w2,w3,w4,w5,w6⟩:=this
    have hne:c≠a:=fun z=>by
     subst z
     exact r.ne j i _ _ c (Ne.symm hj) e ei rfl rfl w1 ea
    exact ⟨c,ws,w1,w2,w3,w4,by rw [qAo hne];exact w5,w6⟩
   | dct fs=>
    obtain ⟨c,ws,w1,w2,w3,w4,w5,w6⟩:=this
    have hne:c≠a:=fun z=>by
     subst z
     exact r.ne j i _ _ c (Ne.symm hj) e ei rfl rfl w1 ea
    exact ⟨c,ws,w1,w2,w3,w4,by rw [qAo hne];exact w5,w6⟩
   | dtt fs=>
    obtain ⟨c,ws,w1,w2,w3,w4,w5,w6⟩:=this
    have hne:c≠a:=fun z=>by
     subst z
     exact r.ne j i _ _ c (Ne.symm hj) e ei rfl rfl w1 ea
    exact ⟨c,ws,w1,w2,w3,w4,by rw [qAo hne];exact w5,w6⟩
   | _=>exact this
 ·have back:∀ (j:Nat) (s:Sl),(δ.set i (.dct es))[j]?=some s→s.isOwn=true→∃ s',δ[j]?=some s'∧s'.isOwn=true:=fun j s e o=>by
   by_cases hj:i=j
   ·subst hj;exact ⟨_,ei,rfl⟩
   ·rw [qAy hj] at e;exact ⟨s,e,o⟩
  obtain ⟨s',e1',o1'⟩:=back j s e1 o1
  obtain ⟨t',e2',o2'⟩:=back k t e2 o2
  exact r.ne j k s' t' b hjk e1' e2' o1' o2' z1 z2
end
section
variable {X:Cx}{Ew:XW}{e c:Expr}{pos p' pos' dpos:Pos}
def dnewF (i:Nat)(δ:qAj):Rs Fl:=.ok (.nx (δ.set i (.dct [])))
theorem qZf (i:Nat){x:Str}(hN:X.N.Nodup)(hi:X.N[i]?=some x:=by rfl)(hx:Loc X.env.scope x:=by first | exact Or.inl rfl | exact Or.inr rfl)(hs:swapsWith (.Dict [] [] dpos) (some (.Name x p')) pos.line X.env=pure false:=by rfl)
  (hf:X.fn x=true∨X.env.scope.names.lookup x=some .local:=by first | exact .inl rfl | exact .inr rfl | assumption) :
  PSX X Ew [i] (.Assign [.Name x p'] (.Dict [] [] dpos) pos) (dnewF i):=
 ⟨_,qK2 hN hi hx qZo hs hf,fun B0 F0 P B H σ δ D r p q hq=>p B _ _ (r.dct (Grow.new r.bh hq (r.bh.free hq)) hq (r.bh.free hq) qAu ⟨rfl,rfl⟩) qH4⟩
def qXt (i:Nat)(gv ge:qAj→Rs D)(δ:qAj):Rs Fl:=match δ[i]? with
 | some (.dct ks)=>gv δ>>=fun d=>ge δ>>=fun kd=>match keyD kd with
  | some k=>if ks.length < lim then .ok (.nx (δ.set i (.dct (qMi ks k d)))) else .no
  | none=>.no
 | _=>.no
theorem qZe (i:Nat){x:Str}{gv ge:qAj→Rs D}(hu:X.A.units + 1 < cLine)(hv:PXd X Ew e gv)(he:PXd X Ew c ge)(hN:X.N[i]?=some x:=by rfl)(hvi:Vis X.env.scope x:=by first | exact Or.inl rfl | exact Or.inr (Or.inl rfl) | exact Or.inr (Or.inr rfl))
  (hd:#[17]=false:=by decide) (hcd:#[33]=false:=by decide) (hs:swapsWith e (some (.Subscript (.Name x p') c pos')) pos.line X.env=pure false:=by rfl) :
  PSX X Ew [] (.Assign [.Subscript (.Name x p') c pos'] e pos) (qXt i gv ge):=by
 obtain ⟨tv,v1,v2⟩:=hv
 obtain ⟨te,h1,h2⟩:=he
 refine ⟨_,qVs hu (qCb hN hvi hd hcd) h1 v1 hs,fun B0 F0 P B H σ δ D r p=>?_⟩
 unfold qXt at p
 split at p
 ·rename_i ks ei
  obtain ⟨a,kvs,e1,e2,e3,e4,e5,e6⟩:=r.sl i _ ei
  refine v2 B0 F0 P B H σ δ _ r ((qB3.bind r p).mono fun d B1 H1 g1 p1 v hd=>?_)
  have r1:=r.grow g1
  refine ⟨_,e1,h2 B0 F0 P B1 H1 σ δ _ r1 ((qB3.bind r1 p1).mono fun kd B2 H2 g2 p2 y hy=>?_)⟩
  split at p2
  ·rename_i k ek
   split at p2
   ·rename_i hl
    have e7:=g2.sh _ _ (g1.sh _ _ e5)
    have l1:=e6.len
    have hyk:=qWr ek hy
    subst hyk
    refine ⟨a,_,rfl,qbz.k e7 (by rw [qDv,l1];exact hl),?_⟩
    have r2:=(r1.grow g2).putd (ks:=ks) (es:=qMi ks k d) (us:=qJj kvs k v) ei e1 (((e6.mono g1.sb).mono g2.sb).put (IsD.mono g2.sb d v hd))
    exact p2 B2 _ σ r2 fun _ _=>rfl
   ·exact p2.elim
  ·exact p2.elim
 ·exact p.elim
def qWl (i:Nat)(δ:qAj):Rs W:=match δ[i]? with
 | some (.dct ks)=>.ok (.li true (ks.map fun q=>kD q.1))
 | _=>.no
theorem qNe {P:Program}{w:World}:∀ {kvs:List (Key×V)} {ks:List (Key×Value)} {us:List Value},KV kvs ks→us.length=ks.length→(∀ (i:Nat) (v:Value),us[i]?=some v→∃ k x,ks[i]?=some (k,x)∧qQv k v=true)→qBu (kvs.map fun q=>kV q.1) us
 | [],ks,us,h,hl,hv=>by
  cases h
  cases us with
  | nil=>exact .nil
  | cons _ _=>simp at hl
 | q::kvs,ks,us,h,hl,hv=>by
  cases h with
  | cons h1 h2=>
   rename_i q' ks'
   cases us with
   | nil=>simp at hl
   | cons u us=>
    refine .cons ?_ (qNe (P:=P) (w:=w) h2 (by simpa using hl) fun i v e=>by simpa using hv (i + 1) v (by simpa using e))
    obtain ⟨k,x,e1,e2⟩:=hv 0 u rfl
    have e3:q'=(k,x):=by simpa using e1
    subst e3
    show L2.RelV (kV q.1) u
    rw [h1.1]
    rcases qB1 e2 with ⟨i,t,e4,e5⟩ | ⟨z,t,e4,e5⟩
    ·cases (show k=_ from e4);exact ⟨t,e5⟩
    ·cases (show k=_ from e4);exact ⟨t,e5⟩
theorem qOu {K:PySem.W.Frag}{B:Hp}:∀ {ks:List (Key×D)} {kvs:List (Key×V)},kvs.map (·.1)=ks.map (·.1)→IsDs K B (ks.map fun q=>kD q.1) (kvs.map fun q=>kV q.1)
 | [],kvs,h=>by
  have:kvs=[]:=by simpa using h
  subst this;rfl
 | q::ks,kvs,h=>by
  cases kvs with
  | nil=>simp at h
  | cons q' kvs=>
   simp only [List.map_cons,List.cons.injEq] at h
   refine ⟨_,_,rfl,?_,qOu h.2⟩
   show IsD K B (kD q.1) (kV q'.1)
   rw [h.1]
   cases q.1 <;> rfl
theorem qY4 (i:Nat){x:Str}{p1 p2:Pos}(hc:X.calm=true)(hgl:Gl X "list")(hml:X.mg "list"=none)(hN:X.N[i]?=some x:=by rfl)(hvi:Vis X.env.scope x:=by first | exact Or.inl rfl | exact Or.inr (Or.inl rfl) | exact Or.inr (Or.inr rfl))
  (hd:#[17]=false:=by decide) (hcd:#[33]=false:=by decide)
  (hs:starEach [.Name x p2] X.env=(false,eval (.Name x p2) X.env)::starEach [] X.env:=by rfl) (hp1:(backTo pos #[26]).any (·.1)=false:=by rfl) (hn1:backTo pos #[26]=[]:=by rfl) :
  PX X Ew (.Call (.Name "list" p1) [.Name x p2] [] pos) (qWl i):=by
 refine ⟨fun σ H Q=>∃ a kvs,σ[i]?=some #[25]∧H a=some (.dK kvs)∧∀ l,H l=none→Q (.ref l) (upd H l (.lst (kvs.map fun q=>kV q.1))),fun pins s σ H Q I ⟨a,kvs,ea,eh,q⟩=>?_,fun B0 F0 P B H σ δ Q r p=>?_⟩
 ·refine wpAny_Call_Name_kw (qFg I hgl hml boot_list ?_ #[4] #[4])
  refine PyProof.Rows.callWith_type1 ?_ hs hp1
  rw [hs]
  show wpAny _ _ (spliced ((false,eval (.Name x p2) X.env)::backTo pos #[26])) _ _ s
  rw [hn1]
  refine Calls.spliced_cons #[67]
  subst ey eH
  cases (show iv=Value.ref a from ry)
  obtain ⟨z,hsys,vs,kv,o,es,ep,qE4⟩:=(show qB7 X.prog X.w H2 s2.heap a (.dK kvs) from I2.hok a _ eh)
  have hat:s2.heap.DictAt (qCc X.prog X.w) a vs ep:=⟨o,es,qE4⟩
  have hl:kvs.length=vs.length:=Paired.length kv
  refine PySem.W.kdl_call (PySem.W.kdl_dict (knd:=qCc X.prog X.w) (kvs:=vs) (ep:=ep) hsys) (I2.ok.hd hc) hat #[0] fun h' tk acc' c' kp e hacc=>?_
  have hv:qBu (kvs.map fun q=>kV q.1) acc'.toList:=qNe (P:=X.prog) (w:=X.w) kv (by rw [Array.length_toList];exact hacc.1) fun j v ej=>hacc.2 j v (by rw [←Array.getElem?_toList];exact ej)
  refine ⟨.ref s2.heap.objs.size,_,I2.laid (t':=tk) kp #[10] (show qB7 X.prog X.w _ h' _ (.lst (kvs.map fun q=>kV q.1)) from ⟨by rw [List.length_map];exact z,acc'.toList,c',hv,by rw [Array.toArray_toList];exact e⟩),rfl,q _ (I2.hok.fresh #[10])⟩
 ·unfold qWl at p
  split at p
  ·rename_i ks ei
   obtain ⟨a,kvs,e1,e2,e3,e4,e5,e6⟩:=r.sl i _ ei
   exact ⟨a,kvs,e1,e5,fun l hl=>p B _ (Grow.new r.bh hl (r.bh.free hl)) _ ⟨l,_,rfl,hl,r.bh.free hl,qAu,qOu e6.1⟩⟩
  ·exact p.elim
end
open PySem PySem.Spec PyProof.Rows L2
def qZ5:List D→Option (List Key)
 | []=>some []
 | d::r=>match keyD d,qZ5 r with
  | some k,some ks=>some (k::ks)
  | _,_=>none
def qHi (ks:List (List Key×D))(k:List Key)(d:D):List (List Key×D):=
 if (ks.any fun kv=>decide (kv.1=k))=true then ks.map (fun kv=>if kv.1=k then (kv.1,d) else kv) else ks++[(k,d)]
def qF8 (ks:List (List Key×D))(k:List Key):Option D:=(ks.find? fun kv=>decide (kv.1=k)).map (·.2)
section
variable {K:PySem.W.Frag}{B:Hp}
theorem qR5:∀ {ds:List D} {k:List Key} {vs:List V},qZ5 ds=some k→IsDs K B ds vs→vs=k.map kV
 | [],k,vs,e,h=>by cases e;exact h
 | d::ds,k,vs,e,h=>by
  obtain ⟨v,r,rfl,h1,h2⟩:=h
  unfold qZ5 at e
  split at e
  ·rename_i k1 ks q1 q2
   cases e
   rw [qWr q1 h1,qR5 q2 h2];rfl
  ·cases e
theorem KDt.len {ks:List (List Key×D)}{kvs:List (List Key×V)}(h:KDt K B ks kvs):kvs.length=ks.length:=by have:=congrArg List.length h.1;simpa using this
theorem KDt.swap {k:List Key}{d:D}{v:V}(hd:IsD K B d v):∀ {ks:List (List Key×D)} {kvs:List (List Key×V)},KDt K B ks kvs→KDt K B (ks.map fun kv=>if kv.1=k then (kv.1,d) else kv) (kvs.map fun kv=>if kv.1=k then (kv.1,v) else kv)
 | [],kvs,h=>by
  have:kvs=[]:=by have:=h.len;simpa using this
  subst this;exact ⟨rfl,rfl⟩
 | (k1,d1)::ks,kvs,h=>by
  cases kvs with
  | nil=>have:=h.len;simp at this
  | cons q kvs=>
   obtain ⟨k2,v2⟩:=q
   obtain ⟨h1,u,us,e,h2,h3⟩:=h
   simp only [List.map_cons,List.cons.injEq] at h1 e
   obtain ⟨rfl,rfl⟩:=e
   obtain ⟨rfl,h1⟩:=h1
   have ih:=KDt.swap hd (k:=k) (ks:=ks) (kvs:=kvs) ⟨h1,h3⟩
   by_cases z:k2=k
   ·simp only [List.map_cons,if_pos z]
    exact ⟨by simp only [List.map_cons];rw [ih.1],v,_,rfl,hd,ih.2⟩
   ·simp only [List.map_cons,if_neg z]
    exact ⟨by simp only [List.map_cons];rw [ih.1],v2,_,rfl,h2,ih.2⟩
theorem KDt.put {ks:List (List Key×D)}{kvs:List (List Key×V)}{k:List Key}{d:D}{v:V}(h:KDt K B ks kvs)(hd:IsD K B d v):KDt K B (qHi ks k d) (qJj kvs k v):=by
 have e:(kvs.any fun kv=>decide (kv.1=k))=(ks.any fun kv=>decide (kv.1=k)):=by
  have a1:(kvs.any fun kv=>decide (kv.1=k))=(kvs.map (·.1)).any fun x=>decide (x=k):=by rw [List.any_map];rfl
  have a2:(ks.any fun kv=>decide (kv.1=k))=(ks.map (·.1)).any fun x=>decide (x=k):=by rw [List.any_map];rfl
  rw [a1,a2,h.1]
 unfold qHi qJj
 rw [e]
 split
 ·exact h.swap hd
 ·exact ⟨by rw [List.map_append,List.map_append,h.1];rfl,by rw [List.map_append,List.map_append];exact h.2.app (.one hd)⟩
variable {B0 F0 P H:Hp}{σ:L2.St}{δ:qAj}
theorem R.dtt {B' H':Hp}(r:R K B0 F0 P B H σ δ)(g:Grow B H B' H'){i:Nat}{ks:List (List Key×D)}{a:Addr}{kvs:List (List Key×V)}(h0:H a=none)(hb:B' a=none)(hh:H' a=some (.dT kvs))(h:KDt K B' ks kvs) :
  R K B0 F0 P B' H' (σ.set i #[25]) (δ.set i (.dtt ks)):=by
 have r':=r.grow g
 refine ⟨r'.b0,r'.nw,r'.fh,r'.ph,r'.bh,by rw [List.length_set,List.length_set];exact r.len,fun j s e=>?_,fun j k s t b hjk e1 e2 o1 o2 z1 z2=>?_⟩
 ·by_cases hj:i=j
  ·subst hj
   obtain ⟨rfl,hl⟩:=qBb e
   refine ⟨a,kvs,?_,r.fh.free h0,r.ph.free h0,hb,hh,h⟩
   rw [List.getElem?_set_self (by rw [←r.len];exact hl)]
  ·rw [qAy hj] at e
   rw [qAy hj]
   exact r'.sl j s e
 ·have live:∀ (j:Nat) (s:Sl),δ[j]?=some s→s.isOwn=true→σ[j]?=some #[25]→False:=fun j s e o z=>by
   obtain ⟨_,_,_,u,hu⟩:=qEc r e o z
   rw [h0] at hu;cases hu
  by_cases hj:i=j
  ·subst hj
   by_cases hk:i=k
   ·exact hjk hk
   ·rw [qAy hk] at e2 z2
    obtain ⟨_,hl⟩:=qBb z1
    rw [List.getElem?_set_self hl] at z1
    cases z1
    exact live k t e2 o2 z2
  ·by_cases hk:i=k
   ·subst hk
    rw [qAy hj] at e1 z1
    obtain ⟨_,hl⟩:=qBb z2
    rw [List.getElem?_set_self hl] at z2
    cases z2
    exact live j s e1 o1 z1
   ·rw [qAy hj] at e1 z1
    rw [qAy hk] at e2 z2
    exact r.ne j k s t b hjk e1 e2 o1 o2 z1 z2
theorem R.putt (r:R K B0 F0 P B H σ δ){i:Nat}{ks es:List (List Key×D)}{a:Addr}{us:List (List Key×V)}(ei:δ[i]?=some (.dtt ks))(ea:σ[i]?=some #[25])(hu:KDt K B es us) :
  R K B0 F0 P B (upd H a (.dT us)) σ (δ.set i (.dtt es)):=by
 obtain ⟨a',vs',q1,q2,q3,q4,q5,q6⟩:=r.sl i _ ei
 rw [ea] at q1
 cases q1
 have keep:∀ {G:Hp},qA5 G H→G a=none→qA5 G (upd H a (.dT us)):=fun hs hn b o e=>by
  rw [qAo (qAm e hn)];exact hs b o e
 refine ⟨r.b0,r.nw,keep r.fh q2,keep r.ph q3,keep r.bh q4,by rw [List.length_set];exact r.len,fun j s e=>?_,fun j k s t b hjk e1 e2 o1 o2 z1 z2=>?_⟩
 ·by_cases hj:i=j
  ·subst hj
   obtain ⟨rfl,hl⟩:=qBb e
   exact ⟨a,us,ea,q2,q3,q4,qAu,hu⟩
  ·rw [qAy hj] at e
   have:=r.sl j s e
   cases s with
   | own fs=>
    obtain ⟨c,ws,w1,w2,w3,w4,w5,w6⟩:=this
    have hne:c≠a:=fun z=>by
     subst z
     exact r.ne j i _ _ c (Ne.symm hj) e ei rfl rfl w1 ea
    exact ⟨c,ws,w1,w2,w3,w4,by rw [qAo hne];exact w5,w6⟩
   | dtt fs=>
    obtain ⟨c,ws,w1,w2,w3,w4,w5,w6⟩:=this
    have hne:c≠a:=fun z=>by
     subst z
     exact r.ne j i _ _ c (Ne.symm hj) e ei rfl rfl w1 ea
    exact ⟨c,ws,w1,w2,w3,w4,by rw [qAo hne];exact w5,w6⟩
   | dct fs=>
    obtain ⟨c,ws,w1,w2,w3,w4,w5,w6⟩:=this
    have hne:c≠a:=fun z=>by
     subst z
     exact r.ne j i _ _ c (Ne.symm hj) e ei rfl rfl w1 ea
    exact ⟨c,ws,w1,w2,w3,w4,by rw [qAo hne];exact w5,w6⟩
   | _=>exact this
 ·have back:∀ (j:Nat) (s:Sl),(δ.set i (.dtt es))[j]?=some s→s.isOwn=true→∃ s',δ[j]?=some s'∧s'.isOwn=true:=fun j s e o=>by
   by_cases hj:i=j
   ·subst hj;exact ⟨_,ei,rfl⟩
   ·rw [qAy hj] at e;exact ⟨s,e,o⟩
  obtain ⟨s',e1',o1'⟩:=back j s e1 o1
  obtain ⟨t',e2',o2'⟩:=back k t e2 o2
  exact r.ne j k s' t' b hjk e1' e2' o1' o2' z1 z2
end
theorem KDt.val {K:PySem.W.Frag}{B:Hp}{k:List Key}{d:D}:∀ {ks:List (List Key×D)} {kvs:List (List Key×V)},KDt K B ks kvs→qF8 ks k=some d→∃ v,qP2 kvs k=some v∧IsD K B d v
 | [],kvs,h,e=>by cases e
 | (k1,d1)::ks,kvs,h,e=>by
  cases kvs with
  | nil=>have:=h.len;simp at this
  | cons q kvs=>
   obtain ⟨k2,v2⟩:=q
   obtain ⟨h1,u,us,e1,h2,h3⟩:=h
   simp only [List.map_cons,List.cons.injEq] at h1 e1
   obtain ⟨rfl,rfl⟩:=e1
   obtain ⟨rfl,h1⟩:=h1
   unfold qF8 at e
   unfold qP2
   rw [List.find?_cons] at e ⊢
   by_cases z:k2=k
   ·simp only [z,decide_true,Option.map_some] at e ⊢
    cases e
    exact ⟨_,rfl,h2⟩
   ·simp only [z,decide_false] at e ⊢
    exact KDt.val (ks:=ks) (kvs:=kvs) ⟨h1,h3⟩ e
section
variable {X:Cx}{Ew:XW}{e:Expr}{cs:List Expr}{pos p' pos' dpos tpos:Pos}
def dnewT (i:Nat)(δ:qAj):Rs Fl:=.ok (.nx (δ.set i (.dtt [])))
theorem qVo (i:Nat){x:Str}(hN:X.N.Nodup)(hi:X.N[i]?=some x:=by rfl)(hx:Loc X.env.scope x:=by first | exact Or.inl rfl | exact Or.inr rfl)(hs:swapsWith (.Dict [] [] dpos) (some (.Name x p')) pos.line X.env=pure false:=by rfl)
  (hf:X.fn x=true∨X.env.scope.names.lookup x=some .local:=by first | exact .inl rfl | exact .inr rfl | assumption) :
  PSX X Ew [i] (.Assign [.Name x p'] (.Dict [] [] dpos) pos) (dnewT i):=
 ⟨_,qK2 hN hi hx qRy hs hf,fun B0 F0 P B H σ δ D r p q hq=>p B _ _ (r.dtt (Grow.new r.bh hq (r.bh.free hq)) hq (r.bh.free hq) qAu ⟨rfl,rfl⟩) qH4⟩
end
open PySem
theorem qWe (o:Obj)(f:Array Value→Array Value):(o.mapFields f).dict=o.dict:=by
 obtain ⟨c,d,dt,sl⟩:=o
 cases dt <;> rfl
def qKs (h:Heap)(a:Addr)(cls:Value)(T:Option Addr)(fl:Value):Prop:=
 ∃ oe vs,h.get? a=some oe∧oe.cls=cls∧oe.dict=none∧oe.data=.fields vs∧1 < vs.size∧
  match T with
  | none=>vs[1]?=some .none
  | some t=>vs[1]?=some (.ref t)∧t≠a∧∃ oT ts,h.get? t=some oT∧oT.data=.fields ts∧ts[3]?=some fl
def tl:Option Addr→List Addr
 | none=>[]
 | some t=>[t]
structure Lft (l:List Env) (a:Addr) (cls:Value) (T:Option Addr) (fl:Value) (h h':Heap):Prop where
 keep:∀ b o,h.get? b=some o→b≠a→b∉tl T→b∉l.filterMap (·.frame)→h'.get? b=some o
 slot:∀ b o,h.get? b=some o→(∀ vs,o.data≠.fields vs)→b∈l.filterMap (·.frame)→∃ sl,h'.get? b=some { o with slots:=sl }
 exc:∃ t,qKs h' a cls (some t) fl∧(t∈tl T∨h.get? t=none)
section
variable {M:Model}{A:Around}{E:Value→Shared→Prop}{s:Shared}
theorem qPg {base0:Heap}{env:Env}{outer:List Env}{L a:Addr}{oe:Obj}{vs:Array Value}{head:Value}{nx:Bool}{Q:Unit→Shared→Prop}(hfr:A.frames=some (env::outer))(hl:s.heap.FunFrames base0 (env::outer))(hf:env.frame=some L)
  (he:s.heap.get? a=some oe) (hd:oe.data=.fields vs) (hz:1 < vs.size) (hn:oe.dict=none)
  (hQ:∀ h',Lft (env::outer) a oe.cls none (rawInt L) s.heap h'→Q () { s with heap:=h' }) :
  wpAny M A (do let f ←frameOf env;let pl ←entryPlaceOf L nx;let b ←EntryCells.newEntry head f .none (rawInt L) .none pl;setField (.ref a) 1 b) Q E s:=by
 have hnf:a∉(env::outer).filterMap (·.frame):=by
  intro m
  obtain ⟨_,o,ho,q⟩:=hl.mem m
  rw [he] at ho
  cases ho
  exact q vs hd
 refine wpAny_bind (wpAny_frameOf_fun hfr hl hf ?_)
 intro h1 ⟨z1,z2,z3⟩
 refine wpAny_bind (wpAny_entryPlaceOf ?_)
 intro pl hpl
 unfold EntryCells.newEntry newFields
 refine wpAny_bind (wpAny_newObj_type ?_ (hpl.sizeOk5 ..))
 dsimp only
 generalize hTB:({ cls:=.type "traceback",dict:=none,data:=.fields ([head,.ref L,.none,rawInt L,.none]++(if pl.isEmpty then List.replicate 6 Value.none else pl)).toArray }:Obj)=TB
 have e1:h1.get? a=some oe:=(z2 a hnf).trans he
 have e2:(h1.push TB).get? a=some oe:=Heap.get?_push_of_some TB e1
 have lt:a < h1.objs.size:=Heap.lt_size e1
 have nTa:h1.objs.size≠a:=fun q=>absurd (q ▸ lt) (Nat.lt_irrefl _)
 have hTd:∃ ts,TB.data=.fields ts∧ts[3]?=some (rawInt L):=by
  subst hTB
  exact ⟨_,rfl,by rcases hpl with rfl | ⟨_,_,_,_,_,_,_,rfl⟩ <;> simp⟩
 have hTf:TB.isFreed=false:=by
  obtain ⟨ts,q,_⟩:=hTd
  exact Obj.isFreed_of_fields q
 refine wpAny_setField e2 hd hz (hQ _ ?_)
 have up:∀ b o,b≠a→h1.get? b=some o→((h1.push TB).update a (Obj.mapFields (·.setIfInBounds 1 (Value.ref h1.objs.size)))).get? b=some o:=fun b o n q=>by
  rw [Heap.get?_update_other _ _ (Ne.symm n)]
  exact Heap.get?_push_of_some TB q
 have d3:=Obj.data_mapFields hd (·.setIfInBounds 1 (Value.ref h1.objs.size))
 refine ⟨fun b o q n _ nf=>up b o n ((z2 b nf).trans q),fun b o q nd m=>?_,h1.objs.size,⟨_,_,Heap.get?_update_self _ e2 (Obj.isFreed_of_fields d3),Obj.cls_mapFields ..,(qWe ..).trans hn,d3,?_,?_,nTa,TB,?_⟩,.inr ?_⟩
 ·obtain ⟨sl,q1⟩:=z3 b o q
  exact ⟨sl,up b _ (fun w=>by subst w;rw [he] at q;cases q;exact nd vs hd) q1⟩
 ·rw [Array.size_setIfInBounds];exact hz
 ·simp [hz]
 ·obtain ⟨ts,q1,q2⟩:=hTd
  exact ⟨ts,by rw [Heap.get?_update_other _ _ (Ne.symm nTa)];exact Heap.get?_push_size h1 hTf,q1,q2⟩
 ·cases q:s.heap.get? h1.objs.size with
  | none=>rfl
  | some o=>
   obtain ⟨sl,q1⟩:=z3 _ o q
   exact absurd (Heap.lt_size q1) (Nat.lt_irrefl _)
theorem qZt {base0:Heap}{env:Env}{outer:List Env}{L a:Addr}{cls:Value}{T:Option Addr}{Q:Unit→Shared→Prop}(hfr:A.frames=some (env::outer))(hl:s.heap.FunFrames base0 (env::outer))(hf:env.frame=some L)
  (hx:qKs s.heap a cls T .none) (hQ:∀ h',Lft (env::outer) a cls T (rawInt L) s.heap h'→Q () { s with heap:=h' }):wpAny M A (noteFrame (.ref a) env) Q E s:=by
 obtain ⟨oe,vs,he,rfl,hn,hd,hz,ht⟩:=hx
 unfold noteFrame
 simp only [hf]
 cases T with
 | none=>
  refine wpAny_bind (wpAny_field he hd ht ?_)
  rw [if_neg #[4]]
  exact qPg hfr hl hf he hd hz hn hQ
 | some t=>
  obtain ⟨h1,hne,oT,ts,hT,hdT,h3⟩:=ht
  refine wpAny_bind (wpAny_field he hd h1 ?_)
  rw [if_pos #[6]]
  refine wpAny_bind (wpAny_field hT hdT h3 ?_)
  rw [if_neg (by simp [rawInt])]
  refine wpAny_bind (wpAny_setField hT hdT (Array.getElem?_eq_some_iff.mp h3).1 ?_)
  have oth:∀ b,b≠t→(s.heap.update t (Obj.mapFields (·.setIfInBounds 3 Value.none))).get? b=s.heap.get? b:=fun b n=>Heap.get?_update_other _ _ (Ne.symm n)
  have nrec:∀ b o,s.heap.get? b=some o→(∀ ws,o.data≠.fields ws)→b≠t:=fun b o q nd w=>by
   subst w;rw [hT] at q;cases q;exact nd ts hdT
  refine qPg (s:={ s with heap:=s.heap.update t (Obj.mapFields (·.setIfInBounds 3 Value.none)) }) hfr (hl.of_keeps fun b o q nd=>⟨o,(oth b (nrec b o q nd)).trans q,rfl⟩) hf ((oth a (Ne.symm hne)).trans he) hd hz hn fun h' x=>hQ h' ?_
  refine ⟨fun b o q n m nf=>x.keep b o ((oth b fun w=>m (by rw [w];exact List.mem_singleton.mpr rfl)).trans q) n (fun w=>nomatch w) nf,fun b o q nd m=>x.slot b o ((oth b (nrec b o q nd)).trans q) nd m,?_⟩
  obtain ⟨u,y,w | w⟩:=x.exc
  ·exact nomatch w
  ·refine ⟨u,y,?_⟩
   by_cases ut:u=t
   ·exact .inl (by rw [ut];exact List.mem_singleton.mpr rfl)
   ·exact .inr ((oth u ut).symm.trans w)
structure Flt (a:Addr) (cls:Value) (t:Addr) (h h':Heap):Prop where
 keep:∀ b o,h.get? b=some o→b≠t→h'.get? b=some o
 exc:qKs h' a cls (some t) .none
theorem qLq {a t:Addr}{cls fl:Value}{Q:Unit→Shared→Prop}(hx:qKs s.heap a cls (some t) fl)(hQ:∀ h',Flt a cls t s.heap h'→Q () { s with heap:=h' }):wpAny M A (setFlight (.ref a) none) Q E s:=by
 obtain ⟨oe,vs,he,hc,hn,hd,hz,h1,hne,oT,ts,hT,hdT,h3⟩:=hx
 have z3:3 < ts.size:=(Array.getElem?_eq_some_iff.mp h3).1
 unfold setFlight
 refine wpAny_bind (wpAny_field he hd h1 ?_)
 rw [if_pos #[6]]
 have dT:=Obj.data_mapFields hdT (·.setIfInBounds 3 Value.none)
 refine wpAny_setField hT hdT z3 (hQ _ ⟨fun b o q n=>(Heap.get?_update_other _ _ (Ne.symm n)).trans q,oe,vs,(Heap.get?_update_other _ _ hne).trans he,hc,hn,hd,hz,h1,hne,_,_,Heap.get?_update_self _ hT (Obj.isFreed_of_fields dT),dT,?_⟩)
 simp [z3]
theorem Lft.flt {l:List Env}{a t:Addr}{cls fl:Value}{T:Option Addr}{h h1 h2:Heap}(x:Lft l a cls T fl h h1)(y:Flt a cls t h1 h2)(ht:t∈tl T∨h.get? t=none)(hT:∃ oT ts,h1.get? t=some oT∧oT.data=.fields ts):Lft l a cls T .none h h2:=by
 refine ⟨fun b o q n m nf=>y.keep b o (x.keep b o q n m nf) fun w=>?_,fun b o q nd m=>?_,t,y.exc,ht⟩
 ·subst w
  rcases ht with ht | ht
  ·exact m ht
  ·rw [ht] at q;cases q
 ·obtain ⟨sl,q1⟩:=x.slot b o q nd m
  refine ⟨sl,y.keep b _ q1 fun w=>?_⟩
  subst w
  obtain ⟨oT,ts,k1,k2⟩:=hT
  rw [q1] at k1;cases k1
  exact nd ts k2
theorem qKs.tb {h:Heap}{a t:Addr}{cls fl:Value}(x:qKs h a cls (some t) fl):∃ oT ts,h.get? t=some oT∧oT.data=.fields ts:=by
 obtain ⟨_,_,_,_,_,_,_,_,_,oT,ts,k1,k2,_⟩:=x
 exact ⟨oT,ts,k1,k2⟩
theorem qR4 {base0:Heap}{env:Env}{outer:List Env}{L a:Addr}{cls:Value}{T:Option Addr}{Q:Unit→Shared→Prop}(hfr:A.frames=some (env::outer))(hl:s.heap.FunFrames base0 (env::outer))(hf:env.frame=some L)
  (hx:qKs s.heap a cls T .none) (hQ:∀ h',Lft (env::outer) a cls T .none s.heap h'→Q () { s with heap:=h' }):wpAny M A (noteFrame (.ref a) env) (fun _ s2=>wpAny M A (setFlight (.ref a) none) Q E s2) E s:=by
 refine qZt hfr hl hf hx fun h1 x=>?_
 obtain ⟨t,y,w⟩:=x.exc
 exact qLq (s:={ s with heap:=h1 }) y fun h2 z=>hQ h2 (x.flt z w y.tb)
theorem qWo {base0:Heap}{env:Env}{outer:List Env}{L a:Addr}{cls:Value}{T:Option Addr}{Q:Unit→Shared→Prop}(hfr:A.frames=some (env::outer))(hl:s.heap.FunFrames base0 (env::outer))(hf:env.frame=some L)
  (hx:qKs s.heap a cls T .none) (hQ:∀ h',Lft (env::outer) a cls T .none s.heap h'→Q () { s with heap:=h' }):wpAny M A (leaving env (.ref a)) Q E s:=by
 unfold leaving
 exact wpAny_bind (qR4 hfr hl hf hx hQ)
end
open PySem PySem.Spec PyProof.Rows L2
theorem qOj {P:Program}{w:World}{H:Hp}{h:Heap}{a:Addr}{o:HO}(x:qB7 P w H h a o):∃ u,h.get? a=some u:=by
 induction o with
 | lst xs=>obtain ⟨_,_,_,_,e⟩:=x;exact ⟨_,e⟩
 | tup xs=>obtain ⟨_,_,_,ob,e,_⟩:=x;exact ⟨_,e⟩
 | dK kvs=>obtain ⟨_,_,_,_,o,_,_,e,_⟩:=x;exact ⟨_,e⟩
 | dT kvs=>obtain ⟨_,_,_,_,o,_,_,e,_⟩:=x;exact ⟨_,e⟩
 | set S n=>obtain ⟨o,_,_,_,e,_⟩:=x;exact ⟨_,e⟩
 | ins C dx fs=>obtain ⟨_,_,_,e,_⟩:=x;exact ⟨_,e⟩
 | own y=>exact x
 | xd fs=>obtain ⟨_,⟨_,_,_,e,_⟩,_⟩:=x;exact ⟨_,e⟩
 | rng lo hi=>obtain ⟨_,_,_,e⟩:=x;exact ⟨_,e⟩
 | frz ob u _=>exact ⟨_,x.1⟩
 | tab q=>obtain ⟨_,e,_⟩:=x;exact ⟨_,e⟩
 | met f y=>exact ⟨_,(show h.get? a=some _ from x)⟩
 | ext φ=>exact x.2.1
def Fly (h0 h:Heap)(H:Hp)(a C:Addr):Prop:=h0.get? a=none∧H a=none∧∃ t,qKs h a (.ref C) (some t) .none∧h0.get? t=none∧H t=none
def CXE (P:Program)(w:World):CXT:=fun outer H s E e s'=>
 ∃ a C H',e=.ref a∧s'.os=s.os∧AllBare s'.gens∧Un (frs outer) [] H H' s.heap s'.heap∧HOk P w H' s'.heap∧Fly s.heap s'.heap H' a C∧E e (some C) H'
section
variable {X:Cx}{pins:List (Addr×Obj)}{σ:L2.St}{H H':Hp}{s:Shared}
theorem qMd (I:Inv X pins σ H s)(hex:X.ex=[]){a:Addr}(h:s.heap.get? a=none):X.s₀.heap.get? a=none:=by
 cases q:X.s₀.heap.get? a with
 | none=>rfl
 | some o=>
  obtain ⟨o',e⟩:=I.base.there a o q (by rw [hex];simp)
  rw [h] at e;cases e
theorem qL4 (I:Inv X pins σ H s){a:Addr}(h:s.heap.get? a=none):H a=none:=by
 cases q:H a with
 | none=>rfl
 | some o=>
  obtain ⟨u,e⟩:=qOj (I.hok a o q)
  rw [h] at e;cases e
theorem qWm {l:List Env}{a:Addr}{cls:Value}{T:Option Addr}{h':Heap}(hok:HOk X.prog X.w H s.heap)(hfree:∀ b∈frs l,H b=none)(hHa:H a=none)(hT:∀ t∈tl T,H t=none)(L:Lft l a cls T .none s.heap h'):HOk X.prog X.w H h':=fun x o e=>
 (hok x o e).stay (fun b u hb q=>by
  have nn:∀ c,H c=none→b≠c:=fun c hc z=>by
   subst z
   rcases hb with rfl | hb
   ·rw [hc] at e;cases e
   ·rw [hc] at hb;cases hb
  exact L.keep b u q (nn a hHa) (fun m=>nn b (hT b m) rfl) fun m=>nn b (hfree b m) rfl) (fun _ q=>q) (fun _ _ q=>q) fun _ _ q=>q
theorem qQ9 {a C:Addr}{T:Option Addr}{M:Model}{E:Value→Shared→Prop}{Q:Unit→Shared→Prop}(I:Inv X pins σ H s)(hst:X.stack=X.env::X.outer)(hf:X.env.frame=some X.env.locals)(hex:X.ex=[])(hx:qKs s.heap a (.ref C) T .none)(h0a:X.s₀.heap.get? a=none)(hHa:H a=none)
  (hT:∀ t∈tl T,X.s₀.heap.get? t=none∧H t=none)
  (hQ:∀ s'',s''.os=X.s₀.os→AllBare s''.gens→Un (frs X.outer) [] X.H₀ H X.s₀.heap s''.heap→HOk X.prog X.w H s''.heap→Fly X.s₀.heap s''.heap H a C→Q () s''):wpAny M X.A (leaving X.env (.ref a)) Q E s:=by
 have hfr:X.A.frames=some (X.env::X.outer):=by rw [←hst];exact I.ok.frames
 have hfun:s.heap.FunFrames X.base (X.env::X.outer):=by rw [←hst];exact I.stack
 have hfree:∀ b∈frs (X.env::X.outer),H b=none:=by rw [←hst];exact I.stkFree
 have hmem:∀ b,b∈(X.env::X.outer).filterMap (·.frame)→b=X.env.locals∨b∈frs X.outer:=fun b m=>by
  rw [List.filterMap_cons,hf] at m
  exact List.mem_cons.mp m
 have hup:∀ b,b∈frs X.outer→b∈(X.env::X.outer).filterMap (·.frame):=fun b m=>by
  rw [List.filterMap_cons,hf];exact List.mem_cons_of_mem _ m
 have hex':∀ b:Addr,b∉X.ex:=fun b=>by rw [hex];simp
 have ne0:∀ b o c,X.s₀.heap.get? b=some o→X.s₀.heap.get? c=none→b≠c:=fun b o c e n z=>by subst z;rw [n] at e;cases e
 have nloc:∀ b o,X.s₀.heap.get? b=some o→b≠X.env.locals:=fun b o e=>Nat.ne_of_lt #[58]
 refine qWo hfr hfun hf hx fun h' L=>hQ _ I.os I.bare ?_ (qWm I.hok hfree hHa (fun t m=>(hT t m).2) L) ⟨h0a,hHa,?_⟩
 ·refine ⟨fun b o e n hb _=>?_,fun b o e n hb _=>?_,fun b o e n _=>I.base.free b o e n (hex' b),fun b o e _=>?_,I.base.tups,I.base.frzs,I.base.tbls⟩
  ·refine L.keep b o (I.base.keep b o e n hb (hex' b)) (ne0 b o a e h0a) (fun m=>ne0 b o b e (hT b m).1 rfl) fun m=>?_
   rcases hmem b m with z | z
   ·exact nloc b o e z
   ·exact hb z
  ·obtain ⟨sl,e1⟩:=I.base.slot b o e n hb (hex' b)
   obtain ⟨_,o',ho',hnf⟩:=hfun.mem (hup b hb)
   rw [e1] at ho';cases ho'
   obtain ⟨sl',e2⟩:=L.slot b _ e1 hnf (hup b hb)
   exact ⟨sl',e2⟩
  ·obtain ⟨o',e1⟩:=I.base.there b o e (hex' b)
   by_cases m:b∈(X.env::X.outer).filterMap (·.frame)
   ·obtain ⟨_,o2,ho2,hnf⟩:=hfun.mem m
    rw [e1] at ho2;cases ho2
    obtain ⟨sl,e2⟩:=L.slot b o' e1 hnf m
    exact ⟨_,e2⟩
   ·exact ⟨o',L.keep b o' e1 (ne0 b o a e h0a) (fun m=>ne0 b o b e (hT b m).1 rfl) m⟩
 ·obtain ⟨t,x,m | n⟩:=L.exc
  ·exact ⟨t,x,(hT t m).1,(hT t m).2⟩
  ·exact ⟨t,x,qMd I hex n,qL4 I n⟩
theorem qdm {E:XK}{e:Value}{s':Shared}(I:Inv X pins σ H s)(hex:X.ex=[])(h:CXE X.prog X.w X.stack H s E e s'):∃ a C H',e=.ref a∧Inv X pins σ H' s'∧Fly s.heap s'.heap H' a C∧Un (frs X.stack) [] H H' s.heap s'.heap∧E e (some C) H':=by
 obtain ⟨a,C,H',rfl,os,bare,un,hok,fly,q⟩:=h
 obtain ⟨hh,g,d,t,os'⟩:=s'
 obtain rfl:os'=s.os:=os
 exact ⟨a,C,H',rfl,I.call (h':=hh) (g':=g) (d':=d) (t':=t) (ch:=[]) un hok bare (fun b z=>absurd z #[6]),fly,un,q⟩
end
section
variable {P:Program}{w:World}{K:PySem.W.Frag}{mg:Str→Option Value}{base:Heap}{N:List Str}{qual:Str}{scope:Scope}{f:Addr}{cd:Value}{A:Around}{outer:List Env}{s:Shared}{H:Hp}{E:XK}
end
open PySem PySem.Spec PyProof.Rows L2
structure XcE (X:Cx) (E:XK):Prop where
 stk:X.stack=X.env::X.outer
 frm:X.env.frame=some X.env.locals
 ex:X.ex=[]
 calm:X.calm=true
 xe:X.xe=fun e s'=>wpAny #[9] X.A (leaving X.env e) (fun _ s''=>CXE X.prog X.w X.outer X.H₀ X.s₀ E e s'') (fun e' s''=>CXE X.prog X.w X.outer X.H₀ X.s₀ E e' s'') s'
theorem qRa {P:Program}{w:World}{K:PySem.W.Frag}{mg:Str→Option Value}{base:Heap}{N:List Str}{qual:Str}{scope:Scope}{f:Addr}{cd:Value}{A:Around}{outer:List Env}{s:Shared}{H:Hp}{E:XK} :
  XcE (qLt (CXE P w) P w K mg base N qual scope f cd A outer s H E) E:=⟨rfl,rfl,rfl,rfl,rfl⟩
theorem XcE.pass {X:Cx}{E:XK}(x:XcE X E):qPz (CXE X.prog X.w) X E:=by
 intro pins σ H1 s1 e s' I hx
 obtain ⟨a,C,H',rfl,I',⟨ha,hHa,t,hxa,h0t,hHt⟩,_,q⟩:=qdm I x.ex hx
 rw [x.xe]
 exact qQ9 I' x.stk x.frm x.ex hxa (qMd I x.ex ha) hHa (fun t' m=>by
  have:t'=t:=by simpa [tl] using m
  subst this;exact ⟨qMd I x.ex h0t,hHt⟩) fun s'' k1 k2 k3 k4 k5=>⟨a,C,H',rfl,k1,k2,k3,k4,k5,q⟩
theorem qc8 {K:PySem.W.Frag}{h:Heap}{mg:Str→Option Value}{x:Str}{C:Addr}{bmB:List Value}{newId:String}(X:K.In h)(hm:mg x=some (.ref C))(q:PySem.W.excIn K C bmB newId=true):OwnCls x C bmB newId mg h:=by
 constructor
 ·exact hm
 unfold PySem.W.excIn at q
 split at q
 case h_2=>cases q
 rename_i dd cdat slots look
 split at q
 case h_2=>cases q
 rename_i D bases a0 a1 a2 a3 made a5 hmro hslots
 simp only [Bool.and_eq_true,beq_iff_eq,Bool.not_eq_true'] at q
 obtain ⟨⟨⟨⟨⟨eD,eM⟩,hdel⟩,htail⟩,hns⟩,hinit⟩:=q
 subst eD eM
 cases cdat with
 | mk nm bs mro ns qn hd sn sub ab col del=>
  simp only at hmro hdel hns hinit
  subst hmro;subst hdel
  have eS:slots=#[a0,a1,a2,a3,some (.builtin made),a5]:=Array.ext' hslots
  subst eS
  refine ⟨bases,ns,nm,qn,bs,hd,sn,sub,ab,col,dd,a0,a1,a2,a3,a5,h.nsMap ns,X _ _ look,?_,?_,PySem.W.tail_of_in X htail⟩
  ·exact Heap.Ns.of_isNs (PySem.W.isNs_of_in X hns)
  ·exact PySem.W.nsMap_none_of_in X hns hinit
section
variable {X:Cx}{E:XK}{x:Str}{C:Addr}{e:Expr}{es:List Expr}{np cpos pos:Pos}{ta:TA}{bmB:List Value}{B newId initId:String}
theorem qZi (xc:XcE X E)(hg:Gl X x)(hm:X.mg x=some (.ref C))(q:PySem.W.excIn X.K C bmB newId=true)(FB:ExcBaseFacts B newId initId bmB)(ha:PA X (e::es) ta)(hdb:#[17]=false:=by decide)
  (he:starEach (e::es) X.env=#[22]::starEach es X.env:=by rfl) (hpl:(backTo cpos (starEach es X.env)).any (·.1)=false:=by rfl) :
  PS X (.Raise (some (.Call (.Name x np) (e::es) [] cpos)) none pos) (fun D σ H=>ta σ H fun vs H1=>vs.length≤sizeLine∧∀ a,H1 a=none→E (.ref a) (some C) H1):=by
 intro pins s σ H D I h
 obtain ⟨tail,N,nm,qn,bs,hdct,sn,sub,ab,col,dd,k0,k1,k2,k3,k5,mN,hC,hN,hni,TL⟩:=(qc8 I.ok.mod.kin hm q).obj
 have hh:X.A.handled=none:=I.ok.hd xc.calm
 refine wpAny_Raise_call_subT (C:=C) (nm:=nm) (q:=qn) (N:=N) (bs:=bs) (bm:=tail) (hdct:=hdct) (sn:=sn) (sub:=sub) (ab:=ab) (col:=col) (dd:=dd) (k0:=k0) (k1:=k1) (k2:=k2) (k3:=k3) (k5:=k5) (mN:=mN) FB (TL.hasType FB.hasBase) hh
  (by rw [he];show (false || (backTo cpos (starEach es X.env)).any (·.1))=false;rw [hpl];rfl) hni (qF0 I hg hm ⟨rfl,?_⟩ hdb)
 have hp:=ha cpos pins s σ H _ I h
 rw [he] at hp ⊢
 refine Calls.evalArgs_plain (thn hp fun us s2 ⟨vs,H2,I2,r,z,w⟩=>⟨rfl,by show us.length≤_;rw [←r.length];exact z,I2.bk _ _ hC,hN.keeps I2.bk,TL.keeps I2.bk,fun h' a hx=>?_⟩)
 obtain ⟨t,e1,e2,e3⟩:=hx.there
 have I3:Inv X pins σ H2 { s2 with heap:=h' }:=I2.kept (t':=s2.toks) fun b u k=>hx.keeps b u k
 rw [xc.xe]
 exact qQ9 (T:=none) I3 xc.stk xc.frm xc.ex ⟨_,_,e1,rfl,rfl,rfl,Nat.le_of_ble_eq_true rfl,rfl⟩ (qMd I2 xc.ex hx.new) (qL4 I2 hx.new) (fun t m=>nomatch m) fun s'' j1 j2 j3 j4 j5=>⟨a,C,H2,rfl,j1,j2,j3,j4,j5,w _ (qL4 I2 hx.new)⟩
end
open PySem PySem.Spec PyProof.Rows L2
def Xm (X:Cx)(a:Addr):Cx:={ X with A:=X.A.mark #[25],calm:=false,xe:=fun _ _=>False }
section
variable {X:Cx}{pins:List (Addr×Obj)}{σ:L2.St}{H H1 H2:Hp}{s:Shared}{a C:Addr}
theorem qda (ok:X.Ok)(a:Addr):(Xm X a).Ok:=
 ⟨ok.mod,ok.kind,ok.glob,ok.blt,ok.above,ok.inj,ok.has,ok.cab,#[36],ok.frames,ok.stk,ok.exf,ok.bs,ok.bsz,ok.noex,ok.exfs,ok.funs,ok.frf,ok.tab⟩
theorem qR6 (I:Inv X pins σ H s)(a:Addr):Inv (Xm X a) pins σ H s:=⟨qda I.ok a,I.os,I.bare,I.base,I.loc,I.cell,I.free,I.freeC,I.pin,I.hok,I.len⟩
theorem qTz (ok:X.Ok)(I:Inv (Xm X a) pins σ H s):Inv X pins σ H s:=⟨ok,I.os,I.bare,I.base,I.loc,I.cell,I.free,I.freeC,I.pin,I.hok,I.len⟩
theorem un_lft {l:List Env}{cls:Value}{t:Addr}{h h1 h2:Heap}(u:Un (frs l) [] H1 H2 h h1)(hfun:∀ b o,b∈l.filterMap (·.frame)→h1.get? b=some o→∀ vs,o.data≠.fields vs)(L:Lft l a cls (some t) .none h1 h2)(ha:h.get? a=none)(ht:h.get? t=none):Un (frs l) [] H1 H2 h h2:=by
 have ne:∀ b o c,h.get? b=some o→h.get? c=none→b≠c:=fun b o c e n z=>by subst z;rw [n] at e;cases e
 have nt:∀ b o,h.get? b=some o→b∉tl (some t):=fun b o e m=>ne b o t e ht (by simpa [tl] using m)
 refine ⟨fun b o e n hb hx=>L.keep b o (u.keep b o e n hb hx) (ne b o a e ha) (nt b o e) hb,fun b o e n hb hx=>?_,fun b o e n hx=>u.free b o e n hx,fun b o e hx=>?_,u.tups,u.frzs,u.tbls⟩
 ·obtain ⟨sl,e1⟩:=u.slot b o e n hb hx
  obtain ⟨sl',e2⟩:=L.slot b _ e1 (hfun b _ hb e1) hb
  exact ⟨sl',e2⟩
 ·obtain ⟨o',e1⟩:=u.there b o e hx
  by_cases m:b∈l.filterMap (·.frame)
  ·obtain ⟨sl,e2⟩:=L.slot b o' e1 (hfun b _ m e1) m
   exact ⟨_,e2⟩
  ·exact ⟨o',L.keep b o' e1 (ne b o a e ha) (nt b o e) m⟩
theorem qYl {fs:List Addr}{h h2:Heap}{o:HO}(u:Un fs [] H1 H2 h h2)(ha:h.get? a=none)(hHa:H2 a=none):Un fs [] H1 (upd H2 a o) h h2:=
 ⟨u.keep,u.slot,fun b q e n hx=>by
  rw [qAo (fun z=>by subst z;rw [ha] at e;cases e)];exact u.free b q e n hx,u.there,fun b xs e=>by rw [qAo (qAm (u.tups b xs e) hHa)];exact u.tups b xs e,fun b q v e=>by rw [qAo (qAm (u.frzs b q v e) hHa)];exact u.frzs b q v e,fun b ps e=>by rw [qAo (qAm (u.tbls b ps e) hHa)];exact u.tbls b ps e⟩
theorem qW1 {P:Program}{w:World}{h:Heap}(k:HOk P w H2 h)(hHa:H2 a=none)(hx:∃ o vs,h.get? a=some o∧o.cls=.ref C∧o.dict=none∧o.data=.fields vs):HOk P w (upd H2 a (qYg a C)) h:=fun b o e=>by
 by_cases z:b=a
 ·subst z
  rw [qAu] at e;cases e
  obtain ⟨o,vs,e1,e2⟩:=hx
  exact ⟨⟨o,vs,e1,e2⟩,⟨o,e1⟩,fun h1 h2 ⟨o,vs,p1,p2⟩ st=>⟨o,vs,st o p1,p2⟩⟩
 ·rw [qAo z] at e
  exact (k b o e).stay (fun _ _ _ q=>q) (fun c q=>by rw [qAo (qAm q hHa)];exact q) (fun c xs q=>by rw [qAo (qAm q hHa)];exact q) fun c xs q=>by rw [qAo (qAm q hHa)];exact q
theorem qT0 {h':Heap}{m':Str→Option Value}{t':Nat}(I:Inv X pins σ H s)(hn:h'.Ns X.env.locals m')(sb:Heap.SameBut X.env.locals s.heap h'):Inv X pins (σ.map fun _=>none) H { s with heap:=h',toks:=t' }:=by
 have kp:∀ b o,b≠X.env.locals→s.heap.get? b=some o→h'.get? b=some o:=fun b o n e=>(sb.2 b n).trans e
 obtain ⟨oL,_,_,hL,_⟩:=id hn
 have neL:∀ b o,X.s₀.heap.get? b=some o→b≠X.env.locals:=fun b o e=>Nat.ne_of_lt #[58]
 refine ⟨I.ok,I.os,I.bare,⟨fun b o e n hb hx=>kp b o (neL b o e) (I.base.keep b o e n hb hx),fun b o e n hb hx=>?_,I.base.free,fun b o e hx=>?_,I.base.tups,I.base.frzs,I.base.tbls⟩,⟨m',hn,fun i x v e1 e2=>?_⟩,fun x c e=>?_,I.free,I.freeC,fun p hp=>?_,fun b o e=>?_,by rw [List.length_map];exact I.len⟩
 ·obtain ⟨sl,e1⟩:=I.base.slot b o e n hb hx
  exact ⟨sl,kp b _ (neL b o e) e1⟩
 ·obtain ⟨o',e1⟩:=I.base.there b o e hx
  exact ⟨o',kp b o' (neL b o e) e1⟩
 ·rw [List.getElem?_map] at e2
  cases q:σ[i]? with
  | none=>rw [q] at e2;cases e2
  | some z=>rw [q] at e2;cases e2
 ·obtain ⟨v,o,ho,hd⟩:=I.cell x c e
  exact ⟨v,o,kp c o (I.cne x c e) ho,hd⟩
 ·obtain ⟨e,n,ne,nf,d⟩:=I.pin p hp
  exact ⟨kp p.1 p.2 ne e,n,ne,nf,d⟩
 ·refine (I.hok b o e).stay (fun c u hc q=>kp c u (fun z=>?_) q) (fun _ q=>q) (fun _ _ q=>q) fun _ _ q=>q
  subst z
  rcases hc with rfl | hc
  ·rw [I.free] at e;cases e
  ·rw [I.free] at hc;cases hc
end
def PEx (X:Cx)(ex:Expr)(tb:XK→TE):Prop:=
 ∀ (pins:List #[8]) (s:Shared) (σ:L2.St) (H:Hp) (Q:VK) (E1:XK) (Ex:Value→Shared→Prop),Inv X pins σ H s→(∀ H1 s1 e s',Inv X pins σ H1 s1→CXE X.prog X.w X.stack H1 s1 E1 e s'→Ex e s')→tb E1 σ H Q→
  wpAny #[9] X.A (eval ex X.env) (EP X pins σ Q) Ex s
section
variable {X:Cx}{i:Nat}{n cls:Str}{ex hx:Expr}{tb:XK→TE}{th:TE}{np rpos qpos hpos pos:Pos}{Cc:Addr}
def Caught (X:Cx)(i:Nat)(Cc:Addr)(th:TE)(σ:L2.St)(D:Ends):XK:=fun e c H2=>∃ a C,e=.ref a∧c=some C∧PySem.W.exmOne X.K (.ref C) (.ref Cc)=some true∧th (σ.set i #[25]) (upd H2 a (qYg a C)) fun v H3=>D.rt v H3
theorem ps_try (hN:X.N.Nodup)(hi:X.N[i]?=some n)(hn:X.env.scope.names.lookup n=some .local)(hkn:X.env.kindOf n=some .local)(hst:X.stack=X.env::X.outer)(hf:X.env.frame=some X.env.locals)(hg:Gl X cls)(hm:X.mg cls=some (.ref Cc))(hb:PEx X ex tb)
  (hh:∀ a,PE (Xm X a) hx th) (hdb:(cls == ("__debug__":Str))=false:=by decide) :
  PS X (.Try [.Return (some ex) rpos] [.ExceptHandler (some (.Name cls np)) (some n) [.Return (some hx) qpos] hpos] [] [] pos) (fun D σ H=>tb (Caught X i Cc th σ D) σ H fun v H'=>D.rt v H'):=by
 intro pins s σ H D I h
 refine wpAny_Try_except (wpAny_execs_cons (wpAny_Return_some (thn (hb pins s σ H _ _ _ I ?_ h) fun v s1 ⟨x,H1,I1,r1,q1⟩=>?_)))
 ·intro H1 s1 e s' I1 hc
  obtain ⟨a,C,H2,rfl,os,bare,un,hok,⟨h0a,hHa,t,hxa,h0t,hHt⟩,a',C',ea,eC,hmt,q⟩:=hc
  cases ea;cases eC
  have I':Inv X pins σ H2 s':=I1.call' (ch:=[]) os un hok bare fun b z=>absurd z #[6]
  have hfr:X.A.frames=some (X.env::X.outer):=by rw [←hst];exact I.ok.frames
  have hfun:s'.heap.FunFrames X.base (X.env::X.outer):=by rw [←hst];exact I'.stack
  have hfree:∀ b∈frs (X.env::X.outer),H2 b=none:=by rw [←hst];exact I'.stkFree
  have hnf:∀ b o,b∈(X.env::X.outer).filterMap (·.frame)→s'.heap.get? b=some o→∀ vs,o.data≠.fields vs:=fun b o m q=>by
   obtain ⟨_,o',ho',z⟩:=hfun.mem m
   rw [q] at ho';cases ho';exact z
  have inv:∀ {h6:Heap},Lft (X.env::X.outer) a (.ref C) (some t) .none s'.heap h6→Inv X pins σ (upd H2 a (qYg a C)) { s' with heap:=h6 }:=fun L=>by
   obtain ⟨_,⟨ob,vs,e1,e2,e3,e4,_⟩,_⟩:=L.exc
   rw [hst] at un
   refine I1.call' (ch:=[]) os ?_ (qW1 (qWm (X:=X) (s:=s') hok hfree hHa (fun t' m=>by
    have:t'=t:=by simpa [tl] using m
    subst this;exact hHt) L) hHa ⟨ob,vs,e1,e2,e3,e4⟩) bare fun b z=>absurd z (by simp)
   rw [hst]
   exact qYl (un_lft un hnf L h0a h0t) h0a hHa
  refine qR4 hfr hfun hf hxa fun h5 L5=>?_
  have I5:=inv L5
  refine wpAny_handleBy_cons (codeAny_handlers_test (qF0 (qR6 I5 a) hg hm ?_ hdb)) (by intro z;cases z)
  obtain ⟨t5,x5,w5⟩:=L5.exc
  have LT:PySem.W.Looks #[9] h5 (typeOf (.ref a)) (.ref C):=by
   obtain ⟨ob,vs,e1,e2,_⟩:=x5
   have:=(PySem.W.Looks.ld (M:=model X.prog X.w) (part:=none) e1).andThen (f:=fun o=>pure o.cls) .now
   rw [e2] at this;exact this
  refine (PySem.W.exm_one (M:=model X.prog X.w) I5.kIn LT hmt).here ?_
  refine codeAny_handlers_suite_as ?_
  refine qLq (s:={ s' with heap:=h5 }) x5 fun h6 F6=>?_
  have I6:=inv (L5.flt F6 w5 x5.tb)
  refine qIj (v:=.ref a) I6 hN hi (.inl hn) rfl (fun s7 I7=>?_) (.inr hn)
  refine wpAny_execs_cons (wpAny_Return_some (wpAny_mono (hh a pins s7 _ _ _ (qR6 I7 a) q) (fun v s8 ⟨x,H8,I8,r8,q8⟩=>?_) fun _ _ z=>z.elim))
  have I9:Inv X pins (σ.set i #[25]) H8 s8:=qTz I.ok I8
  obtain ⟨m,hnm,_⟩:=I9.loc
  refine wpAny_nameGoes hkn hnm (by rw [I.ok.kind];rfl) fun h' m' hn' sb=>?_
  exact ⟨x,_,H8,qT0 I9 hn' sb,r8,q8⟩
 ·exact ⟨x,σ,H1,I1,r1,q1⟩
end
open PySem PySem.Spec PyProof.Rows L2
structure ExcKit (K:PySem.W.Frag) (D:Addr):Prop where
 cls:(PySem.W.clsIn K D).isSome=true
 ga:PySem.W.findIn K (.ref D) "__getattribute__"=some (some (.builtin "BaseException.__getattribute__"))
 gn:PySem.W.findIn K (.ref D) "__getattr__"=some none
 at_:PySem.W.findIn K (.ref D) "__class__"=some (some (.builtin "object.__class__"))
 get:PySem.W.specialIn K (.builtin "object.__class__") "__get__"=some (some (.builtin "getset_descriptor.__get__"))
 tk:PySem.W.takesIn K (.builtin "object.__class__")=some true
 obj:PySem.W.mroIn K D (.type "object")=some true
 base:PySem.W.subIn K (.ref D) (.type "BaseException")=some true
section
variable {prog:Program}{w:World}{A:Around}{E:Value→Shared→Prop}{K:PySem.W.Frag}{a D:Addr}{o:Obj}{vs:Array Value}
theorem qSp {h:Heap}(hx:h.get? a=some o)(hc:o.cls=.ref D)(hn:o.dict=none)(hd:o.data=.fields vs):PySem.W.InstAt h a o D none:=by
 refine ⟨hx,hc,?_,?_⟩
 ·unfold PySem.W.notCls;rw [hd]
 ·rw [hn];trivial
theorem qap (k:ExcKit K D):PySem.W.findObj K D none "__class__"=some (.bind (.builtin "getset_descriptor.__get__") (.builtin "object.__class__")):=by
 obtain ⟨cd,hcd⟩:=Option.isSome_iff_exists.mp k.cls
 unfold PySem.W.findObj
 rw [hcd,Option.bind_some,k.at_,Option.bind_some]
 simp [k.get,k.tk]
theorem qXp {s:Shared}{tk:Tok}{Q:Fin→Shared→Prop}(k:ExcKit K D)(X:K.In s.heap)(I:PySem.W.InstAt s.heap a o D none)(hq:Q (.done (.ret (.ref D))) s) :
  wpAny #[18] A (Builtin.«object.__getattribute__» ⟨[.ref a,.str "__class__" tk],[]⟩) Q E s:=by
 obtain ⟨hh,g,d,t,os⟩:=s
 have L0:=I.type (M:=model prog w)
 have L1:=PySem.W.looks_find (M:=model prog w) X I (qap k)
 have hx:=I.at_
 have hc:=I.cls
 unfold Builtin.«object.__getattribute__»
 repeat (first | with_reducible refine L1.at ?_ | (with_reducible refine wpAny_loadPart_at hx ?_;rw [hc]) | wp_step)
 exact PySem.W.class_get X I k.obj (wpAny_pure hq)
theorem qXr {s:Shared}{M:Model}{nm:Value}{Q:Unit→Shared→Prop}(k:ExcKit K D)(X:K.In s.heap)(I:PySem.W.InstAt s.heap a o D none)(hq:Q () s) :
  wpAny M A (checkBuiltinCall "BaseException.__getattribute__" ⟨[.ref a,nm],[]⟩) Q E s:=by
 have h1:builtinKind "BaseException.__getattribute__"=some .slot:=by decide +kernel
 have h2:splitId "BaseException.__getattribute__"=some ("BaseException","__getattribute__"):=by decide +kernel
 have h3:=F.args_bexc_ga (.ref a) nm
 have L0:=I.type (M:=M)
 have L2:=PySem.W.looks_subIn (M:=M) X k.base
 simp only [checkBuiltinCall,h1,h2]
 refine wpAny_bind ?_
 unfold isInstance
 refine wpAny_bind (L0.here ?_)
 refine L2.here ?_
 repeat (first | exact hq | wp_step)
theorem qXq {s:Shared}{Q:Option Value→Shared→Prop}(k:ExcKit K D)(X:K.In s.heap)(I:PySem.W.InstAt s.heap a o D none)(hq:Q (some (.ref D)) { s with toks:=s.toks + 1 }) :
  wpAny #[18] A (getAttr? (.ref a) "__class__") Q E s:=by
 obtain ⟨hh,g,d,t,os⟩:=s
 have L0:=I.type (M:=model prog w)
 have L1:=PySem.W.looks_findIn (M:=model prog w) X k.ga
 have L2:=PySem.W.looks_findIn (M:=model prog w) X k.gn
 unfold getAttr? getAttrBy? getAttrBy
 refine wpAny_bind (wpAny_mkText (wpAny_bind (wpAny_attempt (wpAny_holding (wpAny_bind (L0.at (wpAny_bind (L1.at ?_))))))))
 dsimp only
 have hno:¬ (onTheHeap (Value.ref D) && Value.builtin "BaseException.__getattribute__" == Value.builtin "object.__getattribute__")=true:=by
  have:(Value.builtin "BaseException.__getattribute__" == Value.builtin "object.__getattribute__")=false:=by decide +kernel
  rw [this,Bool.and_false];exact Bool.false_ne_true
 rw [if_neg hno]
 unfold getAttrByItsOwn hookBefore
 refine wpAny_bind (L2.at ?_)
 refine wpAny_bind (wpAny_attempt (wpAny_holding ?_))
 show wpAny _ _ (boundAndCalled _ _ _) _ _ _
 unfold boundAndCalled
 refine wpAny_bind (wpAny_of_eq (F.attr_ValueError.ga.bind (.ref a)) ?_)
 refine wpAny_call (codeAny_call_builtin F.attr_ValueError.ga.plain F.entry_bexc_ga ?_)
 refine qXr (s:=⟨hh,g,d,t + 1,os⟩) k X I (qXp (s:=⟨hh,g,d,t + 1,os⟩) k X I ?_)
 exact PySem.W.handed_on rfl (wpAny_pure hq)
theorem qZ4 (k:ExcKit K D):PySem.W.KitX K (.ref a) (.ref D) (fun h=>∃ o vs,h.get? a=some o∧o.cls=.ref D∧o.dict=none∧o.data=.fields vs) where
 ty:=fun M h _ p=>by
  obtain ⟨o,vs,e1,e2,e3,e4⟩:=p
  exact (qSp e1 e2 e3 e4).type
 it:=fun M h X _=>by
  obtain ⟨cd,hcd⟩:=Option.isSome_iff_exists.mp k.cls
  unfold PySem.W.clsIn at hcd
  split at hcd
  ·rename_i q
   intro A' Q' E' s' st z
   unfold isType loadHead
   exact wpAny_bind (wpAny_loadPart (st _ _ (X _ _ q)) (wpAny_pure z))
  ·cases hcd
 ne:=fun h tp dd its n sl X htp=>by
  obtain ⟨cd,hcd⟩:=Option.isSome_iff_exists.mp k.cls
  refine Bool.eq_false_iff.mpr fun z=>?_
  cases Value.ref.inj (beq_iff_eq.mp z)
  unfold PySem.W.clsIn at hcd
  split at hcd
  ·rename_i q
   cases (X _ _ q).symm.trans htp
  ·cases hcd
 ca:=fun X p z=>by
  obtain ⟨o,vs,e1,e2,e3,e4⟩:=p
  exact qXq k X (qSp e1 e2 e3 e4) z
end
open PySem PySem.Spec PyProof.Rows L2
def qP5 (i:Nat)(tab:List (Str×Bool)):qAj→Rs W:=fun δ=>match δ[i]? with
 | some (.exc x)=>match tab.lookup x with
  | some b=>.ok (.im (.bl b))
  | none=>.no
 | _=>.no
def rExc (K:PySem.W.Frag)(cv:Value)(cV:V):List V→Hp→VK→Prop:=fun xs H Q=>∃ a C b,xs=[.ref a,cV]∧H a=some (qYg a C)∧ExcKit K C∧PySem.W.kitOne K (.ref C) cv=some b∧Q (.bl b) H
section
variable {X:Cx}{Ew:XW}{p p1 p2 pos:Pos}{e Tn:Str}{i:Nat}{tab:List (Str×Bool)}
theorem qPn {cv:Value}{cV:V}(hcv:∀ u,RelV cV u→u=cv):qEh X (.builtin "isinstance") (rExc X.K cv cV):=by
 intro pins s σ H xs us Q I rx ⟨a,C,b,exs,hH,kit,hb,q⟩
 subst exs
 cases rx with
 | cons r1 r2=>
  cases r2 with
  | cons r3 r4=>
   cases r4
   cases hcv _ r3
   cases (show _=Value.ref a from r1)
   obtain ⟨φ,_,_⟩:=I.hok a _ hH
   exact PySem.W.kia_one (qZ4 kit) I.kIn φ hb #[36] fun tk=>⟨.bl b,H,I.tok tk,rfl,q⟩
def qa2 (K:PySem.W.Frag)(cv:Value)(tab:List (Str×Bool)):Prop:=∀ x b,tab.lookup x=some b→∀ C,PySem.W.nsIn K mainGlobals x=some (some (.ref C))→ExcKit K C∧PySem.W.kitOne K (.ref C) cv=some b
theorem qOs {K:PySem.W.Frag}{cv:Value}{cV:V}(ht:qa2 K cv tab){B0 F0 P B H:Hp}{σ:L2.St}{δ:qAj}{Q:VK}(r:R K B0 F0 P B H σ δ)(p:qF6 K Ew B H (qP5 i tab δ) Q):∃ a,σ[i]?=some #[25]∧rExc K cv cV [.ref a,cV] H Q:=by
 unfold qP5 at p
 split at p
 ·rename_i x ei
  obtain ⟨a,C,e1,e2,e3⟩:=r.sl i _ ei
  split at p
  ·rename_i b eb
   obtain ⟨k1,k2⟩:=ht x b eb C e2
   exact ⟨a,e1,a,C,b,rfl,r.bh _ _ e3,k1,k2,p B H (Grow.refl r.bh) _ rfl⟩
  ·exact p.elim
 ·exact p.elim
theorem qcn (ht:∀ Cc,X.mg Tn=some (.ref Cc)→qa2 X.K (.ref Cc) tab)(hmT:∃ Cc,X.mg Tn=some (.ref Cc))(hgT:Gl X Tn)(hg:Gl X "isinstance")(hm:X.mg "isinstance"=none)(hN:X.N[i]?=some e:=by rfl)(hv:Vis X.env.scope e:=by first | exact Or.inl rfl | exact Or.inr (Or.inl rfl) | exact Or.inr (Or.inr rfl))
  (hd:(e == ("__debug__":Str))=false:=by decide) (hcd:(e == ("__classdict__":Str))=false:=by decide) (hdT:(Tn == ("__debug__":Str))=false:=by decide)
  (he:starEach [.Name e p1,.Name Tn p2] X.env=(false,eval (.Name e p1) X.env)::starEach [.Name Tn p2] X.env:=by rfl) (he2:starEach [.Name Tn p2] X.env=(false,eval (.Name Tn p2) X.env)::starEach [] X.env:=by rfl)
  (hpl:(backTo pos (starEach [.Name Tn p2] X.env)).any (·.1)=false:=by rfl) :
  PX X Ew (.Call (.Name "isinstance" p) [.Name e p1,.Name Tn p2] [] pos) (qP5 i tab):=by
 obtain ⟨Cc,hmT⟩:=hmT
 refine ⟨_,qGi (qPn (cv:=.ref Cc) (cV:=.ref Cc) (fun u z=>z)) hg hm boot_isinstance (qBx (qCb hN hv hd hcd) (qBx (qQm (v:=.ref Cc) hgT hmT rfl hdT) qCx he2) he) #[4] #[4] he hpl,fun B0 F0 P B H σ δ Q r p=>?_⟩
 obtain ⟨a,e1,q⟩:=qOs (cV:=.ref Cc) (ht Cc hmT) r p
 exact ⟨_,e1,q⟩
theorem qco {T:String}(ht:qa2 X.K (.type T) tab)(hvT:bootBuiltins Tn=some (.type T))(hmT:X.mg Tn=none)(hgT:Gl X Tn)(hg:Gl X "isinstance")(hm:X.mg "isinstance"=none)(hN:X.N[i]?=some e:=by rfl)(hv:Vis X.env.scope e:=by first | exact Or.inl rfl | exact Or.inr (Or.inl rfl) | exact Or.inr (Or.inr rfl))
  (hd:(e == ("__debug__":Str))=false:=by decide) (hcd:(e == ("__classdict__":Str))=false:=by decide) (hnT:Tn≠"__name__":=by decide) (hdT:(Tn == ("__debug__":Str))=false:=by decide)
  (he:starEach [.Name e p1,.Name Tn p2] X.env=(false,eval (.Name e p1) X.env)::starEach [.Name Tn p2] X.env:=by rfl) (he2:starEach [.Name Tn p2] X.env=(false,eval (.Name Tn p2) X.env)::starEach [] X.env:=by rfl)
  (hpl:(backTo pos (starEach [.Name Tn p2] X.env)).any (·.1)=false:=by rfl) :
  PX X Ew (.Call (.Name "isinstance" p) [.Name e p1,.Name Tn p2] [] pos) (qP5 i tab):=by
 refine ⟨_,qGi (qPn (cv:=.type T) (cV:=.ty T) (fun u z=>z)) hg hm boot_isinstance (qBx (qCb hN hv hd hcd) (qBx (qVz (v:=.ty T) hgT hmT hvT rfl hnT hdT) qCx he2) he) #[4] #[4] he hpl,fun B0 F0 P B H σ δ Q r p=>?_⟩
 obtain ⟨a,e1,q⟩:=qOs (cV:=.ty T) ht r p
 exact ⟨_,e1,q⟩
end
def rCount:V→List V→Hp→VK→Prop:=fun x vs H Q=>∃ (l:Addr) (xs:List V) (bs:List Bool),x=.ref l∧vs=[.bl true]∧H l=some (.lst xs)∧xs=bs.map V.bl∧Q (.int (bs.countP id:Nat)) H
def rIndex:V→List V→Hp→VK→Prop:=fun x vs H Q=>∃ (l:Addr) (xs:List V) (bs:List Bool) (j:Nat),x=.ref l∧vs=[.bl true]∧H l=some (.lst xs)∧xs=bs.map V.bl∧bs.length < 1000∧bs.findIdx? id=some j∧Q (.int (j:Nat)) H
section
variable {X:Cx}
theorem qM6:∀ {bs:List Bool} {us:List Value},qBu (bs.map V.bl) us→us=bs.map Value.bool
 | [],_,h=>by cases h;rfl
 | b::bs,_,h=>by
  cases h with
  | cons r t=>cases (show _=Value.bool b from r);rw [qM6 t];rfl
theorem qZx:MtM X "list.count" rCount:=by
 intro pins s σ H x vs v us Q I rx rv h
 obtain ⟨l,xs,bs,rfl,rfl,hH,rfl,q⟩:=h
 cases rx
 obtain ⟨u,rfl,ru⟩:=rv.one
 cases (show u=Value.bool true from ru)
 obtain ⟨z,its,n,r,hl,e⟩:=I.lstM hH
 have ei:=qM6 r
 subst ei
 refine call_meets F.slot_list_count ⟨_,e,rfl⟩ F.entry_list_count (F.args_list_count_2 _ _) (SeqAt.list_countAt l (bs.map Value.bool).toArray n none #[] (.bool true) (fun y=>y == .bool true)) ⟨e,fun y hy=>?_,?_⟩
 ·obtain ⟨b,_,rfl⟩:∃ b,b∈bs∧Value.bool b=y:=by
   have hy':y∈bs.map Value.bool:=Array.mem_toList_iff.mpr hy
   exact List.mem_map.mp hy'
  have:=SeqAt.EqAt.bool_bool (A:=X.A.in1) (s:=s) b true
  cases b <;> exact this
 ·refine ⟨.int (bs.countP id:Nat),H,I.tok _,?_,q⟩
  have:((bs.map Value.bool).toArray.toList.countP fun y=>y == Value.bool true)=bs.countP id:=by
   rw [List.countP_map]
   refine List.countP_congr fun b _=>?_
   cases b <;> simp
  rw [this]
  exact ⟨_,rfl⟩
theorem qZw:MtM X "list.index" rIndex:=by
 intro pins s σ H x vs v us Q I rx rv h
 obtain ⟨l,xs,bs,j,rfl,rfl,hH,rfl,hsm,hj,q⟩:=h
 cases rx
 obtain ⟨u,rfl,ru⟩:=rv.one
 cases (show u=Value.bool true from ru)
 obtain ⟨z,its,n,r,hl,e⟩:=I.lstM hH
 have ei:=qM6 r
 subst ei
 obtain ⟨hlt,hit,hno⟩:=List.findIdx?_eq_some_iff_getElem.mp hj
 have sz:(bs.map Value.bool).toArray.size=bs.length:=by simp
 refine call_meets F.slot_list_index ⟨_,e,rfl⟩ F.entry_list_index (F.args_list_index_2 _ _) (SeqAt.list_indexAt l (bs.map Value.bool).toArray n none #[] (.bool true) (fun y=>y == .bool true) j (by rw [sz];exact hlt) #[0] ?_ ?_) ⟨e,fun y hy=>?_,?_⟩
 ·have:bs[j]=true:=by simpa using hit
  simp [this]
 ·intro m hm hmj
  have hmb:m < bs.length:=by rw [←sz];exact hm
  have:bs[m]=false:=by simpa using hno m hmj
  simp [this]
 ·obtain ⟨b,_,rfl⟩:∃ b,b∈bs∧Value.bool b=y:=by
   have hy':y∈bs.map Value.bool:=Array.mem_toList_iff.mpr hy
   exact List.mem_map.mp hy'
  have:=SeqAt.EqAt.bool_bool (A:=X.A.in1) (s:=s) b true
  cases b <;> exact this
 ·exact ⟨.int (j:Nat),H,I.tok _,⟨_,rfl⟩,q⟩
end
open PySem PySem.Spec PyProof.Rows L2
def cntF (i:Nat):qAj→Rs W:=fun δ=>match δ[i]? with
 | some (.own ds)=>match qFj ds with
  | some bs=>.ok (.im (.int (bs.countP id:Nat)))
  | none=>.no
 | _=>.no
def idxF (i:Nat):qAj→Rs W:=fun δ=>match δ[i]? with
 | some (.own ds)=>match qFj ds with
  | some bs=>if bs.length < 1000 then (match bs.findIdx? id with
   | some j=>.ok (.im (.int (j:Nat)))
   | none=>.no) else .no
  | none=>.no
 | _=>.no
theorem qM5 {K:PySem.W.Frag}{B:Hp}:∀ {ds:List D} {vs:List V} {bs:List Bool},IsDs K B ds vs→qFj ds=some bs→vs=bs.map V.bl
 | [],vs,bs,h,e=>by cases #[40];cases e;rfl
 | d::ds,vs,bs,h,e=>by
  obtain ⟨v,r,rfl,e2,e3⟩:=h
  cases d with
  | bl b=>
   unfold qFj at e
   obtain ⟨cs,q1,rfl⟩:=Option.map_eq_some_iff.mp e
   rw [qM5 e3 q1,show v=.bl b from e2];rfl
  | _=>cases e
section
variable {X:Cx}{Ew:XW}{p p' apos cpos:Pos}{e:Expr}
theorem qY6 (i:Nat){x:Str}(he:PE X e (tC (.bl true)))(hN:X.N[i]?=some x:=by rfl)(hv:Vis X.env.scope x:=by first | exact Or.inl rfl | exact Or.inr (Or.inl rfl) | exact Or.inr (Or.inr rfl))
  (hd:#[17]=false:=by decide) (hcd:#[33]=false:=by decide)
  (hbase:attributeBase (.Name x p') "count" X.env (eval (.Name x p') X.env)=eval (.Name x p') X.env:=by rfl)
  (hfew:((backTo cpos (starEach [e] X.env)).all (fun x=>!x.1) && #[55].all (fun x=>x.1.isSome)
   && decide #[59])=true:=by rfl)
  (hline:(apos.endLine == cpos.line)=true:=by rfl) (hst:starEach [e] X.env=#[22]::starEach [] X.env:=by rfl) (hplain:(backTo cpos #[26]).any (·.1)=false:=by rfl) :
  PX X Ew (.Call (.Attribute (.Name x p') "count" apos) [e] [] cpos) (cntF i):=by
 refine ⟨_,qVy PySem.F.plainAttrs_list PySem.F.slot_list_count PySem.F.type_list_count qZx (qCb hN hv hd hcd) (qBx he qCx hst) hbase hfew hline hst hplain,fun B0 F0 P B H σ δ Q r p=>?_⟩
 unfold cntF at p
 split at p
 ·rename_i ds ei
  obtain ⟨a,vs,e1,e2,e3,e4,e5,e6⟩:=r.sl i _ ei
  split at p
  ·rename_i bs eb
   exact ⟨_,e1,.inl ⟨rfl,vs,SqL.of e5⟩,a,vs,bs,rfl,rfl,e5,qM5 e6 eb,p B H (Grow.refl r.bh) _ rfl⟩
  ·exact p.elim
 ·exact p.elim
theorem qY5 (i:Nat){x:Str}(he:PE X e (tC (.bl true)))(hN:X.N[i]?=some x:=by rfl)(hv:Vis X.env.scope x:=by first | exact Or.inl rfl | exact Or.inr (Or.inl rfl) | exact Or.inr (Or.inr rfl))
  (hd:#[17]=false:=by decide) (hcd:#[33]=false:=by decide)
  (hbase:attributeBase (.Name x p') "index" X.env (eval (.Name x p') X.env)=eval (.Name x p') X.env:=by rfl)
  (hfew:((backTo cpos (starEach [e] X.env)).all (fun x=>!x.1) && #[55].all (fun x=>x.1.isSome)
   && decide #[59])=true:=by rfl)
  (hline:(apos.endLine == cpos.line)=true:=by rfl) (hst:starEach [e] X.env=#[22]::starEach [] X.env:=by rfl) (hplain:(backTo cpos #[26]).any (·.1)=false:=by rfl) :
  PX X Ew (.Call (.Attribute (.Name x p') "index" apos) [e] [] cpos) (idxF i):=by
 refine ⟨_,qVy PySem.F.plainAttrs_list PySem.F.slot_list_index PySem.F.type_list_index qZw (qCb hN hv hd hcd) (qBx he qCx hst) hbase hfew hline hst hplain,fun B0 F0 P B H σ δ Q r p=>?_⟩
 unfold idxF at p
 split at p
 ·rename_i ds ei
  obtain ⟨a,vs,e1,e2,e3,e4,e5,e6⟩:=r.sl i _ ei
  split at p
  ·rename_i bs eb
   split at p
   ·rename_i hsm
    split at p
    ·rename_i j ej
     exact ⟨_,e1,.inl ⟨rfl,vs,SqL.of e5⟩,a,vs,bs,j,rfl,rfl,e5,qM5 e6 eb,hsm,ej,p B H (Grow.refl r.bh) _ rfl⟩
    ·exact p.elim
   ·exact p.elim
  ·exact p.elim
 ·exact p.elim
end
def qPw (A:Around):Around:={ A with handled:=none }
def cxQ (P:Program)(w:World)(K:PySem.W.Frag)(mg:Str→Option Value)(base:Heap)(N:List Str)(qual:Str)(scope:Scope)(f:Addr)(cd:Value)(A:Around)(outer:List Env)(s:Shared)(H:Hp):Cx:=
 { qLt CX0 P w K mg base N qual scope f cd A outer s H E0 with calm:=false,xe:=fun _ _=>False }
structure FnQ (P:Program) (w:World) (K:PySem.W.Frag) (mg:Str→Option Value) (base:Heap) (k:Nat) (f:Addr) (fd:FuncData) (ps:List Str) (sp:List V→Hp→VK→Prop):Prop where
 len:∀ vs H Q,sp vs H Q→vs.length=ps.length
 run:∀ (A:Around) (outer:List Env) (s:Shared) (H:Hp) (args:Args) (us:List Value) (vs:List V) (Q:VK),Room k (qPw A)→Env0 P w K mg base A outer s H→BindsTo s fd args (ps.zip us)→qBu vs us→sp vs H Q→
  codeAny (model P w) A (.call (.ref f) args) (CR CX0 outer P w H s Q E0) s
section
variable {P:Program}{w:World}{K:PySem.W.Frag}{mg:Str→Option Value}{base:Heap}
theorem fnq_of {x qual:Str}{st:Stmt}{f:Addr}{fd:FuncData}{N ps:List Str}{k:Nat}{sp:List V→Hp→VK→Prop}(F:Fun K x qual st f fd)(S:FnScope N ps (qAd st))(len:∀ vs H Q,sp vs H Q→vs.length=ps.length)
  (hbody:∀ (cdv:Value) (A:Around) (outer:List Env) (s:Shared) (H:Hp) (vs:List V) (Q:VK),Room k (qPw (A.deeper (envOfC qual (qAd st) s.heap.objs.size f cdv)))→sp vs H Q→
   ∃ t,PSs (cxQ P w K mg base N qual (qAd st) f cdv A outer s H) (qBp st) t∧t { nx:=fun _ H'=>Q .non H',rt:=Q } (start N vs) H):FnQ P w K mg base (k + 1) f fd ps sp:=by
 obtain ⟨oc,od,kV,doc,pm,an,cdv,ct,osl,rfl,lk,hcd⟩:=F.ex
 refine ⟨len,fun A outer s H args us vs Q hr e0 hb r hsp=>?_⟩
 have hl:=len _ _ _ hsp
 have st0:∀ b o,base.get? b=some o→s.heap.get? b=some o:=fun b o e=>(e0.bs b o e).1
 have KX:K.In s.heap:=e0.mod.kin.keeps st0
 have nl:s.heap.NoLimit:=e0.mod.nolimit.keeps st0
 have kinds:∀ y∈ps.zip us,(qAd st).names.lookup y.1=some .local∨((qAd st).names.lookup y.1=some .cell∧((cellsFrom (s.heap.objs.size + 1) (qAd st).names []).lookup y.1).isSome=true):=by
  rintro ⟨n,v⟩ hy
  rcases S.par n (List.of_mem_zip hy).1 with q | q
  ·exact .inl q
  ·exact .inr ⟨q,PySem.W.cellsFrom_some _ _ _ (.inl q)⟩
 refine codeAny_call_function (show A.depth < _ from hr.depth) (KX _ _ lk) rfl S.co S.gen rfl (PySem.W.codeRec_of KX hcd) (hb _ _ _ _ ?_)
 refine wpAny_newFunctionEnv_cells S.kind kinds ?_
 intro env he s1 x
 subst he
 refine ⟨nl.keeps x.toInCall.keep,codeAny_func ?_⟩
 obtain ⟨t,ht,hq⟩:=hbody cdv A outer s H vs Q (show Room k (qPw _) from Room.deeper (A:=qPw A) hr _) hsp
 have e1:Env0 P w K mg base (qPw A) outer s H:=⟨e0.frames,e0.mod,e0.bs,e0.bsz,e0.funs,e0.frf,e0.hok,e0.bare,e0.tab⟩
 have J:Inv (qLt CX0 P w K mg base N qual (qAd st) f cdv (qPw A) outer s H E0) [] (start N vs) H s1:=qJx S hr.hd e1 hl r x
 have I:Inv (cxQ P w K mg base N qual (qAd st) f cdv A outer s H) [] (start N vs) H s1:=
  ⟨⟨J.ok.mod,J.ok.kind,J.ok.glob,J.ok.blt,J.ok.above,J.ok.inj,J.ok.has,J.ok.cab,#[36],J.ok.frames,J.ok.stk,J.ok.exf,J.ok.bs,J.ok.bsz,J.ok.noex,J.ok.exfs,J.ok.funs,J.ok.frf,J.ok.tab⟩,J.os,J.bare,J.base,J.loc,J.cell,J.free,J.freeC,J.pin,J.hok,J.len⟩
 refine wpAny_mono (ht [] s1 (start N vs) H _ I hq) (fun fl s' hs=>?_) (fun e s' hs=>hs.elim)
 cases fl with
 | ret u=>
  obtain ⟨v,σ',H',J',rv,q⟩:=hs
  exact ⟨v,H',J'.os,J'.bare,J'.base,J'.hok,rv,q⟩
 | next=>
  obtain ⟨σ',H',J',q⟩:=hs
  exact ⟨V.non,H',J'.os,J'.bare,J'.base,J'.hok,rfl,q⟩
 | brk=>
  obtain ⟨_,_,_,q⟩:=hs
  exact q.elim
 | cont=>
  obtain ⟨_,_,_,q⟩:=hs
  exact q.elim
end
open PySem PySem.Spec PyProof.Rows L2
def XD.nm (x:XD):Str:=match x.why with
 | .str s=>s
 | _=>Str.empty
def qa3 (K:PySem.W.Frag)(E:XK):XW:=fun x _ H'=>∀ a C,PySem.W.nsIn K mainGlobals x.nm=some (some (.ref C))→H' a=none→E (.ref a) (some C) H'
def spX (K:PySem.W.Frag)(n:Nat)(m:List W→Rs W):Sp:=fun vs H Q E=>∃ B ws,qA5 B H∧qPy K B H ws vs∧ws.length=n∧qF6 K (qa3 K E) B H (m ws) Q
structure FnX (P:Program) (w:World) (K:PySem.W.Frag) (mg:Str→Option Value) (base:Heap) (k:Nat) (x:Str) (n:Nat) (m:List W→Rs W):Prop where
 ex:∃ f fd ps,FnOk P w K mg base (CXE P w) k f fd ps (spX K n m)∧mg x=some (.ref f)∧PySem.W.keepIn K (.ref f)=true∧qIi K fd ps []∧ps.length=n
section
variable {P:Program}{w:World}{K:PySem.W.Frag}{mg:Str→Option Value}{base:Heap}
theorem qW7 {x:Str}{st:Stmt}{N ps:List Str}{k:Nat}{h:qAj→Rs Fl}(T:Has K mg x st)(S:FnScope N ps (qAd st))(hl:ps.length≤N.length)
  (hb:∀ (kV doc pm:Value) (an:Option Addr) (cdv ct:Value) (us:List Value),us.length=ps.length→bindArgs #[47] ⟨us,[]⟩=pure (ps.zip us))
  (hbody:∀ (f:Addr) (cdv:Value) (A:Around) (outer:List Env) (s:Shared) (H:Hp) (E:XK),Room k (A.deeper (envOfC x (qAd st) s.heap.objs.size f cdv))→
   ∃ Wr,qP0 (qLt (CXE P w) P w K mg base N x (qAd st) f cdv A outer s H E) (qa3 K E) Wr (qBp st) h):FnX P w K mg base (k + 1) x ps.length (mir N h):=by
 obtain ⟨f,fd,F,hm⟩:=T
 refine ⟨f,fd,ps,?_,hm,F.kp,F.binds hb,rfl⟩
 obtain ⟨oc,od,kV,doc,pm,an,cdv,ct,osl,rfl,lk,hcd⟩:=F.ex
 refine qdv lk hcd S (fun vs H Q E hsp=>?_) fun A outer s H vs Q E hr hsp=>?_
 ·obtain ⟨B,ws,hs,hw,hn,_⟩:=hsp
  rw [←hw.len,hn]
 ·obtain ⟨B,ws,hs,hw,hn,p⟩:=hsp
  obtain ⟨Wr,ts,h1,h2⟩:=hbody f cdv A outer s H E hr
  refine ⟨ts,h1,h2 B H qDh B H _ (frame N ws) _ (qGa hs hw #[0]) ?_⟩
  have p':qF6 K (qa3 K E) B H (h (frame N ws)>>=fin) Q:=p
  cases q:h (frame N ws) with
  | no=>rw [q] at p';exact p'
  | ex x=>rw [q] at p';exact p'
  | ok fl=>
   rw [q] at p'
   cases fl with
   | nx δ=>exact fun B' H' σ' r' _=>p' B' H' r'.whole .non rfl
   | rt w=>exact fun v B' H' g hw'=>p' B' H' g v hw'
   | rl d δ=>exact fun v B' H' σ' r' _ hd=>p' B' H' r'.whole v hd
   | bk δ=>exact p'.elim
   | ct δ=>exact p'.elim
end
section
variable {X:Cx}{Ew:XW}{E:XK}{e:Expr}{es:List Expr}{p np cpos pos:Pos}{x:Str}{n k:Nat}{m:List W→Rs W}{g:qAj→Rs (List W)}
theorem qMg (xc:XcE X E)(F:FnX X.prog X.w X.K X.mg X.base k x n m)(hr:Room k X.A)(hg:Gl X x)(ha:PXa X (qa3 X.K E) (e::es) g)(hn:(e::es).length=n)(hdb:#[17]=false:=by decide)
  (he:starEach (e::es) X.env=#[22]::starEach es X.env:=by rfl) (hpl:#[43].any (·.1)=false:=by rfl):PX X (qa3 X.K E) #[46] (qAs m n g):=by
 obtain ⟨f,fd,ps,F1,hm,hk,hb,hps⟩:=F.ex
 obtain ⟨ta,h1,h2⟩:=ha
 refine ⟨_,qFt (E:=E) F1 hr hg hm hk hb .nil xc.pass h1 hdb he hpl,fun B0 F0 P B H σ δ Q r p=>h2 B0 F0 P B H σ δ _ r #[54]⟩
 split at p1
 ·rename_i hl
  refine ⟨B1,ws,g1.bh,by rw [List.append_nil];exact hw.rd,hl,Pst.mono p1 fun w B' H' _ q v hv=>q v (hv.older g1.sh)⟩
 ·exact p1.elim
theorem qN9 (F:FnX X.prog X.w X.K X.mg X.base k x n m)(hr:Room k X.A)(hg:Gl X x)(ha:PXa X EN (e::es) g)(hn:(e::es).length=n)(hdb:#[17]=false:=by decide)
  (he:starEach (e::es) X.env=#[22]::starEach es X.env:=by rfl) (hpl:#[43].any (·.1)=false:=by rfl):PX X EN #[46] (qAs m n g):=by
 obtain ⟨f,fd,ps,F1,hm,hk,hb,hps⟩:=F.ex
 obtain ⟨ta,h1,h2⟩:=ha
 have ps0:qPz (CXE X.prog X.w) X (fun _ _ _=>False):=fun pins σ H s e s' I hx=>by
  obtain ⟨_,_,_,_,_,_,_,_,_,q⟩:=hx
  exact q.elim
 refine ⟨_,qFt (E:=fun _ _ _=>False) F1 hr hg hm hk hb .nil ps0 h1 hdb he hpl,fun B0 F0 P B H σ δ Q r p=>h2 B0 F0 P B H σ δ _ r #[54]⟩
 split at p1
 ·rename_i hl
  refine ⟨B1,ws,g1.bh,by rw [List.append_nil];exact hw.rd,hl,?_⟩
  cases q:m ws with
  | no=>rw [q] at p1;exact p1.elim
  | ex x=>rw [q] at p1;exact (p1 B1 H1 #[32]).elim
  | ok w=>rw [q] at p1;exact fun B' H' g' v hv=>p1 B' H' g' v (hv.older g1.sh)
 ·exact p1.elim
def Rs.nox {α:Type}:Rs α→Rs α
 | .ex _=>.no
 | r=>r
theorem qMh (F:FnD X.prog X.w X.K X.mg X.base k x n m)(hr:Room k X.A)(hg:Gl X x)(ha:PXa X Ew (e::es) g)(hn:(e::es).length=n)(hdb:#[17]=false:=by decide)
  (he:starEach (e::es) X.env=#[22]::starEach es X.env:=by rfl) (hpl:#[43].any (·.1)=false:=by rfl):PX X Ew #[46] (qAs (fun ws=>(m ws).nox) n g):=by
 obtain ⟨f,fd,ps,F1,hm,hk,hb,hps⟩:=F.ex
 obtain ⟨ta,h1,h2⟩:=ha
 refine ⟨_,qFt (E:=E0) F1 hr hg hm hk hb .nil qV1 h1 hdb he hpl,fun B0 F0 P B H σ δ Q r p=>h2 B0 F0 P B H σ δ _ r #[54]⟩
 split at p1
 ·rename_i hl
  refine ⟨B1,ws,g1.bh,by rw [List.append_nil];exact hw.rd,hl,?_⟩
  dsimp only at p1
  cases q:m ws with
  | no=>rw [q] at p1;exact p1.elim
  | ex x=>rw [q] at p1;exact p1.elim
  | ok w=>rw [q] at p1;exact fun B' H' g' v hv=>p1 B' H' g' v (hv.older g1.sh)
 ·exact p1.elim
theorem qVn {z:Str}{bmB:List Value}{B newId initId:String}{C:Addr}(xc:XcE X E)(hg:Gl X x)(hm:X.mg x=some (.ref C))(hk:PySem.W.nsIn X.K mainGlobals x=some (some (.ref C)))(q:PySem.W.excIn X.K C bmB newId=true)(FB:ExcBaseFacts B newId initId bmB)
  (ha:PE X e (tC (.str z))) (hdb:#[17]=false:=by decide)
  (he:starEach [e] X.env=#[22]::starEach [] X.env:=by rfl) (hpl:(backTo cpos #[26]).any (·.1)=false:=by rfl) :
  PSX X (qa3 X.K E) [] (.Raise (some (.Call (.Name x np) [e] [] cpos)) none pos) (fun _=>.ex ⟨0,.str x⟩):=by
 refine ⟨_,qZi xc hg hm q FB (qBx ha qCx he) hdb he hpl,fun B0 F0 P B H σ δ D r p=>?_⟩
 refine ⟨by show 1≤sizeLine;decide,fun a hH=>?_⟩
 exact p B H r.whole a C hk hH
end
open PySem PySem.Spec PyProof.Rows L2
def spW (K:PySem.W.Frag)(m:Str→Rs W):List V→Hp→VK→Prop:=fun vs H Q=>∃ a C x B,vs=[.ref a]∧PySem.W.nsIn K mainGlobals x=some (some (.ref C))∧B a=some (qYg a C)∧qA5 B H∧qF6 K EN B H (m x) Q
structure FnW (P:Program) (w:World) (K:PySem.W.Frag) (mg:Str→Option Value) (base:Heap) (k:Nat) (x:Str) (m:Str→Rs W):Prop where
 ex:∃ f fd ps,FnQ P w K mg base k f fd ps (spW K m)∧mg x=some (.ref f)∧PySem.W.keepIn K (.ref f)=true∧qIi K fd ps []∧ps.length=1
def mirW (N:List Str)(h:qAj→Rs Fl):Str→Rs W:=fun c=>h (.exc c::List.replicate (N.length - 1) .un)>>=fin
section
variable {P:Program}{w:World}{K:PySem.W.Frag}{mg:Str→Option Value}{base:Heap}
theorem startW {B H:Hp}{N:List Str}{a C:Addr}{c:Str}(hs:qA5 B H)(hN:1≤N.length)(hc:PySem.W.nsIn K mainGlobals c=some (some (.ref C)))(hB:B a=some (qYg a C)):R K B H qDh B H (L2.start N [.ref a]) (.exc c::List.replicate (N.length - 1) .un):=by
 have sl:∀ (i:Nat) (s:Sl),(Sl.exc c::List.replicate (N.length - 1) Sl.un)[i]?=some s→(i=0∧s=.exc c)∨s=.un:=fun i s e=>by
  cases i with
  | zero=>left;exact ⟨rfl,(Option.some.inj e).symm⟩
  | succ i=>
   right
   rw [List.getElem?_cons_succ,List.getElem?_replicate] at e
   split at e
   ·exact (Option.some.inj e).symm
   ·cases e
 refine ⟨qA5.refl _,fun _ _ e=>.inl e,qA5.refl _,qCg,hs,?_,fun i s e=>?_,fun i j s t b hij e1 e2 o1 o2 z1 z2=>?_⟩
 ·unfold L2.start
  simp only [List.length_cons,List.length_replicate,List.length_append,List.length_map,List.length_nil]
  omega
 ·rcases sl i s e with ⟨rfl,rfl⟩ | rfl
  ·exact ⟨a,C,rfl,hc,hB⟩
  ·trivial
 ·rcases sl i s e1 with ⟨_,rfl⟩ | rfl <;> cases o1
theorem fnW_of {x p0:Str}{st:Stmt}{N:List Str}{k:Nat}{h:qAj→Rs Fl}(T:Has K mg x st)(S:FnScope N [p0] (qAd st))(hN:1≤N.length)
  (hb:∀ (kV doc pm:Value) (an:Option Addr) (cdv ct:Value) (us:List Value),us.length=[p0].length→bindArgs #[47] ⟨us,[]⟩=pure ([p0].zip us))
  (hbody:∀ (f:Addr) (cdv:Value) (A:Around) (outer:List Env) (s:Shared) (H:Hp),Room k (qPw (A.deeper (envOfC x (qAd st) s.heap.objs.size f cdv)))→
   ∃ Wr,qP0 (cxQ P w K mg base N x (qAd st) f cdv A outer s H) EN Wr (qBp st) h):FnW P w K mg base (k + 1) x (mirW N h):=by
 obtain ⟨f,fd,F,hm⟩:=T
 refine ⟨f,fd,[p0],fnq_of F S (fun vs H Q hsp=>?_) fun cdv A outer s H vs Q hr hsp=>?_,hm,F.kp,F.binds hb,rfl⟩
 ·obtain ⟨a,C,c,B,rfl,_⟩:=hsp
  rfl
 ·obtain ⟨a,C,c,B,rfl,hc,hB,hs,p⟩:=hsp
  obtain ⟨Wr,ts,h1,h2⟩:=hbody f cdv A outer s H hr
  refine ⟨ts,h1,h2 B H qDh B H _ _ _ (startW hs hN hc hB) ?_⟩
  have p':qF6 K EN B H (h (.exc c::List.replicate (N.length - 1) .un)>>=fin) Q:=p
  cases q:h (.exc c::List.replicate (N.length - 1) .un) with
  | no=>rw [q] at p';exact p'
  | ex x=>rw [q] at p';exact p'
  | ok fl=>
   rw [q] at p'
   cases fl with
   | nx δ=>exact fun B' H' σ' r' _=>p' B' H' r'.whole .non rfl
   | rt w=>exact fun v B' H' g hw'=>p' B' H' g v hw'
   | rl d δ=>exact fun v B' H' σ' r' _ hd=>p' B' H' r'.whole v hd
   | bk δ=>exact p'.elim
   | ct δ=>exact p'.elim
end
section
variable {X:Cx}{e:Expr}{es:List Expr}{p ep pos:Pos}{x n:Str}{i k:Nat}
theorem qZm {wh:Str}{mw:Str→Rs W}{a:Addr}(F:FnW X.prog X.w X.K X.mg X.base k wh mw)(hr:Room k X.A)(hg:Gl X wh)(hN:X.N[i]?=some n)(hv:Vis X.env.scope n)(hd:(n == ("__debug__":Str))=false:=by decide)(hcd:(n == ("__classdict__":Str))=false:=by decide)
  (hdb:(wh == ("__debug__":Str))=false:=by decide) (he:starEach [.Name n ep] X.env=(false,eval (.Name n ep) X.env)::starEach [] X.env:=by rfl) (hpl:(backTo pos #[26]).any (·.1)=false:=by rfl) :
  PE (Xm X a) (.Call (.Name wh p) [.Name n ep] [] pos) (fun σ H Q=>∃ v,σ[i]?=some (some v)∧spW X.K mw [v] H Q):=by
 obtain ⟨f,fd,ps,F1,hm,hk,hb,hps⟩:=F.ex
 intro pins s σ H Q I ⟨v,e1,h⟩
 refine wpAny_Call_Name_kw (qF0 (X:=Xm X a) I hg hm ?_ hdb)
 have pa:PA (Xm X a) [.Name n ep] _:=qBx (qCb (X:=Xm X a) hN hv hd hcd) qCx he
 refine PySem.W.callWith_K (h₀:=X.base) I.ok.mod.kin hk (thn (pa pos pins s σ H (fun vs H1=>vs=[v]∧H1=H) I ⟨v,e1,rfl,rfl⟩) fun us s1 ⟨vs,H1,I1,r,ev,eH⟩=>⟨I1.kIn,?_⟩) he hpl
 subst ev eH
 have hl:us.length=ps.length:=by rw [←r.length,hps];rfl
 have hbt:=hb s1 us I1.kIn (by rw [List.append_nil];exact hl)
 rw [List.append_nil] at hbt
 refine wpAny_call (codeAny_mono (F1.run (Xm X a).A (Xm X a).stack s1 H1 ⟨us,[]⟩ us [v] Q ⟨rfl,hr.dp,hr.un⟩ I1.env0 hbt r h) fun rr s' hq=>?_)
 cases rr with
 | error e=>exact hq.elim
 | ok fl=>
  cases fl with
  | ret u=>exact I1.after hq
  | next=>exact hq.elim
  | brk=>exact hq.elim
  | cont=>exact hq.elim
theorem qVx {f:Addr}{fd:FuncData}{ps:List Str}{sp:Sp}{ta:TA}(F:FnOk X.prog X.w X.K X.mg X.base (CXE X.prog X.w) k f fd ps sp)(hr:Room k X.A)(hk:PySem.W.keepIn X.K (.ref f)=true)(hb:qIi X.K fd ps [])(ha:PA X.nox (e::es) ta)(hN:X.N[i]?=some x)(hv:Vis X.env.scope x)
  (hd:#[17]=false:=by decide) (hcd:#[33]=false:=by decide) (he:starEach (e::es) X.env=#[22]::starEach es X.env:=by rfl) (hpl:#[43].any (·.1)=false:=by rfl) :
  PEx X #[46] (fun E1 σ H Q=>σ[i]?=some (some (.ref f))∧ta σ H fun vs H1=>sp vs H1 Q E1):=by
 intro pins s σ H Q E1 Ex I hex ⟨h1,h2⟩
 refine wpAny_Call_Name_kw (wpAny_mono (qCb (X:=X.nox) hN hv hd hcd pins s σ H (fun v H'=>v=.ref f∧H'=H) (I.wish _) ⟨_,h1,rfl,rfl⟩) (fun u s1 ⟨v,H',I1,r,ev,eH⟩=>?_) fun _ _ z=>z.elim)
 subst ev eH
 cases (show u=Value.ref f from r)
 refine PySem.W.callWith_K (h₀:=X.base) I.ok.mod.kin hk (wpAny_mono (ha pos pins s1 σ H' _ I1 h2) (fun us s2 ⟨vs,H2,I2,r2,q2⟩=>⟨I2.kIn,?_⟩) fun _ _ z=>z.elim) he hpl
 have J2:Inv X pins σ H2 s2:=I2.unwish
 have hl:us.length=ps.length:=by rw [←r2.length];exact F.len _ _ _ _ q2
 have hbt:=hb s2 us J2.kIn (by rw [List.append_nil];exact hl)
 rw [List.append_nil] at hbt
 refine wpAny_call (codeAny_mono (F.run X.A X.stack s2 H2 ⟨us,[]⟩ us vs Q E1 hr J2.env0 hbt r2 q2) fun rr s' hq=>?_)
 cases rr with
 | error e=>exact hex H2 s2 e s' J2 hq
 | ok fl=>
  cases fl with
  | ret u=>exact J2.after hq
  | next=>exact hq.elim
  | brk=>exact hq.elim
  | cont=>exact hq.elim
end
open PySem PySem.Spec PyProof.Rows L2
def spT (K:PySem.W.Frag)(fy:Addr)(n:Nat)(m:List W→Rs W):Sp:=fun vs H Q _=>∃ qE4 B ws,vs=.ref fy::qE4∧qA5 B H∧qPy K B H ws qE4∧ws.length=n∧qF6 K EN B H (m ws) Q
structure FnT (P:Program) (w:World) (K:PySem.W.Frag) (mg:Str→Option Value) (base:Heap) (k:Nat) (x y:Str) (n:Nat) (m:List W→Rs W):Prop where
 ex:∃ f fd ps fy,FnOk P w K mg base CX0 k f fd ps (spT K fy n m)∧mg x=some (.ref f)∧PySem.W.keepIn K (.ref f)=true∧qIi K fd ps []∧ps.length=n + 1∧mg y=some (.ref fy)
structure FnTa (P:Program) (w:World) (K:PySem.W.Frag) (mg:Str→Option Value) (base:Heap) (k:Nat) (st:Stmt) (x y:Str) (n:Nat) (m:List W→Rs W) (ps:List Str):Prop where
 ex:∀ f fd,L2.Fun K x x st f fd→mg x=some (.ref f)→∃ fy,FnOk P w K mg base CX0 k f fd ps (spT K fy n m)∧mg y=some (.ref fy)
def qM2 (cs:List Str)(m:List W→Rs W)(mw:Str→Rs W)(us:List W):Rs W:=match m us with
 | .ok w=>.ok w
 | .ex x=>if x.nm∈cs then mw x.nm else .no
 | .no=>.no
def tryM (N:List Str)(cs:List Str)(ga:qAj→Rs (List W))(n:Nat)(m:List W→Rs W)(mw:Str→Rs W):List W→Rs W:=fun ws=>
 ga (.un::(ws.map W.slot++List.replicate (N.length - (ws.length + 1)) .un))>>=fun us=>if us.length=n then qM2 cs m mw us else .no
theorem R.first {K:PySem.W.Frag}{B0 F0 P B H:Hp}{σ:L2.St}{δ:qAj}{s:Sl}(r:R K B0 F0 P B H σ (s::δ))(hs:s.isOwn=false):R K B0 F0 P B H σ (.un::δ):=by
 refine ⟨r.b0,r.nw,r.fh,r.ph,r.bh,r.len,fun i t e=>?_,fun i j t u a hij e1 e2 o1 o2 z1 z2=>?_⟩
 ·cases i with
  | zero=>cases e;trivial
  | succ i=>exact r.sl (i + 1) t e
 ·cases i with
  | zero=>cases e1;cases o1
  | succ i=>
   cases j with
   | zero=>cases e2;cases o2
   | succ j=>exact r.ne (i + 1) (j + 1) t u a hij e1 e2 o1 o2 z1 z2
section
variable {P:Program}{w:World}{K:PySem.W.Frag}{mg:Str→Option Value}{base:Heap}
theorem qW8 {x y ask cls nm wh:Str}{st:Stmt}{N ps:List Str}{k kf kw n i:Nat}{m:List W→Rs W}{mw:Str→Rs W}{ga:qAj→Rs (List W)}{cs:List Str}{e:Expr}{es:List Expr}{ap cpos rpos np wp ep wpos qpos hpos pos:Pos}{Cc:Addr}
  (S:FnScope N ps (qAd st)) (hl:ps.length≤N.length) (hpn:ps.length=n + 1)
  (hb:∀ (kV doc pm:Value) (an:Option Addr) (cdv ct:Value) (us:List Value),us.length=ps.length→bindArgs #[47] ⟨us,[]⟩=pure (ps.zip us))
  (hst:qBp st=[.Try [.Return (some (.Call (.Name ask ap) (e::es) [] cpos)) rpos] [.ExceptHandler (some (.Name cls np)) (some nm) [.Return (some (.Call (.Name wh wp) [.Name nm ep] [] wpos)) qpos] hpos] [] [] pos])
  (FX:FnX P w K mg base kf y n m) (FW:FnW P w K mg base kw wh mw) (hkf:kf≤k) (hkw:kw≤k) (hask:N[0]?=some ask) (hnm:N[i]?=some nm) (hnl:(qAd st).names.lookup nm=some .local) (hal:(qAd st).names.lookup ask=some .local)
  (hmc:mg cls=some (.ref Cc)) (hcs:∀ c∈cs,∀ C,PySem.W.nsIn K mainGlobals c=some (some (.ref C))→PySem.W.exmOne K (.ref C) (.ref Cc)=some true)
  (hctx:∀ (f:Addr) (cdv:Value) (A:Around) (outer:List Env) (s:Shared) (H:Hp) (E:XK),let X:=(qLt CX0 P w K mg base N x (qAd st) f cdv A outer s H E).nox
   X.env.kindOf nm=some .local∧Gl X cls∧Gl X wh∧PXa X EN (e::es) ga∧starEach (e::es) X.env=#[22]::starEach es X.env∧(backTo cpos (starEach es X.env)).any (·.1)=false∧starEach [.Name nm ep] X.env=(false,eval (.Name nm ep) X.env)::starEach [] X.env∧(backTo wpos #[26]).any (·.1)=false)
  (d1:(ask == ("__debug__":Str))=false:=by decide) (d2:(ask == ("__classdict__":Str))=false:=by decide) (d3:(nm == ("__debug__":Str))=false:=by decide) (d4:(nm == ("__classdict__":Str))=false:=by decide) (d5:(cls == ("__debug__":Str))=false:=by decide) (d6:(wh == ("__debug__":Str))=false:=by decide) :
  FnTa P w K mg base (k + 1) st x y n (tryM N cs ga n m mw) ps:=by
 refine ⟨fun f fd F hm=>?_⟩
 obtain ⟨fy,fdy,psy,FY,hmy,hky,hby,hpy⟩:=FX.ex
 refine ⟨fy,?_,hmy⟩
 refine F.ok S (fun vs H Q E hsp=>?_) fun cdv A outer s H vs Q E hr hsp=>?_
 ·obtain ⟨qE4,B,ws,rfl,_,hw,hn,_⟩:=hsp
  rw [List.length_cons,←hw.len,hn,hpn]
 ·obtain ⟨qE4,B,ws,rfl,hs,hw,hn,p⟩:=hsp
  obtain ⟨c1,c2,c3,⟨ta,a1,a2⟩,c5,c6,c7,c8⟩:=hctx f cdv A outer s H E
  rw [hst]
  have FW':FnW P w K mg base k wh mw:=by
   obtain ⟨f',fd',ps',q1,q2⟩:=FW.ex
   exact ⟨f',fd',ps',⟨q1.len,fun A outer s H args us vs Q hr=>q1.run A outer s H args us vs Q (hr.mono hkw)⟩,q2⟩
  have hi:i < N.length:=(List.getElem?_eq_some_iff.mp hnm).1
  refine ⟨_,qVq (ps_try (i:=i) (n:=nm) (Cc:=Cc) S.nd hnm hnl c1 rfl rfl c2 hmc (qVx (i:=0) (FnOk.mono FY hkf) hr hky hby a1 hask (.inl hal) d1 d2 c5 c6) (fun a=>qZm (i:=i) (F:=FW') hr c3 hnm (.inl hnl) d3 d4 d6 c7 c8) d5),?_⟩
  have r0:R K B H qDh B H (L2.start N (.ref fy::qE4)) (frame N (.im (.fn fy)::ws)):=qGa hs ⟨.ref fy,qE4,rfl,rfl,hw⟩ (by rw [List.length_cons];omega)
  have r1:R K B H qDh B H (L2.start N (.ref fy::qE4)) (.un::(ws.map W.slot++List.replicate (N.length - (ws.length + 1)) .un)):=R.first r0 rfl
  have lσ:(L2.start N (.ref fy::qE4)).length=N.length:=by
   have:=hw.len
   unfold L2.start
   simp only [List.length_append,List.length_map,List.length_replicate,List.length_cons]
   omega
  refine ⟨rfl,a2 B H qDh B H _ _ _ r1 ((Pst.bind p).mono fun us B1 H1 g1 p1 vs hv=>?_)⟩
  split at p1
  case isFalse=>exact p1.elim
  rename_i hul
  refine ⟨B1,us,g1.bh,hv.rd,hul,?_⟩
  unfold qM2 at p1
  cases q:m us with
  | no=>rw [q] at p1;exact p1
  | ok w=>rw [q] at p1;exact fun B' H' g' v hv'=>p1 B' H' g' v (hv'.older g1.sh)
  | ex xx=>
   rw [q] at p1
   dsimp only at p1
   split at p1
   case isFalse=>exact p1.elim
   rename_i hin
   intro B' H' g' a C hC hHa
   have hBa:B' a=none:=by
    cases z:B' a with
    | none=>rfl
    | some o=>rw [g'.bh _ _ z] at hHa;cases hHa
   have gn:Grow B' H' (upd B' a (qYg a C)) (upd H' a (qYg a C)):=Grow.newB g'.bh hHa
   refine ⟨a,C,rfl,rfl,hcs _ hin C hC,.ref a,?_,a,C,xx.nm,upd B' a (qYg a C),rfl,hC,qAu,gn.bh,?_⟩
   ·rw [List.getElem?_set_self (by rw [lσ];exact hi)]
   ·cases q2:mw xx.nm with
    | no=>rw [q2] at p1;exact p1
    | ex y=>rw [q2] at p1;exact (p1 B1 H1 #[32]).elim
    | ok w=>rw [q2] at p1;exact fun B2 H2 g2 v hv'=>p1 B2 H2 ((g'.trans gn).trans g2) v (hv'.older (fun b o z=>gn.sh b o (g'.sh b o (g1.sh b o z))))
theorem qW9 {x y:Str}{st:Stmt}{ps:List Str}{k n:Nat}{m:List W→Rs W}(T:Has K mg x st)(A:FnTa P w K mg base k st x y n m ps)(hpn:ps.length=n + 1)
  (hb:∀ (kV doc pm:Value) (an:Option Addr) (cdv ct:Value) (us:List Value),us.length=ps.length→bindArgs #[47] ⟨us,[]⟩=pure (ps.zip us)):FnT P w K mg base k x y n m:=by
 obtain ⟨f,fd,F,hm⟩:=T
 obtain ⟨fy,a,b⟩:=A.ex f fd F hm
 exact ⟨f,fd,ps,fy,a,hm,F.kp,F.binds hb,hpn,b⟩
end
section
variable {X:Cx}{es:List Expr}{p yp pos:Pos}{x y:Str}{n k:Nat}{m:List W→Rs W}{g:qAj→Rs (List W)}
theorem qJi (F:FnT X.prog X.w X.K X.mg X.base k x y n m)(hr:Room k X.A)(hg:Gl X x)(hgy:Gl X y)(ha:PXa X EN es g)(hn:es.length=n)(hdb:#[17]=false:=by decide)(hdy:(y == ("__debug__":Str))=false:=by decide)
  (he:starEach (.Name y yp::es) X.env=(false,eval (.Name y yp) X.env)::starEach es X.env:=by rfl) (hpl:#[43].any (·.1)=false:=by rfl):PX X EN (.Call (.Name x p) (.Name y yp::es) [] pos) (qAs m n g):=by
 obtain ⟨f,fd,ps,fy,F1,hm,hk,hb,hps,hmy⟩:=F.ex
 obtain ⟨ta,h1,h2⟩:=ha
 refine ⟨_,qFt (E:=E0) F1 hr hg hm hk hb .nil qV1 (qBx (qQm (v:=.ref fy) hgy hmy rfl hdy) h1 he) hdb he hpl,fun B0 F0 P B H σ δ Q r p=>h2 B0 F0 P B H σ δ _ r #[54]⟩
 split at p1
 ·rename_i hl
  exact ⟨vs,B1,ws,by rw [List.append_nil],g1.bh,hw.rd,hl,Pst.mono p1 fun w B' H' _ q v hv=>q v (hv.older g1.sh)⟩
 ·exact p1.elim
end
section
variable {X:Cx}{es:List Expr}{p yp pos:Pos}{x y z v:Str}{n k k1 k2:Nat}{m1 m2:List W→Rs W}{g:qAj→Rs (List W)}{st:Stmt}{ps:List Str}{a1 a2:Addr}
end
theorem FnOk.le {P:Program}{w:World}{K:PySem.W.Frag}{mg:Str→Option Value}{base:Heap}{k:Nat}{f:Addr}{fd:FuncData}{ps:List Str}{n:Nat}{m m':List W→Rs W}(F:FnOk P w K mg base CX0 k f fd ps (spD K n m))(h:∀ ws,m' ws=.no∨m' ws=m ws):FnOk P w K mg base CX0 k f fd ps (spD K n m'):=by
 have h':∀ vs H Q E,spD K n m' vs H Q E→spD K n m vs H Q E:=by
  intro vs H Q E ⟨B,ws,a,b,c,d⟩
  refine ⟨B,ws,a,b,c,?_⟩
  rcases h ws with z | z
  ·rw [z] at d;exact d.elim
  ·rw [←z];exact d
 exact ⟨fun vs H Q E q=>F.len vs H Q E (h' vs H Q E q),fun A outer s H args us vs Q E hr h0 hb hv q=>F.run A outer s H args us vs Q E hr h0 hb hv (h' vs H Q E q)⟩
open PySem PySem.Spec PyProof.Rows L2
def qQ8 (K:PySem.W.Frag)(mg:Str→Option Value)(x:Str):Prop:=∃ C,mg x=some (.ref C)∧PySem.W.nsIn K mainGlobals x=some (some (.ref C))∧PySem.W.excIn K C [.type "ValueError",.type "Exception",.type "BaseException",.type "object"] "ValueError.__new__"=true
def qUi (K:PySem.W.Frag)(mg:Str→Option Value)(x:Str)(tab:List (Str×Bool)):Prop:=∃ C,mg x=some (.ref C)∧qa2 K (.ref C) tab
def qG9 (K:PySem.W.Frag)(Cc:Addr)(cs:List Str):Prop:=∀ c∈cs,∀ C,PySem.W.nsIn K mainGlobals c=some (some (.ref C))→PySem.W.exmOne K (.ref C) (.ref Cc)=some true
def qYa (K:PySem.W.Frag)(mg:Str→Option Value)(x:Str)(cs:List Str):Prop:=∃ C,mg x=some (.ref C)∧qG9 K C cs
section
variable {K:PySem.W.Frag}{h:Heap}{mg:Str→Option Value}{x:Str}{C Cc:Addr}{cv:Value}{b:Bool}{tab:List (Str×Bool)}{cs:List Str}
theorem raise_mk (X:K.In h)(G:h.Ns mainGlobals mg)(a:PySem.W.nsIn K mainGlobals x=some (some (.ref C)))(q:PySem.W.excIn K C [.type "ValueError",.type "Exception",.type "BaseException",.type "object"] "ValueError.__new__"=true):qQ8 K mg x:=⟨C,PySem.W.mg_of X G a,a,q⟩
theorem is_mk (X:K.In h)(G:h.Ns mainGlobals mg)(a:PySem.W.nsIn K mainGlobals x=some (some (.ref C)))(t:qa2 K (.ref C) tab):qUi K mg x tab:=⟨C,PySem.W.mg_of X G a,t⟩
theorem tabE_nil:qa2 K cv []:=fun x b e=>nomatch e
theorem tabE_cons (a:PySem.W.nsIn K mainGlobals x=some (some (.ref C)))(k:ExcKit K C)(q:PySem.W.kitOne K (.ref C) cv=some b)(r:qa2 K cv tab):qa2 K cv ((x,b)::tab):=fun y d e D hD=>by
 by_cases z:y=x
 ·subst z
  rw [List.lookup_cons_self] at e
  cases e
  rw [a] at hD
  cases hD
  exact ⟨k,q⟩
 ·have:(y == x)=false:=by simpa using z
  rw [List.lookup_cons,this] at e
  exact r y d e D hD
theorem catch_mk (X:K.In h)(G:h.Ns mainGlobals mg)(a:PySem.W.nsIn K mainGlobals x=some (some (.ref C)))(t:qG9 K C cs):qYa K mg x cs:=⟨C,PySem.W.mg_of X G a,t⟩
theorem catch_nil:qG9 K Cc []:=fun c m=>nomatch m
theorem catch_cons (a:PySem.W.nsIn K mainGlobals x=some (some (.ref C)))(q:PySem.W.exmOne K (.ref C) (.ref Cc)=some true)(r:qG9 K Cc cs):qG9 K Cc (x::cs):=fun c m D hD=>by
 rcases List.mem_cons.mp m with z | z
 ·subst z
  rw [a] at hD
  cases hD
  exact q
 ·exact r c z D hD
end
section
variable {X:Cx}{Ew:XW}{E:XK}{e:Expr}{p np p1 p2 cpos pos:Pos}{x en Tn:Str}{i:Nat}{tab:List (Str×Bool)}{g:qAj→Rs W}
theorem qTm {z:Str}(xc:XcE X E)(hg:Gl X x)(hc:qQ8 X.K X.mg x)(ha:PE X e (tC (.str z)))(hdb:#[17]=false:=by decide)
  (he:starEach [e] X.env=#[22]::starEach [] X.env:=by rfl) (hpl:(backTo cpos #[26]).any (·.1)=false:=by rfl) :
  PSX X (qa3 X.K E) [] (.Raise (some (.Call (.Name x np) [e] [] cpos)) none pos) (fun _=>.ex ⟨0,.str x⟩):=by
 obtain ⟨C,q1,q2,q3⟩:=hc
 exact qVn xc hg q1 q2 q3 PySem.F.excBase_ValueError ha hdb he hpl
theorem qC3 (ht:qUi X.K X.mg Tn tab)(hgT:Gl X Tn)(hg:Gl X "isinstance")(hm:X.mg "isinstance"=none)(hN:X.N[i]?=some en:=by rfl)(hv:Vis X.env.scope en:=by first | exact Or.inl rfl | exact Or.inr (Or.inl rfl) | exact Or.inr (Or.inr rfl))
  (hd:(en == ("__debug__":Str))=false:=by decide) (hcd:(en == ("__classdict__":Str))=false:=by decide) (hdT:(Tn == ("__debug__":Str))=false:=by decide)
  (he:starEach [.Name en p1,.Name Tn p2] X.env=(false,eval (.Name en p1) X.env)::starEach [.Name Tn p2] X.env:=by rfl) (he2:starEach [.Name Tn p2] X.env=(false,eval (.Name Tn p2) X.env)::starEach [] X.env:=by rfl)
  (hpl:(backTo pos (starEach [.Name Tn p2] X.env)).any (·.1)=false:=by rfl):PX X Ew (.Call (.Name "isinstance" p) [.Name en p1,.Name Tn p2] [] pos) (qP5 i tab):=by
 obtain ⟨C,q1,q2⟩:=ht
 exact qcn (fun D hD=>by rw [q1] at hD;cases hD;exact q2) ⟨C,q1⟩ hgT hg hm hN hv hd hcd hdT he he2 hpl
theorem hu50q {A:Around}{k:Nat}(hr:Room k (qPw A)):A.units + 50 < cLine:=by
 have:A.units + 16 * k + 200 < cLine:=hr.un
 omega
theorem qKc:bootBuiltins "ValueError"=some (.type "ValueError"):=by kernel_rfl
end
theorem ll1 {α:Type}:∀ {us:List α},us.length=1→∃ a,us=[a]
 | [a],_=>⟨a,rfl⟩
theorem lls {α:Type}{n:Nat}:∀ {us:List α},us.length=n + 1→∃ a r,us=a::r∧r.length=n
 | a::r,h=>⟨a,r,rfl,Nat.succ.inj h⟩
theorem ll2 {α:Type}{us:List α}(h:us.length=2):∃ a b,us=[a,b]:=
 let ⟨a,_,e,h⟩:=lls h;let ⟨b,q⟩:=ll1 h;⟨a,b,by rw [e,q]⟩
theorem ll3 {α:Type}{us:List α}(h:us.length=3):∃ a b c,us=[a,b,c]:=
 let ⟨a,_,e,h⟩:=lls h;let ⟨b,c,q⟩:=ll2 h;⟨a,b,c,by rw [e,q]⟩
theorem ll4 {α:Type}{us:List α}(h:us.length=4):∃ a b c d,us=[a,b,c,d]:=
 let ⟨a,_,e,h⟩:=lls h;let ⟨b,c,d,q⟩:=ll3 h;⟨a,b,c,d,by rw [e,q]⟩
theorem ll5 {α:Type}{us:List α}(h:us.length=5):∃ a b c d e,us=[a,b,c,d,e]:=
 let ⟨a,_,e1,h⟩:=lls h;let ⟨b,c,d,e,q⟩:=ll4 h;⟨a,b,c,d,e,by rw [e1,q]⟩
open PySem PySem.Spec PyProof.Rows L2
def qci (K:PySem.W.Frag):V→List V→Hp→VK→Prop:=fun x vs H Q=>∃ (l:Addr) (xs:List V) (v:V) (ds:List D) (d:D) (j:Nat),x=.ref l∧vs=[v]∧Rd H l (.lst xs)∧IsDs K H ds xs∧IsD K H d v∧qA3 50 d=true∧fineDs 50 ds=true∧ds.length < 1000∧
 ds.findIdx? (fun d'=>eqD d' d)=some j∧Q (.int (j:Nat)) H
section
variable {X:Cx}
theorem qWd {pins:List #[8]}{σ:L2.St}{H:Hp}{s:Shared}(I:Inv X pins σ H s){d:D}:∀ {ds:List D} {vs:List V} {us:List Value},IsDs X.K H ds vs→qBu vs us→fineDs 50 ds=true→us.map (qIv X.K H d)=ds.map fun d'=>eqD d' d
 | [],vs,us,h,r,f=>by cases #[40];cases r;rfl
 | d'::ds,vs,us,h,r,f=>by
  obtain ⟨v,rr,rfl,e2,e3⟩:=h
  cases r with
  | cons r1 r2=>
   simp only [fineDs,Bool.and_eq_true] at f
   rw [List.map_cons,List.map_cons,qQ7 I f.1 e2 r1,qWd I (d:=d) e3 r2 f.2]
theorem qWb (hu:X.A.units + 51 < cLine):MtM X "list.index" (qci X.K):=by
 intro pins s σ H x vs v us Q I rx rv h
 obtain ⟨l,xs,vd,ds,d,j,rfl,rfl,hH,hds,hd,fd,fds,hsm,hj,q⟩:=h
 cases rx
 obtain ⟨u,rfl,ru⟩:=rv.one
 have hu1:X.A.in1.units + 50 < cLine:=by show X.A.units + 1 + 50 < cLine;omega
 obtain ⟨z,its,n,r,hl,e⟩:=lstR I hH
 have mp:=qWd I (d:=d) hds r fds
 have lds:=hds.len
 obtain ⟨hlt,hit,hno⟩:=List.findIdx?_eq_some_iff_getElem.mp hj
 have sz:its.toArray.size=ds.length:=by simp;omega
 have at_:∀ (m:Nat) (hm:m < its.toArray.size) (hm':m < ds.length),qIv X.K H d its.toArray[m]=eqD ds[m] d:=fun m hm hm'=>by
  have:=congrArg (fun l=>l[m]?) mp
  have hmi:m < its.length:=by simpa using hm
  simp only [List.getElem?_map,List.getElem?_eq_getElem hmi,List.getElem?_eq_getElem hm',Option.map_some,Option.some.injEq] at this
  simpa using this
 refine call_meets F.slot_list_index ⟨_,e,rfl⟩ F.entry_list_index (F.args_list_index_2 _ _) (SeqAt.list_indexAt l its.toArray n none #[] u (qIv X.K H d) j (by rw [sz];exact hlt) #[0] ?_ ?_) ⟨e,fun y hy=>?_,?_⟩
 ·rw [at_ j (by rw [sz];exact hlt) hlt];exact hit
 ·intro m hm hmj
  have hmb:m < ds.length:=by rw [←sz];exact hm
  rw [at_ m hm hmb]
  simpa using hno m hmj
 ·exact qHm I hu1 fd hd ru hds r fds y (Array.mem_toList_iff.mpr hy)
 ·exact ⟨.int (j:Nat),H,I.tok _,⟨_,rfl⟩,q⟩
end
def idxW (ds:List D)(d:D):Rs W:=if qA3 50 d=true∧fineDs 50 ds=true∧ds.length < 1000 then (match ds.findIdx? (fun d'=>eqD d' d) with
  | some j=>.ok (.im (.int (j:Nat)))
  | none=>.no) else .no
def qWy (go:qAj→Rs W)(ge:qAj→Rs D):qAj→Rs W:=fun δ=>go δ>>=fun w=>match w with
 | .li _ ds=>ge δ>>=fun d=>idxW ds d
 | _=>.no
section
variable {X:Cx}{Ew:XW}{o e:Expr}{apos cpos:Pos}{go:qAj→Rs W}{ge:qAj→Rs D}
theorem qVl (hu:X.A.units + 51 < cLine)(ho:PX X Ew o go)(he:PXd X Ew e ge)
  (hbase:attributeBase o "index" X.env (eval o X.env)=eval o X.env:=by rfl)
  (hfew:((backTo cpos (starEach [e] X.env)).all (fun x=>!x.1) && #[55].all (fun x=>x.1.isSome)
   && decide #[59])=true:=by rfl)
  (hline:(apos.endLine == cpos.line)=true:=by rfl) (hst:starEach [e] X.env=#[22]::starEach [] X.env:=by rfl) (hplain:(backTo cpos #[26]).any (·.1)=false:=by rfl) :
  PX X Ew (.Call (.Attribute o "index" apos) [e] [] cpos) (qWy go ge):=by
 obtain ⟨to,o1,o2⟩:=ho
 obtain ⟨te,e1,e2⟩:=he
 refine ⟨_,qVy PySem.F.plainAttrs_list PySem.F.slot_list_index PySem.F.type_list_index (qWb hu) o1 (qBx e1 qCx hst) hbase hfew hline hst hplain,fun B0 F0 P B H σ δ Q r p=>?_⟩
 refine o2 B0 F0 P B H σ δ _ r #[45]
 cases w with
 | im d=>exact (p1:False).elim
 | li f ds=>
  have hr:∃ a vs,v=.ref a∧Rd H1 a (.lst vs)∧IsDs X.K B1 ds vs:=by
   cases f with
   | false=>obtain ⟨a,vs,q1,q2,q3⟩:=hw;exact ⟨a,vs,q1,q2,q3⟩
   | true=>obtain ⟨a,vs,q1,_,_,q2,q3⟩:=hw;exact ⟨a,vs,q1,.inl q2,q3⟩
  obtain ⟨a,vs,rfl,q2,q3⟩:=hr
  refine ⟨.inl ⟨rfl,vs,.inl q2⟩,e2 B0 F0 P B1 H1 σ δ _ (r.grow g1) ((Pst.bind p1).mono fun d B2 H2 g2 p2 u hd=>?_)⟩
  unfold idxW at p2
  split at p2
  ·rename_i hc
   split at p2
   ·rename_i j hj
    exact ⟨a,vs,u,ds,d,j,rfl,rfl,qA5.rdl g2.sh q2,IsDs.mono g2.bh _ _ (IsDs.mono g2.sb _ _ q3),IsD.mono g2.bh _ _ hd,hc.1,hc.2.1,hc.2.2,hj,p2 B2 H2 (Grow.refl g2.bh) _ rfl⟩
   ·exact p2.elim
  ·exact p2.elim
end
def without (H:Hp)(a:Addr):Hp:=fun b=>if b=a then none else H b
abbrev KsT:=List (List Key×D)
structure Lent (K:PySem.W.Frag) (B H:Hp) (a:Addr) (ks:KsT):Prop where
 b:B a=none
 ex:∃ kvs,H a=some (.dT kvs)∧KDt K B ks kvs
def qem (K:PySem.W.Frag)(B H:Hp)(a:Addr)(r:Rs (D×KsT))(Q:VK):Prop:=
 match r with
 | .ok x=>∀ B' H',Grow B (without H a) B' H'→Lent K B' H' a x.2→∀ v,IsD K B' x.1 v→Q v H'
 | _=>False
def spL (K:PySem.W.Frag)(n:Nat)(m:List W→KsT→Rs (D×KsT)):Sp:=fun vs H Q _=>∃ B ws us a ks,vs=us++[.ref a]∧qA5 B H∧qPy K B H ws us∧ws.length=n∧Lent K B H a ks∧qem K B H a (m ws ks) Q
def qEk (N:List Str)(ws:List W)(ks:KsT):qAj:=ws.map W.slot++.dtt ks::List.replicate (N.length - ws.length - 1) .un
def qd0 (i:Nat):Fl→Rs (D×KsT)
 | .rl d δ=>match δ[i]? with
  | some (.dtt ks)=>.ok (d,ks)
  | _=>.no
 | _=>.no
def qbh (N:List Str)(h:qAj→Rs Fl)(n:Nat):List W→KsT→Rs (D×KsT):=fun ws ks=>h (qEk N ws ks)>>=qd0 n
theorem qNc {H:Hp}{a:Addr}:qA5 (without H a) H:=fun b o e=>by
 unfold without at e
 split at e
 ·cases e
 ·exact e
theorem qDf {H:Hp}{a b:Addr}{o:HO}(hb:b≠a)(e:H b=some o):without H a b=some o:=by unfold without;rw [if_neg hb];exact e
theorem qNb {H:Hp}{a:Addr}:without H a a=none:=by unfold without;rw [if_pos rfl]
theorem qLp {N:List Str}{ws:List W}{ks:KsT}{i:Nat}{s:Sl}(e:(qEk N ws ks)[i]?=some s):(∃ w,ws[i]?=some w∧s=w.slot)∨(i=ws.length∧s=.dtt ks)∨s=.un:=by
 unfold qEk at e
 by_cases hi:i < ws.length
 ·rw [List.getElem?_append_left (by simpa using hi),List.getElem?_map] at e
  cases q:ws[i]? with
  | none=>rw [q] at e;cases e
  | some w=>rw [q] at e;cases e;exact .inl ⟨w,rfl,rfl⟩
 ·rw [List.getElem?_append_right (by simpa using hi),List.length_map] at e
  by_cases hj:i=ws.length
  ·subst hj
   rw [Nat.sub_self,List.getElem?_cons_zero] at e
   cases e;exact .inr (.inl ⟨rfl,rfl⟩)
  ·have:i - ws.length=(i - ws.length - 1) + 1:=by omega
   rw [this,List.getElem?_cons_succ,List.getElem?_replicate] at e
   split at e
   ·cases e;exact .inr (.inr rfl)
   ·cases e
theorem qPy.at {K:PySem.W.Frag}{B H:Hp}:∀ {ws:List W} {vs:List V},qPy K B H ws vs→∀ (i:Nat) (w:W),ws[i]?=some w→∃ v,vs[i]?=some v∧Rdw K B H w v
 | [],vs,h,i,w,e=>by simp at e
 | w::ws,vs,h,i,w',e=>by
  obtain ⟨v,r,rfl,e2,e3⟩:=h
  cases i with
  | zero=>simp at e;subst e;exact ⟨v,rfl,e2⟩
  | succ i=>exact qPy.at e3 i w' (by simpa using e)
theorem qUq {K:PySem.W.Frag}{B H:Hp}{N:List Str}{ws:List W}{us:List V}{a:Addr}{ks:KsT}(hs:qA5 B H)(hw:qPy K B H ws us)(hL:Lent K B H a ks)(hl:ws.length + 1≤N.length) :
  R K B (without H a) qDh B H (L2.start N (us++[.ref a])) (qEk N ws ks):=by
 have hlen:=hw.len
 obtain ⟨hb,kvs,hH,hk⟩:=hL
 have at_:∀ (i:Nat) (v:V),us[i]?=some v→(L2.start N (us++[.ref a]))[i]?=some (some v):=fun i v ev=>by
  have hi:i < us.length:=(List.getElem?_eq_some_iff.mp ev).1
  unfold L2.start
  rw [List.getElem?_append_left (by simp;omega),List.getElem?_map,List.getElem?_append_left hi,ev];rfl
 have ata:(L2.start N (us++[.ref a]))[ws.length]?=some #[25]:=by
  unfold L2.start
  rw [List.getElem?_append_left (by simp;omega),List.getElem?_map,List.getElem?_append_right #[0],hlen,Nat.sub_self];rfl
 refine ⟨qA5.refl _,fun _ _ e=>.inl e,qNc,qCg,hs,?_,fun i s e=>?_,fun i j s t b hij e1 e2 o1 o2 z1 z2=>?_⟩
 ·unfold qEk L2.start
  simp only [List.length_append,List.length_map,List.length_replicate,List.length_cons,List.length_nil]
  omega
 ·rcases qLp e with ⟨w,ew,rfl⟩ | ⟨rfl,rfl⟩ | rfl
  ·obtain ⟨v,ev,hv⟩:=hw.at i w ew
   rw [at_ i v ev]
   cases w with
   | im d=>exact ⟨v,rfl,hv⟩
   | li f ds=>
    obtain ⟨c,vs,rfl,e2,e3⟩:=hv
    have hne:c≠a:=fun z=>by
     subst z
     rcases e2 with q | ⟨o,q⟩ <;> rw [hH] at q <;> cases q
    refine ⟨c,vs,rfl,?_,e3⟩
    rcases e2 with q | ⟨o,q⟩
    ·exact .inl (qDf hne q)
    ·exact .inr ⟨o,qDf hne q⟩
  ·rw [ata]
   exact ⟨a,kvs,rfl,qNb,rfl,hb,hH,hk⟩
  ·exact trivial
 ·have own:∀ (i:Nat) (s:Sl),(qEk N ws ks)[i]?=some s→s.isOwn=true→i=ws.length:=fun i s e o=>by
   rcases qLp e with ⟨w,_,rfl⟩ | ⟨rfl,rfl⟩ | rfl
   ·cases w <;> cases o
   ·rfl
   ·cases o
  exact hij ((own i s e1 o1).trans (own j t e2 o2).symm)
section
variable {P:Program}{w:World}{K:PySem.W.Frag}{mg:Str→Option Value}{base:Heap}
theorem Fun.okL {x qual:Str}{st:Stmt}{f:Addr}{fd:FuncData}{N ps:List Str}{k n:Nat}{h:qAj→Rs Fl}(F:Fun K x qual st f fd)(S:FnScope N ps (qAd st))(hl:ps.length≤N.length)(hn:ps.length=n + 1)
  (hbody:∀ (cdv:Value) (A:Around) (outer:List Env) (s:Shared) (H:Hp) (E:XK),Room k (A.deeper (envOfC qual (qAd st) s.heap.objs.size f cdv))→
   ∃ Wr,n∉Wr∧qP0 (qLt CX0 P w K mg base N qual (qAd st) f cdv A outer s H E).nox EN Wr (qBp st) h):FnOk P w K mg base CX0 (k + 1) f fd ps (spL K n (qbh N h n)):=by
 refine F.ok S (fun vs H Q E hsp=>?_) fun cdv A outer s H vs Q E hr hsp=>?_
 ·obtain ⟨B,ws,us,a,ks,rfl,hs,hw,hn',_⟩:=hsp
  rw [List.length_append,←hw.len,hn',hn];rfl
 ·obtain ⟨B,ws,us,a,ks,rfl,hs,hw,hn',hL,p⟩:=hsp
  obtain ⟨Wr,hWr,ts,h1,h2⟩:=hbody cdv A outer s H E hr
  refine ⟨ts,h1,h2 B (without H a) qDh B H _ (qEk N ws ks) _ (qUq hs hw hL #[0]) ?_⟩
  have p':qem K B H a (h (qEk N ws ks)>>=qd0 n) Q:=p
  have ata:(L2.start N (us++[.ref a]))[n]?=some #[25]:=by
   have:=hw.len
   unfold L2.start
   rw [List.getElem?_append_left (by simp;omega),List.getElem?_map,List.getElem?_append_right #[0],show n - us.length=0 by omega];rfl
  cases q:h (qEk N ws ks) with
  | no=>rw [q] at p';exact p'
  | ex x=>rw [q] at p';exact p'.elim
  | ok fl=>
   rw [q] at p'
   cases fl with
   | rl d δ=>
    intro v B' H' σ' r' f' hd
    have p1:qem K B H a (qd0 n (.rl d δ)) Q:=p'
    unfold qd0 at p1
    dsimp only at p1
    split at p1
    ·rename_i ks' ek
     obtain ⟨a2,kvs,e1,_,_,e4,e5,e6⟩:=r'.sl n _ ek
     rw [f' n hWr,ata] at e1
     cases e1
     exact p1 B' H' r'.whole ⟨e4,kvs,e5,e6⟩ v hd
    ·exact p1.elim
   | nx δ=>exact p'.elim
   | rt w=>exact p'.elim
   | bk δ=>exact p'.elim
   | ct δ=>exact p'.elim
structure FnL (P:Program) (w:World) (K:PySem.W.Frag) (mg:Str→Option Value) (base:Heap) (k:Nat) (x:Str) (n:Nat) (m:List W→KsT→Rs (D×KsT)):Prop where
 ex:∃ f fd ps,FnOk P w K mg base CX0 k f fd ps (spL K n m)∧mg x=some (.ref f)∧PySem.W.keepIn K (.ref f)=true∧qIi K fd ps []
theorem qbl {x:Str}{st:Stmt}{N ps:List Str}{k n:Nat}{h:qAj→Rs Fl}(T:Has K mg x st)(S:FnScope N ps (qAd st))(hl:ps.length≤N.length)(hn:ps.length=n + 1)
  (hb:∀ (kV doc pm:Value) (an:Option Addr) (cdv ct:Value) (us:List Value),us.length=ps.length→bindArgs #[47] ⟨us,[]⟩=pure (ps.zip us))
  (hbody:∀ (f:Addr) (cdv:Value) (A:Around) (outer:List Env) (s:Shared) (H:Hp) (E:XK),Room k (A.deeper (envOfC x (qAd st) s.heap.objs.size f cdv))→
   ∃ Wr,n∉Wr∧qP0 (qLt CX0 P w K mg base N x (qAd st) f cdv A outer s H E).nox EN Wr (qBp st) h):FnL P w K mg base (k + 1) x n (qbh N h n):=by
 obtain ⟨f,fd,F,hm⟩:=T
 exact ⟨f,fd,ps,PD.Fun.okL F S hl hn (hbody f),hm,F.kp,F.binds hb⟩
theorem FnL.mono {j k n:Nat}{x:Str}{m:List W→KsT→Rs (D×KsT)}(F:FnL P w K mg base j x n m)(h:j≤k):FnL P w K mg base k x n m:=by
 obtain ⟨f,fd,ps,F1,r⟩:=F.ex
 exact ⟨f,fd,ps,F1.mono h,r⟩
end
open PySem PySem.Spec PyProof.Rows L2
section
variable {K:PySem.W.Frag}{B0 F0 P B B' H H':Hp}{σ:L2.St}{δ:qAj}
theorem R.relent (r:R K B0 F0 P B H σ δ){j:Nat}{ks es:KsT}{a:Addr}(ej:δ[j]?=some (.dtt ks))(ea:σ[j]?=some #[25])(G:Grow B (without H a) B' H')(L:Lent K B' H' a es) :
  R K B0 F0 P B' H' σ (δ.set j (.dtt es)):=by
 obtain ⟨hb,us,hH,hu⟩:=L
 obtain ⟨a',vs',q1,q2,q3,q4,q5,q6⟩:=r.sl j _ ej
 rw [ea] at q1
 cases q1
 have keep:∀ {c:Addr} {o:HO},c≠a→H c=some o→H' c=some o:=fun hc e=>G.sh _ _ (qDf hc e)
 have keepB:∀ {c:Addr} {o:HO},(∀ vs,o≠.tup vs)→c≠a→H c=some o→B c=none→B' c=none:=fun {c} {o} ht hc e hn=>by
  cases z:B' c with
  | none=>rfl
  | some u=>
   rcases G.nw c u z with y | y | ⟨y,vs,t⟩
   ·rw [hn] at y;cases y
   ·rw [qDf hc e] at y;cases y
   ·rw [qDf hc e] at y;cases y;exact absurd t (ht vs)
 have wide:∀ {G':Hp},qA5 G' H→G' a=none→qA5 G' H':=fun hs hn c o e=>keep (qAm e hn) (hs c o e)
 refine ⟨r.b0.trans G.sb,fun c o e=>?_,wide r.fh q2,wide r.ph q3,G.bh,by rw [List.length_set];exact r.len,fun i s e=>?_,fun i k s t b hik e1 e2 o1 o2 z1 z2=>?_⟩
 ·rcases G.nw c o e with y | y
  ·exact r.nw c o y
  ·by_cases hc:c=a
   ·subst hc;rw [hb] at e;cases e
   ·refine .inr (Nw.older r.fh ?_)
    unfold Nw without at y
    rw [if_neg hc] at y;exact y
 ·by_cases hj:j=i
  ·subst hj
   obtain ⟨rfl,hl⟩:=qBb e
   exact ⟨a,us,ea,q2,q3,hb,hH,hu⟩
  ·rw [qAy hj] at e
   have:=r.sl i s e
   have ne:∀ c,s.isOwn=true→σ[i]?=some (some (.ref c))→c≠a:=fun c o z hc=>by
    subst hc
    exact r.ne i j _ _ c (Ne.symm hj) e ej o rfl z ea
   cases s with
   | un=>trivial
   | im d=>obtain ⟨v,w1,w2⟩:=this;exact ⟨v,w1,IsD.mono G.sb _ _ w2⟩
   | rd ds=>obtain ⟨c,vs,w1,w2,w3⟩:=this;exact ⟨c,vs,w1,w2,IsDs.mono G.sb _ _ w3⟩
   | exc x=>obtain ⟨c,C,w1,w2,w3⟩:=this;exact ⟨c,C,w1,w2,G.sb _ _ w3⟩
   | own fs=>
    obtain ⟨c,ws,w1,w2,w3,w4,w5,w6⟩:=this
    have hne:=ne c rfl w1
    exact ⟨c,ws,w1,w2,w3,keepB (by intro _ q;cases q) hne w5 w4,keep hne w5,IsDs.mono G.sb _ _ w6⟩
   | dct fs=>
    obtain ⟨c,ws,w1,w2,w3,w4,w5,w6⟩:=this
    have hne:=ne c rfl w1
    exact ⟨c,ws,w1,w2,w3,keepB (by intro _ q;cases q) hne w5 w4,keep hne w5,w6.mono G.sb⟩
   | dtt fs=>
    obtain ⟨c,ws,w1,w2,w3,w4,w5,w6⟩:=this
    have hne:=ne c rfl w1
    exact ⟨c,ws,w1,w2,w3,keepB (by intro _ q;cases q) hne w5 w4,keep hne w5,w6.mono G.sb⟩
 ·have back:∀ (i:Nat) (s:Sl),(δ.set j (.dtt es))[i]?=some s→s.isOwn=true→∃ s',δ[i]?=some s'∧s'.isOwn=true:=fun i s e o=>by
   by_cases hj:j=i
   ·subst hj;exact ⟨_,ej,rfl⟩
   ·rw [qAy hj] at e;exact ⟨s,e,o⟩
  obtain ⟨s',e1',o1'⟩:=back i s e1 o1
  obtain ⟨t',e2',o2'⟩:=back k t e2 o2
  exact r.ne i k s' t' b hik e1' e2' o1' o2' z1 z2
end
section
variable {X:Cx}{Ew:XW}{e:Expr}{es:List Expr}{p pos p' dpos:Pos}{x:Str}{k n j:Nat}{m:List W→KsT→Rs (D×KsT)}
def PXaj (X:Cx)(Ew:XW)(j:Nat)(es:List Expr)(g:qAj→Rs (List W)):Prop:=
 ∃ ta:TA,PA X es ta∧∀ (B0 F0 P B H:Hp) (σ:L2.St) (δ:qAj) (Q:List V→Hp→Prop),R X.K B0 F0 P B H σ δ→(∃ ks,δ[j]?=some (.dtt ks))→Pst Ew B H (fun ws B' H'=>∀ vs a,σ[j]?=some #[25]→qNa X.K B' H H' ws vs→Q (vs++[.ref a]) H') (g δ)→ta σ H Q
theorem qN7 (j:Nat){x:Str}(hN:X.N[j]?=some x:=by rfl)(hv:Vis X.env.scope x:=by first | exact Or.inl rfl | exact Or.inr (Or.inl rfl) | exact Or.inr (Or.inr rfl))(hd:#[17]=false:=by decide)(hcd:#[33]=false:=by decide)
  (hs:starEach [.Name x p] X.env=(false,eval (.Name x p) X.env)::starEach [] X.env:=by rfl):PXaj X Ew j [.Name x p] (fun _=>.ok []):=by
 refine ⟨_,qBx (qCb hN hv hd hcd) qCx hs,fun B0 F0 P B H σ δ Q r ⟨ks,ek⟩ q=>?_⟩
 obtain ⟨a,kvs,e1,_⟩:=r.sl j _ ek
 exact ⟨_,e1,q B H (Grow.refl r.bh) [] a e1 rfl⟩
theorem qC7 {g:qAj→Rs W}{k:qAj→Rs (List W)}(h:PX X Ew e g)(hr:PXaj X Ew j es k)(hs:starEach (e::es) X.env=#[22]::starEach es X.env:=by rfl) :
  PXaj X Ew j (e::es) (fun δ=>g δ>>=fun w=>k δ>>=fun ws=>Rs.ok (w::ws)):=by
 obtain ⟨te,h1,h2⟩:=h
 obtain ⟨ta,k1,k2⟩:=hr
 refine ⟨_,qBx h1 k1 hs,fun B0 F0 P B H σ δ Q r hk q=>h2 B0 F0 P B H σ δ _ r ((Pst.bind q).mono fun w B1 H1 g1 q v hw=>?_)⟩
 refine k2 B0 F0 P B1 H1 σ δ _ (r.grow g1) hk ((Pst.bind q).mono fun ws B2 H2 g2 q2 vs a ea hws=>?_)
 exact q2 B2 H2 (Grow.refl g2.bh) (v::vs) a ea ⟨v,vs,rfl,hw.grow g2,hws.older g1.sh⟩
def qen (K:PySem.W.Frag)(B0 F0 P:Hp)(j:Nat)(σ:L2.St)(δ:qAj)(r:Rs (D×KsT))(Q:VK):Prop:=
 match r with
 | .ok x=>∀ B' H',R K B0 F0 P B' H' σ (δ.set j (.dtt x.2))→∀ v,IsD K B' x.1 v→Q v H'
 | _=>False
def PXl (X:Cx)(j:Nat)(e:Expr)(g:qAj→Rs (D×KsT)):Prop:=
 ∃ te:TE,PE X e te∧∀ (B0 F0 P B H:Hp) (σ:L2.St) (δ:qAj) (Q:VK),R X.K B0 F0 P B H σ δ→qen X.K B0 F0 P j σ δ (g δ) Q→te σ H Q
def qKq (m:List W→KsT→Rs (D×KsT))(n j:Nat)(g:qAj→Rs (List W)):qAj→Rs (D×KsT):=fun δ=>match δ[j]? with
 | some (.dtt ks)=>g δ>>=fun ws=>if ws.length=n then m ws ks else .no
 | _=>.no
theorem qRu {g:qAj→Rs (List W)}(F:FnL X.prog X.w X.K X.mg X.base k x n m)(hr:Room k X.A)(hg:Gl X x)(ha:PXaj X EN j (e::es) g)(hdb:#[17]=false:=by decide)
  (he:starEach (e::es) X.env=#[22]::starEach es X.env:=by rfl) (hpl:#[43].any (·.1)=false:=by rfl):PXl X j #[46] (qKq m n j g):=by
 obtain ⟨f,fd,ps,F1,hm,hk,hb⟩:=F.ex
 obtain ⟨ta,h1,h2⟩:=ha
 refine ⟨_,qFt (E:=E0) F1 hr hg hm hk hb .nil qV1 h1 hdb he hpl,fun B0 F0 P B H σ δ Q r q=>?_⟩
 unfold qKq at q
 split at q
 ·rename_i ks ej
  refine h2 B0 F0 P B H σ δ _ r ⟨ks,ej⟩ ?_
  cases eg:g δ with
  | no=>rw [eg] at q;exact q.elim
  | ex x=>rw [eg] at q;exact q.elim
  | ok ws=>
   rw [eg] at q
   intro B1 H1 g1 vs a ea hw
   have q1:qen X.K B0 F0 P j σ δ (if ws.length=n then m ws ks else .no) Q:=q
   split at q1
   ·rename_i hl
    have r1:=r.grow g1
    obtain ⟨a',kvs,e1,e2,e3,e4,e5,e6⟩:=r1.sl j _ ej
    rw [ea] at e1
    cases e1
    refine ⟨B1,ws,vs,a,ks,by rw [List.append_nil],g1.bh,hw.rd,hl,⟨e4,kvs,e5,e6⟩,?_⟩
    cases em:m ws ks with
    | no=>rw [em] at q1;exact q1
    | ex x=>rw [em] at q1;exact q1
    | ok y=>
     rw [em] at q1
     exact fun B' H' G L v hd=>q1 B' H' (r1.relent ej ea G L) v hd
   ·exact q1.elim
 ·exact q.elim
def ifJ (t:qAj→Rs Bool)(j:Nat)(ga:qAj→Rs D)(gb:qAj→Rs (D×KsT)):qAj→Rs (D×KsT):=fun δ=>match δ[j]? with
 | some (.dtt ks)=>t δ>>=fun b=>if b=true then (ga δ>>=fun d=>.ok (d,ks)) else gb δ
 | _=>.no
theorem qYr {i:Nat}{s:Sl}:∀ {δ:qAj},δ[i]?=some s→δ.set i s=δ:=fun {δ} h=>by
 apply List.ext_getElem?
 intro m
 by_cases hm:i=m
 ·subst hm;rw [List.getElem?_set_self (List.getElem?_eq_some_iff.mp h).1,h]
 ·rw [List.getElem?_set_ne hm]
theorem pxl_if {c a b:Expr}{t:qAj→Rs Bool}{ga:qAj→Rs D}{gb:qAj→Rs (D×KsT)}(h:PXt X EN c t)(ha:PXd X EN a ga)(hb:PXl X j b gb):PXl X j (.IfExp c a b pos) (ifJ t j ga gb):=by
 obtain ⟨tt,h1,h2⟩:=h
 obtain ⟨ta,a1,a2⟩:=ha
 obtain ⟨tb,b1,b2⟩:=hb
 refine ⟨_,qMl h1 a1 b1,fun B0 F0 P B H σ δ Q r q=>?_⟩
 unfold ifJ at q
 split at q
 ·rename_i ks ej
  refine h2 B0 F0 P B H σ δ _ r ?_
  cases et:t δ with
  | no=>rw [et] at q;exact q
  | ex x=>rw [et] at q;exact q.elim
  | ok c=>
   rw [et] at q
   intro B1 H1 g1
   have r1:=r.grow g1
   cases c with
   | true=>
    have q1:qen X.K B0 F0 P j σ δ (ga δ>>=fun d=>.ok (d,ks)) Q:=q
    refine a2 B0 F0 P B1 H1 σ δ Q r1 ?_
    cases eg:ga δ with
    | no=>rw [eg] at q1;exact q1
    | ex x=>rw [eg] at q1;exact q1.elim
    | ok d=>
     rw [eg] at q1
     exact fun B' H' g' v hd=>q1 B' H' (by rw [qYr ej];exact r1.grow g') v hd
   | false=>exact b2 B0 F0 P B1 H1 σ δ Q r1 q
 ·exact q.elim
def retJ (j:Nat)(g:qAj→Rs (D×KsT)):qAj→Rs Fl:=fun δ=>g δ>>=fun x=>.ok (.rl x.1 (δ.set j (.dtt x.2)))
theorem qZc {g:qAj→Rs (D×KsT)}(he:PXl X j e g):PSX X EN [] (.Return (some e) pos) (retJ j g):=by
 obtain ⟨te,h1,h2⟩:=he
 refine ⟨_,qOb h1,fun B0 F0 P B H σ δ D r q=>h2 B0 F0 P B H σ δ _ r ?_⟩
 unfold retJ at q
 cases eg:g δ with
 | no=>rw [eg] at q;exact q
 | ex x=>rw [eg] at q;exact (q B H r.whole).elim
 | ok y=>
  rw [eg] at q
  exact fun B' H' r' v hd=>q v B' H' σ r' #[11] hd
def qTj (g:qAj→Rs D):qAj→Rs Fl:=fun δ=>g δ>>=fun d=>.ok (.rl d δ)
theorem qGh {g:qAj→Rs D}(he:PXd X Ew e g):PSX X Ew [] (.Return (some e) pos) (qTj g):=by
 obtain ⟨te,h1,h2⟩:=he
 exact ⟨_,qOb h1,fun B0 F0 P B H σ δ D r q=>h2 B0 F0 P B H σ δ _ r ((qB3.bind r q).mono fun d B1 H1 g1 q1 v hd=>q1 v B1 H1 σ (r.grow g1) #[11] hd)⟩
def qcb (i j:Nat)(g:qAj→Rs (D×KsT)):qAj→Rs Fl:=fun δ=>g δ>>=fun x=>.ok (.nx ((δ.set j (.dtt x.2)).set i (.im x.1)))
theorem qZb (i j:Nat){x:Str}{g:qAj→Rs (D×KsT)}(hN:X.N.Nodup)(he:PXl X j e g)(hi:X.N[i]?=some x:=by rfl)(hx:Loc X.env.scope x:=by first | exact Or.inl rfl | exact Or.inr rfl)(hs:swapsWith e (some (.Name x p')) pos.line X.env=pure false:=by rfl)
  (hf:X.fn x=true∨X.env.scope.names.lookup x=some .local:=by first | exact .inl rfl | exact .inr rfl | assumption) :
  PSX X EN [i] (.Assign [.Name x p'] e pos) (qcb i j g):=by
 obtain ⟨te,h1,h2⟩:=he
 refine ⟨_,qK2 hN hi hx h1 hs hf,fun B0 F0 P B H σ δ D r q=>h2 B0 F0 P B H σ δ _ r ?_⟩
 unfold qcb at q
 cases eg:g δ with
 | no=>rw [eg] at q;exact q
 | ex x=>rw [eg] at q;exact (q B H r.whole).elim
 | ok y=>
  rw [eg] at q
  exact fun B' H' r' v hd=>q B' H' _ (r'.im hd) qH4
def PXan (X:Cx)(Ew:XW)(es:List Expr)(g:qAj→Rs (List W)):Prop:=
 ∃ ta:TA,PA X es ta∧∀ (B0 F0 P B H:Hp) (σ:L2.St) (δ:qAj) (Q:List V→Hp→Prop),R X.K B0 F0 P B H σ δ→Pst Ew B H (fun ws B' H'=>∀ vs a,H' a=none→qNa X.K B' H H' ws vs→Q (vs++[.ref a]) (upd H' a (.dT []))) (g δ)→ta σ H Q
theorem qVi (hs:starEach [.Dict [] [] dpos] X.env=(false,eval (.Dict [] [] dpos) X.env)::starEach [] X.env:=by rfl):PXan X Ew [.Dict [] [] dpos] (fun _=>.ok []):=
 ⟨_,qBx qRy qCx hs,fun B0 F0 P B H σ δ Q r q a ha=>q B H (Grow.refl r.bh) [] a ha rfl⟩
theorem qJh {g:qAj→Rs W}{k:qAj→Rs (List W)}(h:PX X Ew e g)(hr:PXan X Ew es k)(hs:starEach (e::es) X.env=#[22]::starEach es X.env:=by rfl) :
  PXan X Ew (e::es) (fun δ=>g δ>>=fun w=>k δ>>=fun ws=>Rs.ok (w::ws)):=by
 obtain ⟨te,h1,h2⟩:=h
 obtain ⟨ta,k1,k2⟩:=hr
 refine ⟨_,qBx h1 k1 hs,fun B0 F0 P B H σ δ Q r q=>h2 B0 F0 P B H σ δ _ r ((Pst.bind q).mono fun w B1 H1 g1 q v hw=>?_)⟩
 refine k2 B0 F0 P B1 H1 σ δ _ (r.grow g1) ((Pst.bind q).mono fun ws B2 H2 g2 q2 vs a ea hws=>?_)
 exact q2 B2 H2 (Grow.refl g2.bh) (v::vs) a ea ⟨v,vs,rfl,hw.grow g2,hws.older g1.sh⟩
def qec (m:List W→KsT→Rs (D×KsT))(n:Nat)(g:qAj→Rs (List W)):qAj→Rs D:=fun δ=>g δ>>=fun ws=>if ws.length=n then (m ws []>>=fun x=>.ok x.1) else .no
theorem qY7 {g:qAj→Rs (List W)}(F:FnL X.prog X.w X.K X.mg X.base k x n m)(hr:Room k X.A)(hg:Gl X x)(ha:PXan X EN (e::es) g)(hdb:#[17]=false:=by decide)
  (he:starEach (e::es) X.env=#[22]::starEach es X.env:=by rfl) (hpl:#[43].any (·.1)=false:=by rfl):PXd X EN #[46] (qec m n g):=by
 obtain ⟨f,fd,ps,F1,hm,hk,hb⟩:=F.ex
 obtain ⟨ta,h1,h2⟩:=ha
 refine ⟨_,qFt (E:=E0) F1 hr hg hm hk hb .nil qV1 h1 hdb he hpl,fun B0 F0 P B H σ δ Q r q=>h2 B0 F0 P B H σ δ _ r ((Pst.bind q).mono fun ws B1 H1 g1 q1 vs a ha hw=>?_)⟩
 split at q1
 ·rename_i hl
  have hb1:B1 a=none:=g1.bh.free ha
  have gn:Grow B1 H1 B1 (upd H1 a (.dT [])):=Grow.new g1.bh ha hb1
  refine ⟨B1,ws,vs,a,[],by rw [List.append_nil],gn.bh,(hw.grow gn).rd,hl,⟨hb1,[],qAu,rfl,rfl⟩,?_⟩
  cases em:m ws [] with
  | no=>rw [em] at q1;exact q1
  | ex x=>rw [em] at q1;exact (q1 B1 H1 #[32]).elim
  | ok y=>
   rw [em] at q1
   intro B' H' G L v hd
   refine q1 B' H' ⟨G.sb,fun c o e=>?_,G.bh,fun c o e=>?_⟩ v hd
   ·have hc:=qAm e ha
    exact G.sh c o (qDf hc (by rw [qAo hc];exact e))
   ·rcases G.nw c o e with y | y
    ·exact .inl y
    ·by_cases hc:c=a
     ·subst hc;rw [L.b] at e;cases e
     ·unfold Nw without at y
      rw [if_neg hc,qAo hc] at y
      exact .inr y
 ·exact q1.elim
def qdh:D→Option (List Key)
 | .tup ds=>qZ5 ds
 | _=>none
def inJ (j:Nat)(g:qAj→Rs D):qAj→Rs Bool:=fun δ=>match δ[j]? with
 | some (.dtt ks)=>g δ>>=fun d=>match qdh d with
  | some k=>.ok (qF8 ks k).isSome
  | none=>.no
 | _=>.no
theorem KDt.isSome {K:PySem.W.Frag}{B:Hp}{k:List Key}:∀ {ks:KsT} {kvs:List (List Key×V)},KDt K B ks kvs→(qP2 kvs k).isSome=(qF8 ks k).isSome
 | [],kvs,h=>by
  have:kvs=[]:=by have:=h.len;simpa using this
  subst this;rfl
 | (k1,d1)::ks,kvs,h=>by
  cases kvs with
  | nil=>have:=h.len;simp at this
  | cons q kvs=>
   obtain ⟨k2,v2⟩:=q
   obtain ⟨h1,u,us,e1,h2,h3⟩:=h
   simp only [List.map_cons,List.cons.injEq] at h1 e1
   obtain ⟨rfl,rfl⟩:=e1
   obtain ⟨rfl,h1⟩:=h1
   unfold qF8 qP2
   rw [List.find?_cons,List.find?_cons]
   by_cases z:k2=k
   ·simp only [z,decide_true,Option.map_some,Option.isSome_some]
   ·simp only [z,decide_false]
    exact KDt.isSome (ks:=ks) (kvs:=kvs) ⟨h1,h3⟩
theorem qMr {K:PySem.W.Frag}{B H:Hp}(hs:qA5 B H){d:D}{k:List Key}{v:V}(e:qdh d=some k)(h:IsD K B d v):∃ b,v=.ref b∧H b=some (.tup (k.map kV)):=by
 cases d with
 | tup ds=>
  obtain ⟨a,vs,rfl,e2,e3⟩:=h
  have:=qR5 e e3
  subst this
  exact ⟨a,rfl,hs _ _ e2⟩
 | _=>cases e
theorem qcl (j:Nat){x:Str}{g:qAj→Rs D}(hu:X.A.units + 1 < cLine)(he:PXd X Ew e g)(hN:X.N[j]?=some x:=by rfl)(hv:Vis X.env.scope x:=by first | exact Or.inl rfl | exact Or.inr (Or.inl rfl) | exact Or.inr (Or.inr rfl))(hd:#[17]=false:=by decide)
  (hcd:#[33]=false:=by decide) (hm:behindInMarks .In (.Name x p)=false:=by with_unfolding_all rfl):PXt X Ew (.Compare e [.In] [.Name x p] pos) (inJ j g):=by
 obtain ⟨te,h1,h2⟩:=he
 refine ⟨_,qbd (pc_din hu h1 (qCb hN hv hd hcd)) hm,fun B0 F0 P B H σ δ Q r q=>?_⟩
 unfold inJ at q
 split at q
 ·rename_i ks ej
  refine h2 B0 F0 P B H σ δ _ r ((Pst.bind q).mono fun d B1 H1 g1 q1 v hd=>?_)
  split at q1
  ·rename_i k ek
   obtain ⟨a,kvs,e1,e2,e3,e4,e5,e6⟩:=(r.grow g1).sl j _ ej
   obtain ⟨b,rfl,hb⟩:=qMr g1.bh ek hd
   refine ⟨_,e1,a,_,rfl,qYj.t (k:=k) e5 hb,_,rfl,?_⟩
   rw [e6.isSome]
   exact q1 B1 H1 #[32]
  ·exact q1.elim
 ·exact q.elim
def qYc (j:Nat)(gv gk:qAj→Rs D):qAj→Rs Fl:=fun δ=>match δ[j]? with
 | some (.dtt ks)=>gv δ>>=fun d=>gk δ>>=fun kd=>match qdh kd with
  | some k=>if ks.length < lim then .ok (.nx (δ.set j (.dtt (qHi ks k d)))) else .no
  | none=>.no
 | _=>.no
theorem qMj (j:Nat){x:Str}{i:Expr}{pos':Pos}{gv gk:qAj→Rs D}(hu:X.A.units + 1 < cLine)(hv:PXd X Ew e gv)(hi:PXd X Ew i gk)(hN:X.N[j]?=some x:=by rfl)(hvi:Vis X.env.scope x:=by first | exact Or.inl rfl | exact Or.inr (Or.inl rfl) | exact Or.inr (Or.inr rfl))
  (hd:#[17]=false:=by decide) (hcd:#[33]=false:=by decide) (hs:swapsWith e (some (.Subscript (.Name x p') i pos')) pos.line X.env=pure false:=by rfl) :
  PSX X Ew [] (.Assign [.Subscript (.Name x p') i pos'] e pos) (qYc j gv gk):=by
 obtain ⟨tv,v1,v2⟩:=hv
 obtain ⟨te,h1,h2⟩:=hi
 refine ⟨_,qVs hu (qCb hN hvi hd hcd) h1 v1 hs,fun B0 F0 P B H σ δ D r q=>?_⟩
 unfold qYc at q
 split at q
 ·rename_i ks ei
  obtain ⟨a,kvs,e1,e2,e3,e4,e5,e6⟩:=r.sl j _ ei
  refine v2 B0 F0 P B H σ δ _ r ((qB3.bind r q).mono fun d B1 H1 g1 q1 v hd=>?_)
  have r1:=r.grow g1
  refine ⟨_,e1,h2 B0 F0 P B1 H1 σ δ _ r1 ((qB3.bind r1 q1).mono fun kd B2 H2 g2 q2 y hy=>?_)⟩
  split at q2
  ·rename_i k ek
   split at q2
   ·rename_i hl
    obtain ⟨b,rfl,hb⟩:=qMr g2.bh ek hy
    have e7:=g2.sh _ _ (g1.sh _ _ e5)
    have l1:=e6.len
    refine ⟨a,_,rfl,qbz.t e7 hb (by rw [qDv,l1];exact hl),?_⟩
    have r2:=(r1.grow g2).putt (ks:=ks) (es:=qHi ks k d) (us:=qJj kvs k v) ei e1 (((e6.mono g1.sb).mono g2.sb).put (IsD.mono g2.sb d v hd))
    exact q2 _ _ σ r2 fun _ _=>rfl
   ·exact q2.elim
  ·exact q2.elim
 ·exact q.elim
end
open PySem PySem.Spec PyProof.Rows L2
theorem fnL_no {P:Program}{w:World}{K:PySem.W.Frag}{mg:Str→Option Value}{base:Heap}{x:Str}{st:Stmt}{ps:List Str}{k n:Nat}(T:Has K mg x st)
  (hb:∀ (kV doc pm:Value) (an:Option Addr) (cdv ct:Value) (us:List Value),us.length=ps.length→bindArgs #[47] ⟨us,[]⟩=pure (ps.zip us)) :
  FnL P w K mg base k x n (fun _ _=>.no):=by
 obtain ⟨f,fd,F,hm⟩:=T
 have no:∀ vs H Q E,spL K n (fun _ _=>.no) vs H Q E→False:=fun vs H Q E h=>by obtain ⟨_,_,_,_,_,_,_,_,_,_,p⟩:=h;exact p
 exact ⟨f,fd,ps,⟨fun vs H Q E h=>(no _ _ _ _ h).elim,fun A outer s H args us vs Q E _ _ _ _ h=>(no _ _ _ _ h).elim⟩,hm,F.kp,F.binds hb⟩
open PySem PySem.Spec PyProof.Rows L2
section
variable {X:Cx}{Ew:XW}
end
theorem ll6 {α:Type}{us:List α}(h:us.length=6):∃ a b c d e f,us=[a,b,c,d,e,f]:=by
 match us,h with
 | [a,b,c,d,e,f],_=>exact ⟨a,b,c,d,e,f,rfl⟩
open PySem PySem.Spec PyProof.Rows L2
def PostR (K:PySem.W.Frag)(Ew:XW)(B0 F0:Hp)(r:Rs W)(Q:VK):Prop:=
 match r with
 | .no=>False
 | .ok w=>∀ v B' H',Grow B0 F0 B' H'→IsW K B' F0 H' w v→Q v H'
 | .ex x=>∀ B' H',Grow B0 F0 B' H'→Ew x B' H'
def PXr (X:Cx)(Ew:XW)(e:Expr)(g:qAj→Rs W):Prop:=
 ∃ te:TE,PE X e te∧∀ (B0 F0 P B H:Hp) (σ:L2.St) (δ:qAj) (Q:VK),R X.K B0 F0 P B H σ δ→PostR X.K Ew B0 F0 (g δ) Q→te σ H Q
section
variable {X:Cx}{Ew:XW}{e c a b:Expr}{pos p':Pos}{g ga gb:qAj→Rs W}
theorem qba (he:PX X Ew e g):PXr X Ew e g:=by
 obtain ⟨te,h1,h2⟩:=he
 refine ⟨te,h1,fun B0 F0 P B H σ δ Q r p=>h2 B0 F0 P B H σ δ Q r ?_⟩
 cases q:g δ with
 | no=>rw [q] at p;exact p
 | ex x=>rw [q] at p;exact fun B' H' g'=>p B' H' (r.whole.trans g')
 | ok w=>rw [q] at p;exact fun B1 H1 g1 v hw=>p v B1 H1 (r.whole.trans g1) (hw.older r.fh)
theorem qVg (i:Nat){x:Str}(hN:X.N[i]?=some x:=by rfl)(hv:Vis X.env.scope x:=by first | exact Or.inl rfl | exact Or.inr (Or.inl rfl) | exact Or.inr (Or.inr rfl))(hd:#[17]=false:=by decide)
  (hcd:#[33]=false:=by decide):PXr X Ew (.Name x p') (qP1 i):=by
 refine ⟨_,qCb hN hv hd hcd,fun B0 F0 P B H σ δ Q r p=>?_⟩
 unfold qP1 at p
 cases e:δ[i]? with
 | none=>rw [e] at p;exact p.elim
 | some s=>
  rw [e] at p
  have hs:=r.sl i s e
  cases s with
  | un=>exact p.elim
  | im d=>
   obtain ⟨v,e1,e2⟩:=hs
   exact ⟨v,e1,p v B H r.whole e2⟩
  | rd ds=>
   obtain ⟨a,vs,e1,e2,e3⟩:=hs
   exact ⟨_,e1,p _ B H r.whole ⟨a,vs,rfl,qA5.rdl r.fh e2,e3⟩⟩
  | own ds=>
   obtain ⟨a,vs,e1,e2,e3,e4,e5,e6⟩:=hs
   exact ⟨_,e1,p _ B H r.whole ⟨a,vs,rfl,e2,e4,e5,e6⟩⟩
  | dct ks=>exact p.elim
  | dtt ks=>exact p.elim
  | exc x=>exact p.elim
theorem qbb {t:qAj→Rs Bool}(h:PXt X Ew c t)(ha:PXr X Ew a ga)(hb:PXr X Ew b gb):PXr X Ew (.IfExp c a b pos) (ifW t ga gb):=by
 obtain ⟨tt,h1,h2⟩:=h
 obtain ⟨ta,a1,a2⟩:=ha
 obtain ⟨tb,b1,b2⟩:=hb
 refine ⟨_,qMl h1 a1 b1,fun B0 F0 P B H σ δ Q r p=>h2 B0 F0 P B H σ δ _ r ?_⟩
 unfold ifW at p
 cases et:t δ with
 | no=>rw [et] at p;exact p
 | ex x=>rw [et] at p;exact fun B' H' g'=>p B' H' (r.whole.trans g')
 | ok c=>
  rw [et] at p
  intro B1 H1 g1
  cases c with
  | true=>exact a2 B0 F0 P B1 H1 σ δ Q (r.grow g1) p
  | false=>exact b2 B0 F0 P B1 H1 σ δ Q (r.grow g1) p
theorem qRx (he:PXr X Ew e g):PSX X Ew [] (.Return (some e) pos) (fun δ=>g δ>>=fun w=>.ok (.rt w)):=by
 obtain ⟨te,h1,h2⟩:=he
 refine ⟨_,qOb h1,fun B0 F0 P B H σ δ D r p=>h2 B0 F0 P B H σ δ _ r ?_⟩
 dsimp only at p
 cases q:g δ with
 | no=>rw [q] at p;exact p
 | ex x=>rw [q] at p;exact p
 | ok w=>rw [q] at p;exact p
end
open PySem PySem.Spec PyProof.Rows L2
section
variable {X:Cx}{Ew:XW}
end
section
variable {X:Cx}{E:XK}{x:Str}{np cpos pos:Pos}
end
open PySem PySem.Spec PyProof.Rows L2
structure LamOk (P:Program) (w:World) (K:PySem.W.Frag) (mg:Str→Option Value) (base:Heap) (kl:Nat) (qual:Str) (params:Arguments) (body:Expr) (scope:Scope) (x y:Str) (gl:qAj→Rs W):Prop where
 sc:LamScope x y scope
 bd:∀ cl pm cdv ctv ux,bindArgs (PySem.W.kla_fn "<lambda>" qual params body scope cl pm cdv ctv) ⟨[ux],[]⟩=pure [(x,ux)]
 ok:∀ f cdv cl A outer s H,Room kl (A.deeper (PySem.W.envX qual scope s.heap.objs.size f cdv cl))→PX (qat P w K mg base [x,y] qual scope f cdv cl A outer s H) EN body gl
def Clo (P:Program)(w:World)(K:PySem.W.Frag)(mg:Str→Option Value)(base:Heap)(s:Shared)(H:Hp)(fs:List Addr)(f:Addr)(vw:V)(kl:Nat)(gl:qAj→Rs W):Prop:=
 ∃ qual params body scope x y cw u pm cdv ctv,CloAt s H f (PySem.W.kla_fn "<lambda>" qual params body scope [(y,cw)] pm cdv ctv) cw u∧f∉fs∧cw∉fs∧RelV vw u∧LamOk P w K mg base kl qual params body scope x y gl
open Classical in
def qeb (i:Nat)(f:Addr)(vw:V)(gl:qAj→Rs W)(g:qAj→Rs W):qAj→Rs W:=fun δ=>match δ[i]? with
 | some (.im (.clo f' v' dw))=>if f'=f∧v'=vw then g δ>>=fun w=>gl [w.slot,.im dw] else .no
 | _=>.no
section
variable {X:Cx}{e:Expr}{p pos:Pos}{v:Str}{f:Addr}{vw:V}{kl:Nat}{g gl:qAj→Rs W}
theorem qVe {K:PySem.W.Frag}{B H:Hp}{w:W}{v vw:V}{dw:D}(hs:qA5 B H)(hw:Rdw K B H w v)(hd:IsD K B dw vw):R K B H qDh B H [some v,some vw] [w.slot,.im dw]:=by
 refine ⟨qA5.refl _,fun _ _ e=>.inl e,qA5.refl _,qCg,hs,rfl,fun i s e=>?_,fun i j s t a hij e1 e2 o1 o2 z1 z2=>?_⟩
 ·match i,e with
  | 0,e=>
   cases (show some w.slot=some s from e)
   cases w with
   | im d=>exact ⟨v,rfl,hw⟩
   | li b ds=>
    obtain ⟨a,us,rfl,e2,e3⟩:=hw
    exact ⟨a,us,rfl,e2,e3⟩
  | 1,e=>
   cases (show some (Sl.im dw)=some s from e)
   exact ⟨vw,rfl,hd⟩
  | i + 2,e=>simp at e
 ·match i,e1 with
  | 0,e1=>
   cases (show some w.slot=some s from e1)
   cases w <;> cases o1
  | 1,e1=>
   cases (show some (Sl.im dw)=some s from e1)
   cases o1
  | i + 2,e1=>simp at e1
theorem px_clo (i:Nat)(C:Clo X.prog X.w X.K X.mg X.base X.s₀ X.H₀ X.fs f vw kl gl)(hex:X.ex=[])(hr:Room (kl + 1) X.A)(ha:PX X EN e g)(hN:X.N[i]?=some v:=by rfl)(hv:Vis X.env.scope v:=by first | exact Or.inl rfl | exact Or.inr (Or.inl rfl) | exact Or.inr (Or.inr rfl))(hd:(v == ("__debug__":Str))=false:=by decide)(hcd:(v == ("__classdict__":Str))=false:=by decide)
  (he:starEach [e] X.env=#[22]::starEach [] X.env:=by rfl) (hpl:(backTo pos #[26]).any (·.1)=false:=by rfl):PX X EN (.Call (.Name v p) [e] [] pos) (qeb i f vw gl g):=by
 obtain ⟨qual,params,body,scope,x,y,cw,u,pm,cdv,ctv,C1,hf,hcw,ru,L⟩:=C
 obtain ⟨ta,h1,h2⟩:=ha
 refine ⟨fun σ H Q=>σ[i]?=some (some (.ref f))∧tCons ta tNil σ H (fun vs H1=>∃ v1,vs=[v1]∧∃ B1 w1 dw,qA5 B1 H1∧Rdw X.K B1 H1 w1 v1∧IsD X.K B1 dw vw∧qF6 X.K EN B1 H1 (gl [w1.slot,.im dw]) Q),?_,?_⟩
 ·intro pins s σ H Q I ⟨e1,h⟩
  have now:∀ {H1:Hp} {s1:Shared},Inv X pins σ H1 s1→CloAt s1 H1 f (PySem.W.kla_fn "<lambda>" qual params body scope [(y,cw)] pm cdv ctv) cw u:=fun J=>C1.later J.base hf hcw (by rw [hex];simp) (by rw [hex];simp)
  refine wpAny_Call_Name_kw (thn (qCb (X:=X) (pos:=p) hN hv hd hcd pins s σ H (fun z H1=>z=.ref f∧H1=H) I ⟨_,e1,rfl,rfl⟩) fun uf s0 ⟨z,H0,I0,r0,ez,eH⟩=>?_)
  subst ez eH
  obtain rfl:uf=.ref f:=r0
  have FA:∀ {H1:Hp} {s1:Shared},Inv X pins σ H1 s1→PySem.W.FnAt f s1.heap:=fun J=>⟨_,_,_,_,(now J).fo⟩
  refine PySem.W.callWith_F (FA I0) ?_ he hpl
  have pa:PA X [e] _:=qBx h1 qCx he
  refine thn (pa pos pins s0 σ H0 _ I0 h) fun us s1 ⟨vs,H1,I1,r,v1,ev,B1,w1,dw,hs,hw,hdw,hp⟩=>⟨FA I1,?_⟩
  subst ev
  obtain ⟨ux,rfl,rx⟩:=qP7 r
  refine wpAny_call (codeAny_mono (qdf (Q:=Q) (E:=E0) I1.env0 hr (now I1) L.sc (L.bd _ _ _ _ _) rx ru fun hr'=>?_) fun rr s' hq=>?_)
  ·obtain ⟨te,k1,k2⟩:=L.ok f cdv [(y,cw)] X.A X.stack s1 H1 hr'
   exact ⟨te,k1,k2 B1 H1 qDh B1 H1 _ _ _ (qVe hs hw hdw) hp⟩
  ·cases rr with
   | error e=>exact hq.elim
   | ok fl=>
    cases fl with
    | ret u=>exact I1.after hq
    | next=>exact False.elim hq
    | brk=>exact False.elim hq
    | cont=>exact False.elim hq
 ·intro B0 F0 P B H σ δ Q r p
  unfold qeb at p
  split at p
  ·rename_i f' v' dw ee
   split at p
   ·rename_i hh
    obtain ⟨rfl,rfl⟩:=hh
    obtain ⟨z,e1,e2,e3⟩:=r.sl i _ ee
    subst e2
    refine ⟨e1,h2 B0 F0 P B H σ δ _ r ((Pst.bind p).mono fun w B1 H1 g1 p1 v1 hw=>⟨v1,rfl,B1,w,dw,g1.bh,hw.rd,IsD.mono g1.sb _ _ e3,Pst.mono p1 fun w B' H' _ q v hv=>q v (hv.older g1.sh)⟩)⟩
   ·exact p.elim
  ·exact p.elim
end
section
variable {P:Program}{w:World}{K:PySem.W.Frag}{mg:Str→Option Value}{base:Heap}
def RunC (P:Program)(w:World)(K:PySem.W.Frag)(mg:Str→Option Value)(base:Heap)(k kl:Nat)(fa:Addr)(fd:FuncData)(ps:List Str)(m:Addr→V→(qAj→Rs W)→List W→Rs W):Prop:=
 ∀ (gl:qAj→Rs W) (f:Addr) (vw:V) (dw:D) (A:Around) (outer:List Env) (s:Shared) (H:Hp) (u1:Value) (w1:W) (v1:V) (B:Hp) (Q:VK),Room k A→Env0 P w K mg base A outer s H→BindsTo s fd ⟨[u1,.ref f],[]⟩ (ps.zip [u1,.ref f])→RelV v1 u1→
  Clo P w K mg base s H (frs outer) f vw kl gl→qA5 B H→Rdw K B H w1 v1→IsD K B dw vw→qF6 K EN B H (m f vw gl [w1,.im (.clo f vw dw)]) Q→
  codeAny (model P w) A (.call (.ref fa) ⟨[u1,.ref f],[]⟩) (CR CX0 outer P w H s Q E0) s
theorem Fun.okC {x qual:Str}{st:Stmt}{fa:Addr}{fd:FuncData}{N ps:List Str}{k kl:Nat}{h:Addr→V→(qAj→Rs W)→qAj→Rs Fl}(F:Fun K x qual st fa fd)(S:FnScope N ps (qAd st))(hps:ps.length=2)
  (hbody:∀ (f:Addr) (vw:V) (gl:qAj→Rs W) (cdv:Value) (A:Around) (outer:List Env) (s:Shared) (H:Hp),Room k (A.deeper (envOfC qual (qAd st) s.heap.objs.size fa cdv))→Clo P w K mg base s H (frs outer) f vw kl gl→
   ∃ Wr,qP0 (qLt CX0 P w K mg base N qual (qAd st) fa cdv A outer s H E0).nox EN Wr (qBp st) (h f vw gl)):RunC P w K mg base (k + 1) kl fa fd ps (fun f vw gl=>mir N (h f vw gl)):=by
 intro gl f vw dw A outer s H u1 w1 v1 B Q hr e0 hb r1 C hs hw hdw p
 obtain ⟨oc,od,kV,doc,pm,an,cdv,ct,osl,rfl,lk,hcd⟩:=F.ex
 have hpl:ps.length≤N.length:=by have:=congrArg List.length S.pre;rw [List.length_take] at this;omega
 have KX:K.In s.heap:=e0.mod.kin.keeps fun b o e=>(e0.bs b o e).1
 have lim:s.heap.NoLimit:=e0.mod.nolimit.keeps fun b o e=>(e0.bs b o e).1
 have hkind:∀ y∈ps.zip [u1,.ref f],(qAd st).names.lookup y.1=some .local∨((qAd st).names.lookup y.1=some .cell∧((cellsFrom (s.heap.objs.size + 1) (qAd st).names []).lookup y.1).isSome=true):=fun ⟨n,v⟩ hy=>by
  rcases S.par n (List.of_mem_zip hy).1 with q | q
  ·exact .inl q
  ·exact .inr ⟨q,PySem.W.cellsFrom_some _ _ _ (.inl q)⟩
 refine codeAny_call_function hr.depth (KX _ _ lk) rfl S.co S.gen rfl (PySem.W.codeRec_of KX hcd) (hb _ _ _ _ ?_)
 refine wpAny_newFunctionEnv_cells S.kind hkind fun env he s1 x=>?_
 subst he
 refine ⟨lim.keeps x.toInCall.keep,codeAny_func ?_⟩
 obtain ⟨Wr,ts,h1,h2⟩:=hbody f vw gl cdv A outer s H (hr.deeper _) C
 have hrw:qPy K B H [w1,.im (.clo f vw dw)] [v1,.ref f]:=⟨v1,[.ref f],rfl,hw,.ref f,[],rfl,⟨rfl,hdw⟩,rfl⟩
 have q0:ts { nx:=fun _ H'=>Q .non H',rt:=Q } (start N [v1,.ref f]) H:=by
  refine h2 B H qDh B H _ (frame N [w1,.im (.clo f vw dw)]) _ (qGa hs hrw (by simp;omega)) ?_
  have p':qF6 K EN B H (h f vw gl (frame N [w1,.im (.clo f vw dw)])>>=fin) Q:=p
  cases q:h f vw gl (frame N [w1,.im (.clo f vw dw)]) with
  | no=>rw [q] at p';exact p'
  | ex x=>rw [q] at p';exact p'
  | ok fl=>
   rw [q] at p'
   cases fl with
   | nx δ=>exact fun B' H' σ' r' _=>p' B' H' r'.whole .non rfl
   | rt w=>exact fun v B' H' g hw'=>p' B' H' g v hw'
   | rl d δ=>exact fun v B' H' σ' r' _ hd=>p' B' H' r'.whole v hd
   | bk δ=>exact p'.elim
   | ct δ=>exact p'.elim
 have I:Inv (qLt CX0 P w K mg base N qual (qAd st) fa cdv A outer s H E0) [] (start N [v1,.ref f]) H s1:=qJx S hr.hd e0 (by rw [hps];rfl) (.cons r1 (.cons rfl .nil)) x
 refine wpAny_mono (h1.nox [] s1 (start N [v1,.ref f]) H _ I q0) (fun fl s' hs=>?_) fun e s' hs=>hs
 have fin:∀ {σ':L2.St} {H':Hp} {v:V} {u:Value},Inv (qLt CX0 P w K mg base N qual (qAd st) fa cdv A outer s H E0) [] σ' H' s'→RelV v u→Q v H'→CE outer P w H s Q u s':=
  fun {σ' H' v u} J rv q=>⟨v,H',J.os,J.bare,J.base,J.hok,rv,q⟩
 cases fl with
 | ret u=>
  obtain ⟨v,σ',H',J,rv,q⟩:=hs
  exact fin J rv q
 | next=>
  obtain ⟨σ',H',J,q⟩:=hs
  exact fin (v:=V.non) (u:=Value.none) J rfl q
 | brk=>
  obtain ⟨_,_,_,q⟩:=hs
  exact False.elim q
 | cont=>
  obtain ⟨_,_,_,q⟩:=hs
  exact False.elim q
structure FnC (P:Program) (w:World) (K:PySem.W.Frag) (mg:Str→Option Value) (base:Heap) (k kl:Nat) (x:Str) (m:Addr→V→(qAj→Rs W)→List W→Rs W):Prop where
 ex:∃ fa fd ps,RunC P w K mg base k kl fa fd ps m∧mg x=some (.ref fa)∧PySem.W.keepIn K (.ref fa)=true∧qIi K fd ps []∧ps.length=2
end
open Classical in
def qKp (g:Addr→V→Rs W):Rs W:=if ∀ f v,g f v=g 0 .non then g 0 .non else .no
theorem qax {g:Addr→V→Rs W}{r:Rs W}(h:∀ f v,g f v=r):qKp g=r:=by
 unfold qKp
 rw [if_pos fun f v=>by rw [h,h],h]
section
variable {X:Cx}{e:Expr}{p pos lpos:Pos}{x z y xl:Str}{c Pt cw:Addr}{kl k:Nat}{g gl:qAj→Rs W}{params:Arguments}{body:Expr}{scope:Scope}{m:Addr→V→(qAj→Rs W)→List W→Rs W}
end
end PD
namespace L2
open PySem PySem.Spec PyProof.Rows PySem.W
section
variable {X:Cx}{k e:Expr}{tk tv:TE}{pos:Pos}
def tDisp1 (tk tv:TE):TE:=fun σ H Q=>∀ p,H p=none→tk σ (upd H p (.dT [])) fun y H1=>tv σ H1 fun v H2=>∃ ks b,y=.ref b∧H2 b=some (.tup (ks.map kV))∧H2 p=some (.dT [])∧Q (.ref p) (upd H2 p (.dT (qJj [] ks v)))
theorem qZp (hu:X.A.units + 1 < cLine)(hk:PE X k tk)(hv:PE X e tv):PE X (.Dict [some k] [e] pos) (tDisp1 tk tv):=by
 intro pins s σ H Q I h
 refine wpAny_Dict_any rfl rfl #[6] #[6] ?_
 have hp:H s.heap.objs.size=none:=I.hok.fresh #[10]
 have I0:=I.laid (a:=s.heap.objs.size) (o:=.dT []) (t':=s.toks) (fun _ _ q=>Heap.get?_push_of_some { cls:=.type "dict",data:=.dict #[] } q) #[10] (qSt s.heap I.big)
 refine evalPairs_cons (thn (hk pins _ σ _ _ I0 (h _ hp)) fun kv s1 ⟨y,H1,I1,ry,q1⟩=>?_)
 refine wpAny_bind (thn (hv pins s1 σ H1 _ I1 q1) fun vv s2 ⟨v,H2,I2,rv,ks,b,ey,eb,ep,q2⟩=>wpAny_bind (wpAny_standAt (wpAny_pure (evalPairs_nil ?_))))
 subst ey
 cases (show kv=Value.ref b from ry)
 obtain ⟨z,hd,xs,rel,dd⟩:=dt_of I2.hok ep
 have hz:xs.length≤sizeLine:=by rw [←Paired.length rel];exact z
 show wpAny _ _ (storeAll s.heap.objs.size [(.ref b,vv)]) _ _ s2
 unfold storeAll
 simp only [List.forIn_cons,List.forIn_nil]
 refine wpAny_bind (wpAny_bind (wpAny_dictSet_heap (hsz:=hz) (knd:=tupleKind (qCc X.prog X.w)) (show X.A.units < cLine by omega) (qOq I2.hok eb) dd fun h' dd' hs=>wpAny_pure ?_))
 refine wpAny_pure ?_
 obtain ⟨q,es,ep',hq,h2,h3,h4,_,h5⟩:=dd'
 have hl:(qJj ([]:List (List Key×V)) ks v).length≤sizeLine:=by have:=qFz ([]:List (List Key×V)) ks v;have:=qJu;rw [sizeLine_eq];simp at *;omega
 have new:qB7 X.prog X.w (upd H2 s.heap.objs.size (.dT (qJj [] ks v))) h' s.heap.objs.size (.dT (qJj [] ks v)):=by
  refine ⟨hl,hd,_,(rel.put ks eb rv).keeps fun c ys ec=>?_,q,es,ep',hq,h2,h3,h4,h5⟩
  rw [qAo (ne_of ec ep #[36])]
  exact ec
 exact ⟨.ref s.heap.objs.size,_,qQ3 I2 (by rw [ep];exact True.intro) hs ⟨q,hq⟩ new,rfl,q2⟩
end
section
variable {prog:Program}{w:World}{A:Around}{E:Value→Shared→Prop}{s:Shared}{d:Addr}{es:Array DictEntry}{ep:Nat}{κ:SortKind}{lt:Nat→Nat→Bool}{PP:Array Nat→Prop}
theorem qYo {vs:List Value}{Q:Value→Shared→Prop}(hh:A.handled=none)(lo:(d == sysModules)=false)(x:DEn s.heap d es ep)(ev:es.toList.map (·.key)=vs)(h64:vs.length < 64)
  (hkind:2≤vs.length→∀ h1:Heap,(∀ b o,s.heap.get? b=some o→h1.get? b=some o)→∀ (tk:Nat) (Q:SortKind→Shared→Prop),Q κ { s with heap:=h1,toks:=tk }→wpAny #[18] A.in1.in1 (keyKind' vs.toArray) Q (fun _ _=>False) { s with heap:=h1,toks:=tk })
  (hcmp:∀ (h1:Heap) (tk i j:Nat) (C:Bool→Shared→Prop),(∀ b o,s.heap.get? b=some o→h1.get? b=some o)→i < vs.length→j < vs.length→(∀ tk',C (lt i j) { s with heap:=h1,toks:=tk' })→kas_ask prog w A.in1.in1 κ vs i j C { s with heap:=h1,toks:=tk })
  (ok:2≤vs.length→OkT lt vs.length PP (kas_sort vs.length)) (ok1:vs.length < 2→PP (List.range vs.length).toArray)
  (hQ:∀ (h':Heap) (tk c n:Nat) (p:Array Nat),PP p→s.heap.objs.size≤n→(∀ b o,s.heap.get? b=some o→h'.get? b=some o)→h'.get? n=some (seqObj "list" (List.toArray (p.toList.map fun i=>vs.getD i Value.none)) c)→Q (.ref n) { s with heap:=h',toks:=tk }) :
  wpAny #[18] A (call (.builtin "sorted") [.ref d]) Q E s:=by
 have hes:es.size=vs.length:=by rw [←ev];simp
 refine Calls.call_function_entry kind_sorted plain_sorted entry_sorted (args_sorted1 _) ?_
 unfold Builtin.«sorted»
 refine wpAny_bind (m:=checkCount "sorted" 1 1 _) (wpAny_pure ?_)
 refine wpAny_bind (qQ2 (A:=A.in1) hh lo x (by rw [hes,sizeLine_eq];omega) fun g tk0 kp gsz=>?_)
 rw [ev]
 refine wpAny_bind (wpAny_newList ?_ (by rw [sizeLine_eq];omega))
 have keep2:∀ h1:Heap,(∀ b o,b≠g.objs.size→(g.push (seqObj "list" vs.toArray 0)).get? b=some o→h1.get? b=some o)→∀ b o,s.heap.get? b=some o→h1.get? b=some o:=fun h1 k b o q=>
  k b o (Nat.ne_of_lt (Heap.lt_size (kp b o q))) (Heap.get?_push_of_some _ (kp b o q))
 refine wpAny_bind (wpAny_holding (wpAny_call_entry slot_list_sort ⟨_,Heap.get?_push_size _ rfl,rfl⟩ entry_list_sort ?body (args_list_sort _)))
 case body=>
  refine qRe (s:={ s with heap:=g.push (seqObj "list" vs.toArray 0),toks:=tk0 }) (κ:=κ) (lt:=lt) (PP:=PP) (Heap.get?_push_size _ rfl) h64
   (fun h2 h1 k Q q=>hkind h2 h1 (keep2 h1 k) tk0 Q q) (fun h1 tk i j C k hi hj hC=>hcmp h1 tk i j C (keep2 h1 k) hi hj hC) ok ok1 fun h' tk c p hp k e=>?_
  exact ⟨_,rfl,wpAny_pure ⟨_,rfl,hQ h' tk c _ p hp (Nat.le_of_lt gsz) (keep2 h' k) e⟩⟩
end
end L2
namespace PD
open PySem PySem.Spec PyProof.Rows L2
def qIw (B H:Hp):Hp:=fun a=>match B a with
 | some o=>some o
 | none=>match H a with
  | some (.tup vs)=>some (.tup vs)
  | _=>none
theorem Grow.tups {B H:Hp}(hs:qA5 B H):Grow B H (qIw B H) H:=by
 refine ⟨fun a o e=>by unfold qIw;rw [e],qA5.refl _,fun a o e=>?_,fun a o e=>?_⟩
 ·unfold qIw at e
  cases q:B a with
  | some u=>rw [q] at e;cases e;exact hs _ _ q
  | none=>
   rw [q] at e
   dsimp only at e
   split at e
   ·rename_i vs z;cases e;exact z
   ·cases e
 ·unfold qIw at e
  cases q:B a with
  | some u=>rw [q] at e;cases e;exact .inl rfl
  | none=>
   rw [q] at e
   dsimp only at e
   split at e
   ·rename_i vs z;cases e;exact .inr (.inr ⟨z,vs,rfl⟩)
   ·cases e
theorem qNd {B H:Hp}(hs:qA5 B H){a:Addr}{vs:List V}(h:H a=some (.tup vs)):qIw B H a=some (.tup vs):=by
 unfold qIw
 cases q:B a with
 | some u=>
  have:=hs _ _ q
  rw [h] at this;cases this;rfl
 | none=>rw [h]
section
variable {X:Cx}{Ew:XW}{Wr:List Nat}{e kx:Expr}{p p' pos dpos:Pos}
def qbt (i:Nat)(gk gv:qAj→Rs D)(δ:qAj):Rs Fl:=gk δ>>=fun kd=>gv δ>>=fun d=>match qdh kd with
 | some k=>.ok (.nx (δ.set i (.dtt [(k,d)])))
 | none=>.no
theorem qVp (i:Nat){x:Str}{gk gv:qAj→Rs D}(hN:X.N.Nodup)(hu:X.A.units + 1 < cLine)(hk:PXd X Ew kx gk)(hv:PXd X Ew e gv)(hi:X.N[i]?=some x:=by rfl)(hx:Loc X.env.scope x:=by first | exact Or.inl rfl | exact Or.inr rfl)(hs:swapsWith (.Dict [some kx] [e] dpos) (some (.Name x p')) pos.line X.env=pure false:=by rfl)
  (hf:X.fn x=true∨X.env.scope.names.lookup x=some .local:=by first | exact .inl rfl | exact .inr rfl | assumption) :
  PSX X Ew [i] (.Assign [.Name x p'] (.Dict [some kx] [e] dpos) pos) (qbt i gk gv):=by
 obtain ⟨tk,k1,k2⟩:=hk
 obtain ⟨tv,v1,v2⟩:=hv
 refine ⟨_,qK2 hN hi hx (qZp hu k1 v1) hs hf,fun B0 F0 P B H σ δ D r q a ha=>?_⟩
 have ga:Grow B H B (upd H a (.dT [])):=Grow.new r.bh ha (r.bh.free ha)
 have ra:=r.grow ga
 refine k2 B0 F0 P B _ σ δ _ ra ((qB3.bind ra q).mono fun kd B1 H1 g1 q1 y hy=>?_)
 have r1:=ra.grow g1
 refine v2 B0 F0 P B1 H1 σ δ _ r1 ((qB3.bind r1 q1).mono fun d B2 H2 g2 q2 v hd=>?_)
 split at q2
 ·rename_i k ek
  obtain ⟨b,rfl,hb⟩:=qMr g2.bh ek (IsD.mono g2.sb _ _ hy)
  have e2:H2 a=some (.dT []):=g2.sh _ _ (g1.sh _ _ qAu)
  refine ⟨k,b,rfl,hb,e2,?_⟩
  have hba:B2 a=none:=g2.free (g1.free (r.bh.free ha) qAu) (g1.sh _ _ qAu)
  have gg:Grow B H B2 (upd H2 a (.dT (qJj [] k v))):=by
   have g3:=(ga.trans g1).trans g2
   refine ⟨g3.sb,fun c o z=>?_,fun c o z=>?_,g3.nw⟩
   ·rw [qAo (qAm z ha)];exact g3.sh c o z
   ·rw [qAo (qAm z hba)];exact g3.bh c o z
  exact q2 B2 _ _ (r.dtt gg ha hba qAu ⟨rfl,⟨v,[],rfl,hd,rfl⟩⟩) qH4
 ·exact q2.elim
def popF (i j:Nat)(δ:qAj):Rs Fl:=match δ[j]? with
 | some (.own ds)=>match ds.getLast? with
  | some d=>.ok (.nx ((δ.set j (.own ds.dropLast)).set i (.im d)))
  | none=>.no
 | _=>.no
theorem IsDs.dropLast {K:PySem.W.Frag}{B:Hp}{ds:List D}{vs:List V}(h:IsDs K B ds vs):IsDs K B ds.dropLast vs.dropLast:=by
 rw [List.dropLast_eq_take,List.dropLast_eq_take,h.len]
 exact h.take _
theorem qcw (i j:Nat){x y:Str}{cpos apos:Pos}(hN:X.N.Nodup)(hi:X.N[i]?=some y:=by rfl)(hj:X.N[j]?=some x:=by rfl)(hx:Loc X.env.scope y:=by first | exact Or.inl rfl | exact Or.inr rfl)(hv:Vis X.env.scope x:=by first | exact Or.inl rfl | exact Or.inr (Or.inl rfl) | exact Or.inr (Or.inr rfl))
  (hd:#[17]=false:=by decide) (hcd:#[33]=false:=by decide)
  (hbase:attributeBase (.Name x p) "pop" X.env (eval (.Name x p) X.env)=eval (.Name x p) X.env:=by rfl) (hline:(apos.endLine == cpos.line)=true:=by rfl)
  (hs:swapsWith (.Call (.Attribute (.Name x p) "pop" apos) [] [] cpos) (some (.Name y p')) pos.line X.env=pure false:=by rfl)
  (hf:X.fn y=true∨X.env.scope.names.lookup y=some .local:=by first | exact .inl rfl | exact .inr rfl | assumption) :
  PSX X Ew [i] (.Assign [.Name y p'] (.Call (.Attribute (.Name x p) "pop" apos) [] [] cpos) pos) (popF i j):=by
 refine ⟨_,qK2 hN hi hx (pe_bm0 PySem.F.plainAttrs_list PySem.F.slot_list_pop PySem.F.type_list_pop mt_pop (qCb hj hv hd hcd) hbase hline) hs hf,fun B0 F0 P B H σ δ D r q=>?_⟩
 unfold popF at q
 split at q
 ·rename_i ds ej
  split at q
  ·rename_i d ed
   obtain ⟨a,vs,e1,e2,e3,e4,e5,e6⟩:=r.sl j _ ej
   have ed':ds[ds.length - 1]?=some d:=by rw [←List.getLast?_eq_getElem?];exact ed
   obtain ⟨v,ev,hv⟩:=e6.get ed'
   rw [e6.len] at ev
   refine ⟨.ref a,e1,.inl ⟨rfl,vs,SqL.of e5⟩,a,vs,v,rfl,rfl,e5,ev,?_⟩
   have r1:=r.put (ds:=ds) (es:=ds.dropLast) (vs:=vs) (us:=vs.dropLast) ej e1 e6.dropLast
   exact q B _ _ (r1.im hv) qH4
  ·exact q.elim
 ·exact q.elim
theorem qTk (j:Nat){x:Str}{g:qAj→Rs D}(hu:X.A.units + 1 < cLine)(he:PXd X Ew e g)(hN:X.N[j]?=some x:=by rfl)(hv:Vis X.env.scope x:=by first | exact Or.inl rfl | exact Or.inr (Or.inl rfl) | exact Or.inr (Or.inr rfl))(hd:#[17]=false:=by decide)
  (hcd:#[33]=false:=by decide) (hm:behindInMarks .NotIn (.Name x p)=false:=by with_unfolding_all rfl):PXt X Ew (.Compare e [.NotIn] [.Name x p] pos) (qHk (inJ j g)):=by
 obtain ⟨te,h1,h2⟩:=he
 refine ⟨_,qbd (qV0 hu h1 (qCb hN hv hd hcd)) hm,fun B0 F0 P B H σ δ Q r q=>?_⟩
 unfold qHk inJ at q
 cases ej:δ[j]? with
 | none=>rw [ej] at q;exact q.elim
 | some sl=>
  rw [ej] at q
  cases sl with
  | dtt ks=>
   have q':Pst Ew B H (fun b _ H'=>Q b H') ((g δ)>>=fun d=>((match qdh d with
    | some k=>Rs.ok (qF8 ks k).isSome
    | none=>Rs.no)>>=fun b=>Rs.ok (!b))):=by
    cases eg:g δ with
    | no=>rw [eg] at q;exact q
    | ok d=>rw [eg] at q;exact q
    | ex xx=>rw [eg] at q;exact q
   refine h2 B0 F0 P B H σ δ _ r ((Pst.bind q').mono fun d B1 H1 g1 q1 v hd=>?_)
   cases ek:qdh d with
   | none=>rw [ek] at q1;exact q1.elim
   | some k=>
    rw [ek] at q1
    obtain ⟨a,kvs,e1,e2,e3,e4,e5,e6⟩:=(r.grow g1).sl j _ ej
    obtain ⟨b,rfl,hb⟩:=qMr g1.bh ek hd
    refine ⟨_,e1,a,_,rfl,qYj.t (k:=k) e5 hb,_,rfl,?_⟩
    rw [e6.isSome]
    exact q1 B1 H1 #[32]
  | _=>exact q.elim
end
open PySem PySem.Spec PyProof.Rows L2 PySem.W
def qV2:List Key→Option (Int×Str)
 | [.inl a,.inr x]=>some (a,x)
 | _=>none
def qDr:List (List Key)→Option (List (Int×Str))
 | []=>some []
 | k::r=>match qV2 k with
  | some p=>(qDr r).map (p::·)
  | none=>none
def keyP (p:Int×Str):List Key:=[.inl p.1,.inr p.2]
theorem qZr {k:List Key}{p:Int×Str}(h:qV2 k=some p):k=keyP p:=by
 unfold qV2 at h
 split at h
 ·cases h;rfl
 ·cases h
theorem qHj:∀ ps:List (Int×Str),qDr (ps.map keyP)=some ps
 | []=>rfl
 | p::r=>by simp only [List.map_cons,keyP,qDr,qV2];rw [show qDr (List.map keyP r)=some r from qHj r];rfl
abbrev qI1 (H:Hp):Hp:=qIw (fun _=>none) H
theorem qI0 (H:Hp):qA5 (qI1 H) H:=(Grow.tups (B:=fun _=>none) (H:=H) (fun _ _ e=>by cases e)).bh
theorem qHx {B H:Hp}(hs:qA5 B H):qA5 (qI1 H) (qIw B H):=fun a o e=>by
 have h:=qI0 H a o e
 unfold qI1 qIw at e
 dsimp only at e
 split at e
 ·rename_i vs z
  cases e
  exact qNd hs z
 ·cases e
theorem qHr {K:PySem.W.Frag}{H:Hp}:∀ {kvs:List (List Key×V)} {xs:List (List Key×Addr×Value)} {ps:List (Int×Str)},
  Paired (fun (p:List Key×V) (q:List Key×Addr×Value)=>p.1=q.1∧H q.2.1=some (.tup (p.1.map kV))∧L2.RelV p.2 q.2.2) kvs xs→qDr (kvs.map (·.1))=some ps→IsDs K (qI1 H) (ps.map unP) (xs.map fun x=>V.ref x.2.1)
 | _,_,ps,.nil,h=>by cases h;rfl
 | _,_,ps,.cons (a:=p) (b:=q) r t,h=>by
  simp only [List.map_cons,qDr] at h
  cases e:qV2 p.1 with
  | none=>rw [e] at h;cases h
  | some z=>
   rw [e] at h
   obtain ⟨ps',h1,h2⟩:=Option.map_eq_some_iff.mp h
   subst h2
   refine ⟨_,_,rfl,⟨q.2.1,[.int z.1,.str z.2],rfl,qNd (fun _ _ e=>by cases e) ?_,⟨_,_,rfl,rfl,_,_,rfl,rfl,rfl⟩⟩,qHr t h1⟩
   rw [r.2.1,qZr e]
   rfl
theorem qHb:∀ xs:List (List Key×Addr×Value),qBu (xs.map fun x=>V.ref x.2.1) (xs.map fun x=>Value.ref x.2.1)
 | []=>.nil
 | x::r=>.cons rfl (qHb r)
def qUt (j:Nat)(δ:qAj):Rs W:=match δ[j]? with
 | some (.dtt ks)=>match qDr (ks.map (·.1)) with
  | some ps=>if ps.length < 64 then .ok (.li true ((qD8 ps).map unP)) else .no
  | none=>.no
 | _=>.no
def qWk (j:Nat)(δ:qAj):Rs W:=match δ[j]? with
 | some (.dtt ks)=>match qDr (ks.map (·.1)) with
  | some ps=>.ok (.li true (ps.map unP))
  | none=>.no
 | _=>.no
section
variable {X:Cx}{Ew:XW}{pos:Pos}
theorem qY3 (j:Nat){x:Str}{p1 p2:Pos}(hc:X.calm=true)(hgl:Gl X "sorted")(hml:X.mg "sorted"=none)(hN:X.N[j]?=some x:=by rfl)(hvi:Vis X.env.scope x:=by first | exact Or.inl rfl | exact Or.inr (Or.inl rfl) | exact Or.inr (Or.inr rfl))
  (hd:#[17]=false:=by decide) (hcd:#[33]=false:=by decide)
  (hs:starEach [.Name x p2] X.env=(false,eval (.Name x p2) X.env)::starEach [] X.env:=by rfl) (hp1:(backTo pos #[26]).any (·.1)=false:=by rfl) (hn1:backTo pos #[26]=[]:=by rfl) :
  PX X Ew (.Call (.Name "sorted" p1) [.Name x p2] [] pos) (qUt j):=by
 refine ⟨fun σ H Q=>∃ a kvs ps,σ[j]?=some #[25]∧H a=some (.dT kvs)∧qDr (kvs.map (·.1))=some ps∧ps.length < 64∧∀ l vs,H l=none→IsDs X.K (qI1 H) ((qD8 ps).map unP) vs→Q (.ref l) (upd H l (.lst vs)),fun pins s σ H Q I ⟨a,kvs,ps,ea,eh,eps,h64,q⟩=>?_,fun B0 F0 P B H σ δ Q r p=>?_⟩
 ·refine wpAny_Call_Name_kw (qFg I hgl hml boot_sorted ?_ #[4] #[4])
  refine PyProof.Rows.callWith_builtin1 ?_ hs hp1
  rw [hs]
  show wpAny _ _ (spliced ((false,eval (.Name x p2) X.env)::backTo pos #[26])) _ _ s
  rw [hn1]
  refine Calls.spliced_cons #[67]
  subst ey eH
  cases (show iv=Value.ref a from ry)
  obtain ⟨z,hsys,xs,rel,o,es,ep,h1,h2,h3,h4,h5⟩:=(show qB7 X.prog X.w H2 s2.heap a (.dT kvs) from I2.hok a _ eh)
  have q3:IsDs X.K (qI1 H2) (ps.map unP) (xs.map fun x=>V.ref x.2.1):=qHr rel eps
  have rv:=qHb xs
  obtain ⟨hl,hp⟩:=qVt I2 (qI0 H2) q3 rv
  have hvl:(xs.map fun x=>V.ref x.2.1).length=ps.length:=by rw [←q3.len];simp
  have hxl:xs.length=ps.length:=by simpa using hvl
  have ev:es.toList.map (·.key)=xs.map fun x=>Value.ref x.2.1:=by rw [h4,List.map_map];rfl
  have hz:xs.length≤sizeLine:=by rw [sizeLine_eq];omega
  refine qYo (κ:=tuples' true) (lt:=fun i j=>ltP (ps.getD i (0,Str.empty)) (ps.getD j (0,Str.empty))) (PP:=fun p=>Pm (xs.map fun x=>Value.ref x.2.1).length p∧Up (fun i j=>ltP (ps.getD i (0,Str.empty)) (ps.getD j (0,Str.empty))) p 0 (xs.map fun x=>Value.ref x.2.1).length∨p=(List.range (xs.map fun x=>Value.ref x.2.1).length).toArray∧(xs.map fun x=>Value.ref x.2.1).length < 2)
   (I2.ok.hd hc) hsys ⟨o,h1,h2,h3⟩ ev (by rw [List.length_map];omega) (fun h2 h1 k tk Q q=>?_) (fun h1 tk i j C k hi hj hC=>?_) (fun h2=>qFu (fun p z=>.inl z) _ (qV6 (fun i j=>qWg _ _) (fun i j k=>qWf _ _ _) #[0])) (fun h2=>.inr ⟨rfl,h2⟩) fun h' tk cc n p' hPP hn kp e=>?_
  ·obtain ⟨fs,f1,f2,f3⟩:=qWs hl fun i hi=>(hp i hi).kept k
   have e0:(Value.type "int" != Value.type "tuple")=true:=by decide
   refine kat_kind (s:={ s2 with heap:=h1,toks:=tk }) (T:=Value.type "int") f1 #[0] (fun v hv=>?_) #[4] (by rw [e0];exact q)
   obtain ⟨a,t,rfl⟩:=f3 v hv
   exact .now
  ·unfold kas_ask
   exact pr_lt ((hp i #[0]).kept k) ((hp j #[0]).kept k) (hC tk)
  ·generalize hits:(xs.map fun x=>Value.ref x.2.1)=its at *
   generalize hvs:(xs.map fun x=>V.ref x.2.1)=vs at *
   have fin:∀ l:List Nat,l.Perm (List.range its.length)→(l.map fun i=>ps.getD i (0,Str.empty)).Pairwise (fun a b=>ltP b a=false)→p'.toList=l→EP X pins σ Q (.ref n) { s2 with heap:=h',toks:=tk }:=fun l hlp hup el=>by
    have hmem:∀ i∈l,i < vs.length:=fun i hi=>by
     have:=hlp.mem_iff.mp hi
     rw [List.mem_range] at this;omega
    have hsrt:(l.map fun i=>ps.getD i (0,Str.empty))=qD8 ps:=by
     refine qIk ?_ hup
     refine (hlp.map _).trans ?_
     have:(List.range its.length).map (fun i=>ps.getD i (0,Str.empty))=ps:=by
      apply List.ext_getElem
      ·simp [hl]
      ·intro i h1 h2
       simp [List.getD_eq_getElem?_getD,List.getElem?_eq_getElem h2]
     rw [this]
    rw [el] at e
    have hll:l.length=vs.length:=by rw [hlp.length_eq,List.length_range];omega
    refine ⟨.ref n,_,I2.laid (t':=tk) kp hn (show qB7 X.prog X.w _ h' _ (.lst (l.map fun i=>vs.getD i .non)) from ⟨by rw [List.length_map,hll];omega,_,cc,qIy rv l hmem,e⟩),rfl,q _ _ (I2.hok.fresh hn) ?_⟩
    rw [←hsrt]
    exact qJw q3 l hmem
   rcases hPP with ⟨hpm,hup⟩ | ⟨rfl,h2⟩
   ·refine fin p'.toList ?_ ?_ rfl
    ·simpa using hpm.pm.toList
    ·rw [List.pairwise_map,List.pairwise_iff_getElem]
     intro i j hi hj hij
     have hsz:=hpm.sz
     have:=hup i j (Nat.zero_le _) hij (by simpa [hsz] using hj)
     have g1:p'.getD i 0=p'.toList[i]:=by simp [Array.getD,show i < p'.size by simpa using hi]
     have g2:p'.getD j 0=p'.toList[j]:=by simp [Array.getD,show j < p'.size by simpa using hj]
     rw [g1,g2] at this
     exact this
   ·refine fin (List.range its.length) (List.Perm.refl _) ?_ #[6]
    have:its.length=0∨its.length=1:=by omega
    rcases this with z | z
    ·rw [z];simp
    ·rw [z];simp [List.range_succ]
 ·unfold qUt at p
  split at p
  ·rename_i ks ei
   split at p
   ·rename_i ps eps
    split at p
    ·rename_i h64
     obtain ⟨a,kvs,e1,e2,e3,e4,e5,e6⟩:=r.sl j _ ei
     refine ⟨a,kvs,ps,e1,e5,by rw [e6.1];exact eps,h64,fun l vs hl hv=>?_⟩
     have g:=Grow.tups r.bh
     have lB:qIw B H l=none:=g.bh.free hl
     exact p _ _ (g.trans (Grow.new g.bh hl lB)) _ ⟨l,vs,rfl,hl,lB,qAu,IsDs.mono (qHx r.bh) _ _ hv⟩
    ·exact p.elim
   ·exact p.elim
  ·exact p.elim
theorem qVk (j:Nat){x:Str}{p1 p2:Pos}(hc:X.calm=true)(hgl:Gl X "list")(hml:X.mg "list"=none)(hN:X.N[j]?=some x:=by rfl)(hvi:Vis X.env.scope x:=by first | exact Or.inl rfl | exact Or.inr (Or.inl rfl) | exact Or.inr (Or.inr rfl))
  (hd:#[17]=false:=by decide) (hcd:#[33]=false:=by decide)
  (hs:starEach [.Name x p2] X.env=(false,eval (.Name x p2) X.env)::starEach [] X.env:=by rfl) (hp1:(backTo pos #[26]).any (·.1)=false:=by rfl) (hn1:backTo pos #[26]=[]:=by rfl) :
  PX X Ew (.Call (.Name "list" p1) [.Name x p2] [] pos) (qWk j):=by
 refine ⟨fun σ H Q=>∃ a kvs ps,σ[j]?=some #[25]∧H a=some (.dT kvs)∧qDr (kvs.map (·.1))=some ps∧∀ l vs,H l=none→IsDs X.K (qI1 H) (ps.map unP) vs→Q (.ref l) (upd H l (.lst vs)),fun pins s σ H Q I ⟨a,kvs,ps,ea,eh,eps,q⟩=>?_,fun B0 F0 P B H σ δ Q r p=>?_⟩
 ·refine wpAny_Call_Name_kw (qFg I hgl hml boot_list ?_ #[4] #[4])
  refine PyProof.Rows.callWith_type1 ?_ hs hp1
  rw [hs]
  show wpAny _ _ (spliced ((false,eval (.Name x p2) X.env)::backTo pos #[26])) _ _ s
  rw [hn1]
  refine Calls.spliced_cons #[67]
  subst ey eH
  cases (show iv=Value.ref a from ry)
  obtain ⟨z,hsys,xs,rel,o,es,ep,h1,h2,h3,h4,h5⟩:=(show qB7 X.prog X.w H2 s2.heap a (.dT kvs) from I2.hok a _ eh)
  have hxz:xs.length≤sizeLine:=by rw [←Paired.length rel];exact z
  have hez:es.size=xs.length:=by rw [←Array.length_toList,h4,List.length_map]
  refine PySem.W.kdl_call (qXv (es:=es) (ep:=ep) hsys) (I2.ok.hd hc) ⟨o,h1,h2,h3⟩ #[0] fun h' tk acc' c' kp e hacc=>?_
  have ea:acc'.toList=xs.map fun x=>Value.ref x.2.1:=by
   have e0:es.toList.map (·.key)=xs.map fun x=>Value.ref x.2.1:=by rw [h4,List.map_map];rfl
   rw [←e0]
   apply List.ext_getElem?
   intro i
   rw [List.getElem?_map,Array.getElem?_toList,Array.getElem?_toList]
   cases e1:acc'[i]? with
   | some v=>
    obtain ⟨en,e2,e3⟩:=hacc.2 i v e1
    rw [e2,e3];rfl
   | none=>
    have:es[i]?=none:=by
     rw [Array.getElem?_eq_none_iff] at e1 ⊢
     rw [←hacc.1];exact e1
    rw [this];rfl
  have hv:qBu (xs.map fun x=>V.ref x.2.1) acc'.toList:=by rw [ea];exact qHb xs
  refine ⟨.ref s2.heap.objs.size,_,I2.laid (t':=tk) kp #[10] (show qB7 X.prog X.w _ h' _ (.lst (xs.map fun x=>V.ref x.2.1)) from ⟨by rw [List.length_map];exact hxz,acc'.toList,c',hv,by rw [Array.toArray_toList];exact e⟩),rfl,q _ _ (I2.hok.fresh #[10]) (qHr rel eps)⟩
 ·unfold qWk at p
  split at p
  ·rename_i ks ei
   split at p
   ·rename_i ps eps
    obtain ⟨a,kvs,e1,e2,e3,e4,e5,e6⟩:=r.sl j _ ei
    refine ⟨a,kvs,ps,e1,e5,by rw [e6.1];exact eps,fun l vs hl hv=>?_⟩
    have g:=Grow.tups r.bh
    have lB:qIw B H l=none:=g.bh.free hl
    exact p _ _ (g.trans (Grow.new g.bh hl lB)) _ ⟨l,vs,rfl,hl,lB,qAu,IsDs.mono (qHx r.bh) _ _ hv⟩
   ·exact p.elim
  ·exact p.elim
end
open PySem PySem.Spec PyProof.Rows L2
theorem law_mk {l:PySem.W.OpenLaw}{q:Program}{loose:List Str}{XP:(Str→Option Value)→Heap→Prop}{YP:World→Heap→Prop}{d:DefRec}{K:Params→PySem.W.Frag}{k:Nat}{x:Str}{m:List W→Rs W}(hn:l.most=some 63)(hdf:d.params.defaults=[])(hr:Room k callerA)
  (hm:∀ ns:List Int,ns.length≤63→m [.im #[31]]=.ok (.im (.bl true)))
  (hY:∀ (w:World) (h:Heap),YP w h→(K w.params).In h) (hlam:∀ w:World,qdg q (K w.params)=true)
  (F:∀ (w:World) (mg:Str→Option Value) (fa:Addr) (h:Heap),(K w.params).In h→h.Ns mainGlobals mg→mg d.name=some (.ref fa)→
   ∃ fd:FuncData,(∀ (s:Shared) (u:Value),BindsTo s fd ⟨[u],[]⟩ [(x,u)])∧∀ base:Heap,(K w.params).In base→base.Ns mainGlobals mg→FnOk l.prog w (K w.params) mg base CX0 k fa fd [x] (spD (K w.params) 1 m)) :
  PySem.W.WalkO q loose XP YP l.row.toRowW d [] (fun f vs=>PySem.call f vs):=by
 refine L2.walk_of (n:=63) (k:=k) (x:=x) (CX:=fun _=>CX0) (sp:=fun w=>spD (K w.params) 1 m) hn #[4] hdf hr hY hlam F (fun w H a ns hl hS=>?_) fun _ _ _ _ _ z=>z
 have allI:∀ ns:List Int,IsDs (K w.params) H (ns.map D.int) (ns.map V.int):=by
  intro ns
  induction ns with
  | nil=>exact rfl
  | cons n ns ih=>exact ⟨V.int n,ns.map V.int,rfl,by simp [IsD],ih⟩
 refine ⟨H,[.im #[31]],qA5.refl H,⟨.ref a,[],rfl,⟨a,_,rfl,hS,allI ns⟩,rfl⟩,rfl,?_⟩
 rw [hm ns hl]
 exact fun B' H' _ v hv=>hv
def HasL (K:PySem.W.Frag)(mg:Str→Option Value)(x:Str)(st:Stmt):Prop:=∃ f fd c Pt,Fun K x x st f fd∧mg x=some (.ref f)∧fd.code=.ref c∧PySem.W.tabIn K x=some (c,Pt)
theorem hasL_mk {K:PySem.W.Frag}{h:Heap}{mg:Str→Option Value}{x:Str}{st:Stmt}(X:K.In h)(G:h.Ns mainGlobals mg)(T:Has K mg x st)(t:(PySem.W.tabIn K x).isSome=true):HasL K mg x st:=by
 obtain ⟨f,fd,F,hm⟩:=T
 obtain ⟨⟨c,Pt⟩,e⟩:=Option.isSome_iff_exists.mp t
 obtain ⟨oc,od,kV,doc,pm,an,cdv,ct,osl,rfl,lk,hcd⟩:=id F.ex
 exact ⟨f,_,c,Pt,F,hm,PySem.W.law_code X G e hm (X _ _ lk) rfl,e⟩
section
variable {P:Program}{w:World}{K:PySem.W.Frag}{mg:Str→Option Value}{base:Heap}
theorem fnC_of {x:Str}{st:Stmt}{N ps:List Str}{k kl:Nat}{h:Addr→V→(qAj→Rs W)→qAj→Rs Fl}(T:Has K mg x st)(S:FnScope N ps (qAd st))(hps:ps.length=2)
  (hb:∀ (kV doc pm:Value) (an:Option Addr) (cdv ct:Value) (us:List Value),us.length=ps.length→bindArgs #[47] ⟨us,[]⟩=pure (ps.zip us))
  (hbody:∀ (fa f:Addr) (vw:V) (gl:qAj→Rs W) (cdv:Value) (A:Around) (outer:List Env) (s:Shared) (H:Hp),Room k (A.deeper (envOfC x (qAd st) s.heap.objs.size fa cdv))→Clo P w K mg base s H (frs outer) f vw kl gl→
   ∃ Wr,qP0 (qLt CX0 P w K mg base N x (qAd st) fa cdv A outer s H E0).nox EN Wr (qBp st) (h f vw gl)):FnC P w K mg base (k + 1) kl x (fun f vw gl=>mir N (h f vw gl)):=by
 obtain ⟨fa,fd,F,hm⟩:=T
 exact ⟨fa,fd,ps,Fun.okC F S hps fun f vw gl cdv A outer s H hr C=>hbody fa f vw gl cdv A outer s H hr C,hm,F.kp,F.binds hb,hps⟩
end
def qbi (x y:Str)(sc:Scope):Bool:=
 sc.kind == .function && !sc.isCoroutine && !sc.isGenerator && sc.names.lookup x == some .local && sc.names.lookup y == some .free && sc.names.all (fun z=>z.2 != .cell && (z.2 != .free || z.1 == y))
theorem qQt {x y:Str}{sc:Scope}(h:qbi x y sc=true):LamScope x y sc:=by
 unfold qbi at h
 simp only [Bool.and_eq_true,Bool.not_eq_true',beq_iff_eq,List.all_eq_true] at h
 obtain ⟨⟨⟨⟨⟨h1,h2⟩,h3⟩,h4⟩,h5⟩,h6⟩:=h
 refine ⟨h1,h2,h3,h4,h5,fun z hz e=>?_,fun z e=>?_⟩
 ·have:=(h6 z hz).1
  rw [e] at this;exact absurd this #[4]
 ·have:=(h6 (z,.free) (PySem.mem_of_lookup e)).2
  simpa using this
open PySem PySem.Spec PyProof.Rows L2
section
variable {X:Cx}{Ew:XW}{elt iter:Expr}{x x2 y:Str}{px py pz tpos:Pos}{kz:Nat}{ifs:List Expr}{scope:Scope}{pos spos:Pos}{M:List Str}
end
section
variable {P:Program}{w:World}{K:PySem.W.Frag}{mg:Str→Option Value}{base:Heap}
theorem fnD_no {x:Str}{st:Stmt}{ps:List Str}{k:Nat}(T:Has K mg x st)
  (hb:∀ (kV doc pm:Value) (an:Option Addr) (cdv ct:Value) (us:List Value),us.length=ps.length→bindArgs #[47] ⟨us,[]⟩=pure (ps.zip us)):FnD P w K mg base k x ps.length (fun _=>.no):=by
 obtain ⟨f,fd,F,hm⟩:=T
 exact ⟨f,fd,ps,⟨fun vs H Q E h=>let ⟨_,_,_,_,_,p⟩:=h;p.elim,fun A outer s H args us vs Q E _ _ _ _ h=>let ⟨_,_,_,_,_,p⟩:=h;p.elim⟩,hm,F.kp,F.binds hb,rfl⟩
end
open PySem PySem.Spec PyProof.Rows L2
section
variable {K:PySem.W.Frag}{B0 F0 P B H:Hp}{σ:L2.St}{δ:qAj}
theorem R.frz (r:R K B0 F0 P B H σ δ){i:Nat}{ds:List D}(ei:δ[i]?=some (.own ds)):∃ B',R K B0 F0 P B' H σ (δ.set i (.im (.lst ds))):=by
 obtain ⟨a,vs,e1,e2,e3,e4,e5,e6⟩:=r.sl i _ ei
 have sm:qA5 B (upd B a (.lst vs)):=fun b u z=>by rw [qAo (qAm z e4)];exact z
 have hil:i < δ.length:=(List.getElem?_eq_some_iff.mp ei).1
 refine ⟨upd B a (.lst vs),r.b0.trans sm,fun b o e=>?_,r.fh,r.ph,fun b o e=>?_,by rw [List.length_set];exact r.len,fun j s e=>?_,fun j k s t b hjk q1 q2 o1 o2 z1 z2=>?_⟩
 ·by_cases hb:b=a
  ·subst hb;exact .inr (.inl e2)
  ·rw [qAo hb] at e;exact r.nw b o e
 ·by_cases hb:b=a
  ·subst hb;rw [qAu] at e;cases e;exact e5
  ·rw [qAo hb] at e;exact r.bh b o e
 ·by_cases hj:i=j
  ·subst hj
   rw [List.getElem?_set_self hil] at e
   cases e
   exact ⟨.ref a,e1,a,vs,rfl,SqL.of qAu,IsDs.mono sm _ _ e6⟩
  ·rw [List.getElem?_set_ne hj] at e
   have hs:=r.sl j s e
   have off:∀ c,s.isOwn=true→σ[j]?=some (some (.ref c))→c≠a:=fun c ho hc z=>by
    subst z
    exact r.ne i j _ s c hj ei e rfl ho e1 hc
   cases s with
   | un=>trivial
   | im d=>obtain ⟨v,q1,q2⟩:=hs;exact ⟨v,q1,IsD.mono sm _ _ q2⟩
   | rd es=>obtain ⟨c,us,q1,q2,q3⟩:=hs;exact ⟨c,us,q1,q2,IsDs.mono sm _ _ q3⟩
   | own es=>obtain ⟨c,us,q1,q2,q3,q4,q5,q6⟩:=hs;exact ⟨c,us,q1,q2,q3,by rw [qAo (off c rfl q1)];exact q4,q5,IsDs.mono sm _ _ q6⟩
   | dct ks=>obtain ⟨c,us,q1,q2,q3,q4,q5,q6⟩:=hs;exact ⟨c,us,q1,q2,q3,by rw [qAo (off c rfl q1)];exact q4,q5,q6.mono sm⟩
   | exc x=>obtain ⟨c,C,q1,q2,q3⟩:=hs;exact ⟨c,C,q1,q2,sm _ _ q3⟩
   | dtt ks=>obtain ⟨c,us,q1,q2,q3,q4,q5,q6⟩:=hs;exact ⟨c,us,q1,q2,q3,by rw [qAo (off c rfl q1)];exact q4,q5,q6.mono sm⟩
 ·have back:∀ (j:Nat) (s:Sl),(δ.set i (.im (.lst ds)))[j]?=some s→s.isOwn=true→δ[j]?=some s:=fun j s e o=>by
   by_cases hj:i=j
   ·subst hj
    rw [List.getElem?_set_self hil] at e
    cases e;cases o
   ·rw [List.getElem?_set_ne hj] at e;exact e
  exact r.ne j k s t b hjk (back j s q1 o1) (back k t q2 o2) o1 o2 z1 z2
end
open PySem PySem.Spec PyProof.Rows L2
def qM3 (i:Nat)(m:Addr→V→(qAj→Rs W)→List W→Rs W)(gl:qAj→Rs W)(g:qAj→Rs W):qAj→Rs W:=fun δ=>match δ[i]? with
 | some (.im dw)=>g δ>>=fun w=>(qKp fun f vw=>m f vw gl [w,.im (.clo f vw dw)]).nox
 | _=>.no
section
variable {X:Cx}{Ew:XW}{e:Expr}{p pos lpos:Pos}{x z y xl:Str}{c Pt cw:Addr}{kl k:Nat}{g gl:qAj→Rs W}{params:Arguments}{body:Expr}{scope:Scope}{m:Addr→V→(qAj→Rs W)→List W→Rs W}
theorem qQl (i:Nat)(F:FnC X.prog X.w X.K X.mg X.base k kl x m)(hr:Room k X.A)(hg:Gl X x)(ha:PX X Ew e g)(L:LamOk X.prog X.w X.K X.mg X.base kl (qYd z) params body scope xl y gl)
  (hz:z∈qC6) (ht:PySem.W.tabIn X.K z=some (c,Pt)) (hcode:X.env.code=.ref c) (hq:X.env.qual=z++".<locals>.") (hdef:defaultsOf params X.env=([],[])) (hcl:closureFor scope X.env=pure [(y,cw)]) (hyc:X.env.cells.lookup y=some cw) (hky:X.env.kindOf y=some .cell)
  (hfn:X.fn y=true) (hst:X.stack=X.env::X.outer) (hfr:X.env.frame=some X.env.locals) (hN:X.N[i]?=some y) (hdb:#[17]=false:=by decide)
  (he:starEach [e,.Lambda params body scope lpos] X.env=#[22]::starEach [.Lambda params body scope lpos] X.env:=by rfl) (he2:starEach [.Lambda params body scope lpos] X.env=(false,eval (.Lambda params body scope lpos) X.env)::starEach [] X.env:=by rfl)
  (hpl:(backTo pos (starEach [.Lambda params body scope lpos] X.env)).any (·.1)=false:=by rfl):PX X Ew (.Call (.Name x p) [e,.Lambda params body scope lpos] [] pos) (qM3 i m gl g):=by
 obtain ⟨fa,fd,ps,F1,hm,hk,hb,hps⟩:=F.ex
 obtain ⟨ta,h1,h2⟩:=ha
 refine ⟨fun σ H Q=>∃ vw,σ[i]?=some (some vw)∧ta σ H (fun v1 H1=>∃ B1 w1 dw,qA5 B1 H1∧Rdw X.K B1 H1 w1 v1∧IsD X.K B1 dw vw∧∀ f vw',qF6 X.K EN B1 H1 (m f vw' gl [w1,.im (.clo f vw' dw)]) Q),?_,?_⟩
 ·intro pins s σ H Q I ⟨vw,ev,h⟩
  refine wpAny_Call_Name_kw (qF0 I hg hm ?_ hdb)
  refine PySem.W.callWith_K (h₀:=X.base) I.ok.mod.kin hk ?_ he hpl
  rw [he]
  show wpAny _ _ (spliced (#[22]::backTo pos (starEach [.Lambda params body scope lpos] X.env))) _ _ s
  refine Calls.spliced_cons (thn (h1 pins s σ H _ I h) fun u1 s1 ⟨v1,H1,I1,r1,B1,w1,dw,hs,hw,hdw,hp⟩=>?_)
  rw [he2]
  show wpAny _ _ (spliced ((false,eval (.Lambda params body scope lpos) X.env)::backTo pos #[26])) _ _ s1
  refine Calls.spliced_cons (qZ3 I1 hz ht hcode hq hdef hcl hyc hky hfn hst hfr hN ev fun f s2 H2 pm cdv ctv u I2 hH ru C nf nc=>?_)
  refine Calls.spliced_nil ?_
  have G:Grow B1 H1 B1 H2:=by
   rcases hH with rfl | ⟨c',o,hc,rfl⟩
   ·exact Grow.refl hs
   ·exact Grow.new hs hc (hs.free hc)
  refine ⟨I2.kIn,?_⟩
  have hbt:=hb s2 [u1,.ref f] I2.kIn (by rw [List.append_nil,hps];rfl)
  rw [List.append_nil] at hbt
  have hw2:Rdw X.K B1 H2 w1 v1:=by
   cases w1 with
   | im d=>exact hw
   | li b ds=>
    obtain ⟨a,us,e1,e2,e3⟩:=hw
    exact ⟨a,us,e1,qA5.rdl G.sh e2,e3⟩
  refine wpAny_call (codeAny_mono (F1 gl f vw dw X.A X.stack s2 H2 u1 w1 v1 B1 Q hr I2.env0 hbt r1 ⟨_,_,_,_,_,_,_,u,pm,cdv,ctv,C,nf,nc,ru,L⟩ G.bh hw2 hdw (qF6.step G (hp f vw))) fun rr s' hq=>?_)
  cases rr with
  | error e=>exact hq.elim
  | ok fl=>
   cases fl with
   | ret u=>exact I2.after hq
   | next=>exact False.elim hq
   | brk=>exact False.elim hq
   | cont=>exact False.elim hq
 ·intro B0 F0 P B H σ δ Q r p
  unfold qM3 at p
  split at p
  ·rename_i dw e1
   obtain ⟨vw,e2,e3⟩:=r.sl i _ e1
   refine ⟨vw,e2,h2 B0 F0 P B H σ δ _ r ((Pst.bind p).mono fun w B1 H1 g1 p1 v1 hw=>⟨B1,w,dw,g1.bh,hw.rd,IsD.mono g1.sb _ _ e3,fun f vw'=>?_⟩)⟩
   by_cases hall:∀ f v,m f v gl [w,.im (.clo f v dw)]=m 0 .non gl [w,.im (.clo 0 .non dw)]
   ·have p2:Pst Ew B1 H1 (fun w B' H'=>∀ v,IsW X.K B' H H' w v→Q v H') (m 0 .non gl [w,.im (.clo 0 .non dw)]).nox:=by
     have p3:Pst Ew B1 H1 (fun w B' H'=>∀ v,IsW X.K B' H H' w v→Q v H') (qKp fun f vw=>m f vw gl [w,.im (.clo f vw dw)]).nox:=p1
     unfold qKp at p3
     rw [if_pos hall] at p3
     exact p3
    rw [hall f vw']
    cases q:m 0 .non gl [w,.im (.clo 0 .non dw)] with
    | no=>rw [q] at p2;exact p2.elim
    | ex xx=>rw [q] at p2;exact p2.elim
    | ok w'=>rw [q] at p2;exact fun B' H' g' v hv=>p2 B' H' g' v (hv.older g1.sh)
   ·have p3:Pst Ew B1 H1 (fun w B' H'=>∀ v,IsW X.K B' H H' w v→Q v H') (qKp fun f vw=>m f vw gl [w,.im (.clo f vw dw)]).nox:=p1
    unfold qKp at p3
    rw [if_neg hall] at p3
    exact p3.elim
  ·exact p.elim
end
section
variable {P:Program}{w:World}{K:PySem.W.Frag}{mg:Str→Option Value}{base:Heap}
theorem qdz {x:Str}{st:Stmt}{N ps:List Str}{k:Nat}{h:qAj→Rs Fl}(T:HasL K mg x st)(S:FnScope N ps (qAd st))(hl:ps.length≤N.length)
  (hb:∀ (kV doc pm:Value) (an:Option Addr) (cdv ct:Value) (us:List Value),us.length=ps.length→bindArgs #[47] ⟨us,[]⟩=pure (ps.zip us))
  (hbody:∀ c Pt,PySem.W.tabIn K x=some (c,Pt)→∀ (f:Addr) (A:Around) (outer:List Env) (s:Shared) (H:Hp) (E:XK),Room k (A.deeper (envOfC x (qAd st) s.heap.objs.size f (.ref c)))→
   ∃ Wr,qP0 (qLt (CXE P w) P w K mg base N x (qAd st) f (.ref c) A outer s H E) (qa3 K E) Wr (qBp st) h):FnX P w K mg base (k + 1) x ps.length (mir N h):=by
 obtain ⟨f,fd,c,Pt,F,hm,hc,ht⟩:=T
 refine ⟨f,fd,ps,?_,hm,F.kp,F.binds hb,rfl⟩
 obtain ⟨oc,od,kV,doc,pm,an,cdv,ct,osl,rfl,lk,hcd⟩:=F.ex
 cases (show cdv=.ref c from hc)
 refine qdv lk hcd S (fun vs H Q E hsp=>?_) fun A outer s H vs Q E hr hsp=>?_
 ·obtain ⟨B,ws,hs,hw,hn,_⟩:=hsp
  rw [←hw.len,hn]
 ·obtain ⟨B,ws,hs,hw,hn,p⟩:=hsp
  obtain ⟨Wr,ts,h1,h2⟩:=hbody c Pt ht f A outer s H E hr
  refine ⟨ts,h1,h2 B H qDh B H _ (frame N ws) _ (qGa hs hw #[0]) ?_⟩
  have p':qF6 K (qa3 K E) B H (h (frame N ws)>>=fin) Q:=p
  cases q:h (frame N ws) with
  | no=>rw [q] at p';exact p'
  | ex x=>rw [q] at p';exact p'
  | ok fl=>
   rw [q] at p'
   cases fl with
   | nx δ=>exact fun B' H' σ' r' _=>p' B' H' r'.whole .non rfl
   | rt w=>exact fun v B' H' g hw'=>p' B' H' g v hw'
   | rl d δ=>exact fun v B' H' σ' r' _ hd=>p' B' H' r'.whole v hd
   | bk δ=>exact p'.elim
   | ct δ=>exact p'.elim
end
def frzB (i:Nat)(h:qAj→Rs Fl):qAj→Rs Fl:=fun δ=>match δ[i]? with
 | some (.own ds)=>h (δ.set i (.im (.lst ds)))
 | _=>h δ
theorem qZd {X:Cx}{Ew:XW}{Wr:List Nat}{st:Stmt}{h:qAj→Rs Fl}(i:Nat)(hs:PSX X Ew Wr st h):PSX X Ew Wr st (frzB i h):=by
 obtain ⟨ts,h1,h2⟩:=hs
 refine ⟨ts,h1,fun B0 F0 P B H σ δ D r q=>?_⟩
 unfold frzB at q
 split at q
 ·rename_i ds ei
  obtain ⟨B2,r2⟩:=r.frz ei
  exact h2 B0 F0 P B2 H σ _ D r2 q
 ·exact h2 B0 F0 P B H σ δ D r q
end PD
theorem PySem.W.Fast.tw711198011233834883:True:=trivial
theorem PySem.W.Fast.tw14454303748599388699:True:=trivial
theorem PySem.W.Fast.tw4951297460124090825:True:=trivial
theorem PySem.W.Fast.tw175733545645272710:True:=trivial
theorem PySem.W.Fast.tw12199380896485969203:True:=trivial
theorem PySem.W.Fast.tw2400491119579961191:True:=trivial
theorem PySem.W.Fast.tw13068049092587319310:True:=trivial
theorem PySem.W.Fast.tw16957217367098173696:True:=trivial
theorem PySem.W.Fast.tw5663405310617009774:True:=trivial
theorem PySem.W.Fast.tw16356622169826072096:True:=trivial
theorem PySem.W.Fast.tw11244310318442292959:True:=trivial
theorem PySem.W.Fast.tw18244305523552419809:True:=trivial
theorem PySem.W.Fast.tw6880965255802641652:True:=trivial
theorem PySem.W.Fast.tw1405484265949376666:True:=trivial
theorem PySem.W.Fast.tw13673661707949295101:True:=trivial
theorem PySem.W.Fast.tw14685720056785317715:True:=trivial
theorem PySem.W.Fast.tw12924081695982054360:True:=trivial
theorem PySem.W.Fast.tw8448651781361953970:True:=trivial
theorem PySem.W.Fast.tw10428407815370630747:True:=trivial
theorem PySem.W.Fast.tw15112640649995071091:True:=trivial
theorem PySem.W.Fast.tw3569472945160913198:True:=trivial
theorem PySem.W.Fast.tw6010754784374355530:True:=trivial
theorem PySem.W.Fast.tw6093655638881565901:True:=trivial
theorem PySem.W.Fast.tw6539557274434214791:True:=trivial
theorem PySem.W.Fast.tw17513624343090361119:True:=trivial
theorem PySem.W.Fast.tw15088992755875574894:True:=trivial
theorem PySem.W.Fast.tw11359891474238631275:True:=trivial
theorem PySem.W.Fast.tw7665536151958238063:True:=trivial
theorem PySem.W.Fast.tw3437783442406164601:True:=trivial
theorem PySem.W.Fast.tw2417096452046705243:True:=trivial
theorem PySem.W.Fast.tw2726444324901075084:True:=trivial
theorem PySem.W.Fast.tw4592206046351897988:True:=trivial
theorem PySem.W.Fast.tw14350144140060796634:True:=trivial
theorem PySem.W.Fast.tw15337349982101164544:True:=trivial
theorem PySem.W.Fast.tw8106683703603091710:True:=trivial
theorem PySem.W.Fast.tw3550264280606246682:True:=trivial
theorem PySem.W.Fast.tw6064031173143372979:True:=trivial
theorem PySem.W.Fast.tw2988756412113698004:True:=trivial
theorem PySem.W.Fast.tw9813380421877547174:True:=trivial
theorem PySem.W.Fast.tw3892404698382747896:True:=trivial
theorem PySem.W.Fast.tw17746952634747598997:True:=trivial
theorem PySem.W.Fast.tw11877673090321699308:True:=trivial
theorem PySem.W.Fast.tw13466832029841984510:True:=trivial
theorem PySem.W.Fast.tw3810108784380011419:True:=trivial
theorem PySem.W.Fast.tw579493891361740979:True:=trivial
theorem PySem.W.Fast.tw1660899384122495386:True:=trivial
theorem PySem.W.Fast.tw23206361779174509:True:=trivial
theorem PySem.W.Fast.tw5595014405807472358:True:=trivial
theorem PySem.W.Fast.tw11311626410129170936:True:=trivial
theorem PySem.W.Fast.tw2209920607096765936:True:=trivial
theorem PySem.W.Fast.tw15150441108014758376:True:=trivial
theorem PySem.W.Fast.tw6923940545184275933:True:=trivial
theorem PySem.W.Fast.tw12718552821840626242:True:=trivial
theorem PySem.W.Fast.tw8281094106144816657:True:=trivial
theorem PySem.W.Fast.tw4672424439731281209:True:=trivial
theorem PySem.W.Fast.tw901531484369384683:True:=trivial
theorem PySem.W.Fast.tw12730839479962656747:True:=trivial
theorem PySem.W.Fast.tw3168677382269426757:True:=trivial
theorem PySem.W.Fast.tw17693913451696684817:True:=trivial
theorem PySem.W.Fast.tw4006431577529517706:True:=trivial
theorem PySem.W.Fast.tw16136681307596575748:True:=trivial
theorem PySem.W.Fast.tw8636847682775268168:True:=trivial
theorem PySem.W.Fast.tw13045181099797191738:True:=trivial
theorem PySem.W.Fast.tw5701771718508553330:True:=trivial
theorem PySem.W.Fast.tw6777856744056961638:True:=trivial
theorem PySem.W.Fast.tw16296835437416079767:True:=trivial
theorem PySem.W.Fast.tw14247185644518301597:True:=trivial
theorem PySem.W.Fast.tw1072055961551565347:True:=trivial
theorem PySem.W.Fast.tw17825935897394938336:True:=trivial
theorem PySem.W.Fast.tw15395458845133336891:True:=trivial
theorem PySem.W.Fast.tw10029927045498430859:True:=trivial
theorem PySem.W.Fast.tw5835669351090996508:True:=trivial
theorem PySem.W.Fast.tw6766723168448954736:True:=trivial
theorem PySem.W.Fast.tw3706826903058908217:True:=trivial
theorem PySem.W.Fast.tw4605488289767365900:True:=trivial
theorem PySem.W.Fast.tw3903383328492629686:True:=trivial
theorem PySem.W.Fast.tw8091205211569328039:True:=trivial
theorem PySem.W.Fast.tw1550559909876562126:True:=trivial
theorem PySem.W.Fast.tw12315263582613318721:True:=trivial
theorem PySem.W.Fast.tw9939193195235892312:True:=trivial
theorem PySem.W.Fast.tw4583996148081285222:True:=trivial
theorem PySem.W.Fast.tw10519303331368383924:True:=trivial
theorem PySem.W.Fast.tw5879738025092043281:True:=trivial
theorem PySem.W.Fast.tw12723213051507527871:True:=trivial
open PySem PySem.W PyProof.Rows
open_top hd08 for PySem.Challenge.rw_loaders_k08_arrows
namespace T08
open PySem PySem.Spec PyProof.Rows L2 PD
def top (i:Nat):Stmt:=PySem.Challenge.pw_loaders_k08_arrows.main.body.getD i (.Pass ⟨0,0,0,0⟩)
abbrev qI4:Stmt:=top 15
abbrev qKv:Stmt:=top 16
abbrev qI3:Stmt:=top 17
abbrev qFm:Stmt:=top 18
abbrev qHz:Stmt:=top 19
abbrev qRh:Stmt:=top 20
abbrev qHy:Stmt:=top 21
abbrev qI6:Stmt:=top 22
abbrev qHg:Stmt:=top 23
abbrev qNy:Stmt:=top 24
abbrev qHe:Stmt:=top 25
abbrev qHf:Stmt:=top 26
abbrev qI5:Stmt:=top 27
abbrev qN0:Stmt:=top 28
abbrev qNx:Stmt:=top 30
abbrev qU4:Stmt:=top 31
abbrev qKw:Stmt:=top 32
abbrev qKx:Stmt:=top 33
abbrev qKy:Stmt:=top 34
abbrev qEq:Stmt:=top 35
abbrev qNz:Stmt:=top 36
abbrev qNw:Stmt:=top 38
abbrev qD9:Stmt:=top 40
abbrev qEp:Stmt:=top 41
abbrev qGc:Stmt:=top 42
abbrev qU5:Stmt:=top 43
abbrev qKu:Stmt:=top 45
abbrev qGb:Stmt:=top 46
abbrev qGd:Stmt:=top 47
abbrev qRi:Stmt:=top 48
abbrev qRg:Stmt:=top 49
abbrev qI9:Stmt:=top 51
abbrev qN4:Stmt:=top 52
abbrev qRj:Stmt:=top 53
abbrev qN3:Stmt:=top 54
abbrev qU6:Stmt:=top 55
abbrev qMc:Stmt:=top 56
abbrev qN1:Stmt:=top 57
abbrev qRk:Stmt:=top 58
abbrev qU7:Stmt:=top 59
abbrev qMb:Stmt:=top 60
abbrev qI8:Stmt:=top 61
abbrev qFn:Stmt:=top 62
abbrev qJa:Stmt:=top 63
abbrev qRl:Stmt:=top 64
abbrev qKz:Stmt:=top 65
abbrev qI7:Stmt:=top 66
abbrev qN2:Stmt:=top 67
abbrev qIl:Stmt:=top 68
abbrev qcd:Stmt:=top 69
structure Txt (w:World) (K:PySem.W.Frag) (mg:Str→Option Value):Prop where
 b_ValueError:mg "ValueError"=none
 b_all:mg "all"=none
 b_bool:mg "bool"=none
 b_enumerate:mg "enumerate"=none
 b_int:mg "int"=none
 b_isinstance:mg "isinstance"=none
 b_len:mg "len"=none
 b_list:mg "list"=none
 b_range:mg "range"=none
 b_reversed:mg "reversed"=none
 b_set:mg "set"=none
 b_sorted:mg "sorted"=none
 b_str:mg "str"=none
 b_tuple:mg "tuple"=none
 g_LETTERS:∃ t,mg "LETTERS"=some (.str "abcdefghijklmnopqrstuvwxyz" t)
 g_WORDS_BEHIND:qek w K mg "WORDS_BEHIND" [("read",3),("need",1),("note",1),("fail",1)]
 t_is_number:Has K mg "is_number" qI4
 t_is_tuple:Has K mg "is_tuple" qKv
 t_is_word:Has K mg "is_word" qI3
 t_are_words:Has K mg "are_words" qFm
 t_are_unlike:Has K mg "are_unlike" qHz
 t_is_row:Has K mg "is_row" qRh
 t_fits_above:Has K mg "fits_above" qHy
 t_are_faces:Has K mg "are_faces" qI6
 t_are_rows:Has K mg "are_rows" qHg
 t_is_file:Has K mg "is_file" qNy
 t_names_on:Has K mg "names_on" qHe
 t_is_shelf:Has K mg "is_shelf" qHf
 t_is_loader:Has K mg "is_loader" qI5
 t_checked:Has K mg "checked" qN0
 t_line_to:Has K mg "line_to" qNx
 t_found:Has K mg "found" qU4
 t_is_found:Has K mg "is_found" qKw
 t_is_class:Has K mg "is_class" qKx
 t_class_in:Has K mg "class_in" qKy
 t_checked_class:Has K mg "checked_class" qEq
 t_file_of:Has K mg "file_of" qNz
 t_reached:Has K mg "reached" qNw
 t_names_above:Has K mg "names_above" qD9
 t_fault_of_name:Has K mg "fault_of_name" qEp
 t_fault_above:Has K mg "fault_above" qGc
 t_fault:Has K mg "fault" qU5
 t_steps_of:Has K mg "steps_of" qKu
 t_name_needed:Has K mg "name_needed" qGb
 t_arrows_from:Has K mg "arrows_from" qGd
 t_arrows:Has K mg "arrows" qRi
 t_needed:HasL K mg "needed" qRg
 t_L_cell_at:Has K mg "_law_cell_at" qI9
 t_L_mixed:Has K mg "_law_mixed" qN4
 t_L_word:Has K mg "_law_word" qRj
 t_L_names:Has K mg "_law_names" qN3
 t_L_row:Has K mg "_law_row" qU6
 t_L_file:Has K mg "_law_file" qMc
 t_L_world:Has K mg "_law_world" qN1
 t_L_line:Has K mg "_law_line" qRk
 t_L_on:Has K mg "_law_on" qU7
 t_L_find:Has K mg "_law_find" qMb
 t_L_file_of:Has K mg "_law_file_of" qI8
 t_L_classes:Has K mg "_law_classes" qFn
 t_L_above:Has K mg "_law_above" qJa
 t_L_flaw:Has K mg "_law_flaw" qRl
 t_L_arrows:Has K mg "_law_arrows" qKz
 t_L_reach:Has K mg "_law_reach" qI7
 t_L_which:Has K mg "_law_which" qN2
 t_L_told:Has K mg "_law_told" qIl
 t_law:Has K mg "law" qcd
 c_NoClass:qQ8 K mg "NoClass"
 e_NoClass:qUi K mg "NoClass" [("NoClass",true)]
 e_NoFile:qUi K mg "NoFile" [("NoClass",false)]
 e_NoHand:qUi K mg "NoHand" [("NoClass",false)]
 e_NoLoader:qUi K mg "NoLoader" [("NoClass",false)]
 e_NoNeeds:qUi K mg "NoNeeds" [("NoClass",false)]
 e_NoOrder:qUi K mg "NoOrder" [("NoClass",false)]
 e_NoText:qUi K mg "NoText" [("NoClass",false)]
 e_NoWorld:qUi K mg "NoWorld" [("NoClass",false)]
 e_NotLinked:qUi K mg "NotLinked" [("NoClass",false)]
 e_TooMany:qUi K mg "TooMany" [("NoClass",false)]
 e_ValueError:qa2 K (.type "ValueError") [("NoClass",true)]
 k_LoadError:qYa K mg "LoadError" ["NoClass"]
variable {P:Program}{w:World}{K:PySem.W.Frag}{mg:Str→Option Value}{base:Heap}
set_option hygiene false
local macro_rules | `(tactic| norm_cast) => `(tactic| exact ⟨rfl, rfl, rfl, by decide +kernel, rfl, by decide +kernel, by decide +kernel⟩)
local macro_rules | `(tactic| and_intros) => `(tactic| (intro _ _ _ _ _ _ us hl; first | (obtain ⟨_, rfl⟩ := ll1 hl; rfl) | (obtain ⟨_, _, rfl⟩ := ll2 hl; rfl) | (obtain ⟨_, _, _, rfl⟩ := ll3 hl; rfl) | (obtain ⟨_, _, _, _, rfl⟩ := ll4 hl; rfl) | (obtain ⟨_, _, _, _, _, rfl⟩ := ll5 hl; rfl) | (obtain ⟨_, _, _, _, _, _, rfl⟩ := ll6 hl; rfl)))
set_option hygiene true
def qJz:qAj→Rs Fl:=
 (qBd (ifF (orB (qHk (qAg (qAg #[1] (qYe "int")) W.tru)) (qAg (qAg #[1] (qYe "bool")) W.tru)) (qB8 (toW (cst (.bl false)))) qC8)
  (qB8 (qEl leW leW (var 1) #[1] (var 2))))
def qCd:List W→Rs W:=mir ["thing","least","most"] qJz
theorem qNo:FnScope ["thing","least","most"] ["thing","least","most"] (qAd qI4):=by norm_cast
theorem qF1 (T:Txt w K mg):FnD P w K mg base 1 "is_number" 3 qCd:=by
 have sc:=qNo
 refine qBm (k:=0) (h:=qJz) (ps:=["thing","least","most"]) T.t_is_number sc #[4] #[12] fun f cdv A outer s H E hr=>?_
 exact ⟨_,(qAi (qBj (PXw.t (qJd (qCh (qB9 (qRv (ty_int _) boot_int rfl T.b_isinstance rfl T.b_int (qAb 0)))) (qFq (qB9 (qRv (qb1 _) boot_bool rfl T.b_isinstance rfl T.b_bool (qAb 0)))))) (qAk (qAt (PXd.w qFs))) qA7)
  (qAk (qAt (qRw qLa qLa (qAb 1) (qAb 0) (qAb 2)))))⟩
def qLi:qAj→Rs Fl:=
 (qB8 (qKf (qAg #[1] (qYe "tuple")) (qEl leW leW (var 1) (qAg (qAc #[1] qA2) qIs) (var 2))))
def qBs:List W→Rs W:=mir ["thing","least","most"] qLi
theorem qQc:FnScope ["thing","least","most"] ["thing","least","most"] (qAd qKv):=by norm_cast
theorem qCr (T:Txt w K mg):FnD P w K mg base 1 "is_tuple" 3 qBs:=by
 have sc:=qQc
 refine qBm (k:=0) (h:=qLi) (ps:=["thing","least","most"]) T.t_is_tuple sc #[4] #[12] fun f cdv A outer s H E hr=>?_
 exact ⟨_,(qAk (qAt (qDq (qRv (qYm _) boot_tuple rfl T.b_isinstance rfl T.b_tuple (qAb 0)) (qEj (qRw qLa qLa (qAb 1) #[53] (qAb 2))))))⟩
def qOy:qAj→Rs Fl:=
 (qBd (ifF (orB (qHk (qAg (qAg #[1] (qYe "str")) W.tru)) (qHk (qAg (qEl leW leW #[13] (qAg (qAc #[1] qA2) qIs) (toW (cst (.int 6)))) W.bool))) (qB8 (toW (cst (.bl false)))) qC8)
  (qB8 (qAg (qAc (qC2 (qAg #[1] W.walk) (fun _=>.ok true) (qBg (qAn inW #[1] (toW (cst (.str "abcdefghijklmnopqrstuvwxyz")))))) qA2) qX6)))
def qC9:List W→Rs W:=mir ["thing"] qOy
theorem qS8:FnScope ["thing"] ["thing"] (qAd qI3):=by norm_cast
theorem qEy (T:Txt w K mg):FnD P w K mg base 1 "is_word" 1 qC9:=by
 have sc:=qS8
 refine qBm (k:=0) (h:=qOy) (ps:=["thing"]) T.t_is_word sc #[4] #[12] fun f cdv A outer s H E hr=>?_
 exact ⟨_,(qAi (qBj (PXw.t (qJd (qCh (qB9 (qRv (ty_str _) boot_str rfl T.b_isinstance rfl T.b_str (qAb 0)))) (qFq (qCh (qVf qLa qLa #[3] #[53] #[3]))))) (qAk (qAt (PXd.w qFs))) qA7)
  (qAk (qAt (qBw (qG5 rfl) rfl T.b_all boot_all (qAa (qEa rfl sc.nd (qBo (qAd qI3) ["thing"] rfl rfl #[19]) (qDg (qAb 0)) (fun _ _ _ _ _=>qDm) (fun _ _ _ _ _=>(PX.d (qCw (qLb (qac hr)) (qAb 0) (PXd.w (qcp rfl T.g_LETTERS.choose_spec ⟨_,rfl⟩)) (by with_unfolding_all rfl))))) qAh)))))⟩
def qJ1:qAj→Rs Fl:=
 (qB8 (qAg (qAc (qC2 (qAg #[1] W.walk) (fun _=>.ok true) (qBg (qAs qC9 1 (qAc #[1] qA2)))) qA2) qX6))
def qCz:List W→Rs W:=mir ["things"] qJ1
theorem qNq:FnScope ["things"] ["things"] (qAd qFm):=by norm_cast
theorem qF2 (T:Txt w K mg):FnD P w K mg base 2 "are_words" 1 qCz:=by
 have sc:=qNq
 refine qBm (k:=1) (h:=qJ1) (ps:=["things"]) T.t_are_words sc #[4] #[12] fun f cdv A outer s H E hr=>?_
 exact ⟨_,(qAk (qAt (qBw (qG5 rfl) rfl T.b_all boot_all (qAa (qEa rfl sc.nd (qBo (qAd qFm) ["things"] rfl rfl #[19]) (qDg (qAb 0)) (fun _ _ _ _ _=>qDm) (fun _ _ _ _ _=>(PX.d (qAl (qEy T) #[5] rfl (qAa (qAb 0) qAh) rfl)))) qAh))))⟩
def qH3:qAj→Rs Fl:=
 (qB8 (qAn eqW (qAg #[1] qGt) (qAg (qAc #[1] qA2) qIs)))
def qDs:List W→Rs W:=mir ["words"] qH3
theorem qMa:FnScope ["words"] ["words"] (qAd qHz):=by norm_cast
theorem qH6 (T:Txt w K mg):FnD P w K mg base 1 "are_unlike" 1 qDs:=by
 have sc:=qMa
 refine qBm (k:=0) (h:=qH3) (ps:=["words"]) T.t_are_unlike sc #[4] #[12] fun f cdv A outer s H E hr=>?_
 exact ⟨_,(qAk (qAt (qCw (qCa (qGv hr)) (qN8 rfl rfl T.b_len rfl T.b_set (qAb 0)) #[53] (qA6 _))))⟩
def qSb:qAj→Rs Fl:=
 (qBd (ifF (orB (qHk (qAg (qAs qBs 3 (qAc #[1] (qAc #[23] (qAc #[39] qA2)))) W.tru)) (qHk (qAg (qAs qC9 1 (qAc (qAn ixW #[1] #[7]) qA2)) W.tru))) (qB8 (toW (cst (.bl false)))) qC8)
  (qBd (ifF (qAg (qAn eqW (qAn ixW #[1] #[7]) (toW (cst (.str "put")))) W.bool) (qB8 (qKf (qAn eqW (qAg (qAc #[1] qA2) qIs) (toW (cst (.int 3)))) (qKf (qAs qC9 1 (qAc (qAn ixW #[1] #[13]) qA2)) (qAs qCd 3 (qAc (qAn ixW #[1] #[23]) (qAc #[7] (qAc (toW (cst (.int 99))) qA2))))))) qC8)
  (qB8 (qKf (qAn eqW (qAg (qAn ixW #[1] #[7]) (qO8 [("read",3),("need",1),("note",1),("fail",1)])) (qAn qa7 (qAg (qAc #[1] qA2) qIs) #[13])) (qAs qCz 1 (qAc (qFe #[1] (part #[13]) qDy) qA2))))))
def qGn:List W→Rs W:=mir ["thing"] qSb
theorem qUx:FnScope ["thing"] ["thing"] (qAd qRh):=by norm_cast
theorem qak (T:Txt w K mg):FnD P w K mg base 3 "is_row" 1 qGn:=by
 have sc:=qUx
 refine qBm (k:=2) (h:=qSb) (ps:=["thing"]) T.t_is_row sc #[4] #[12] fun f cdv A outer s H E hr=>?_
 exact ⟨_,(qAi (qBj (PXw.t (qJd (qCh (qB9 #[56])) (qFq (qCh (qB9 (qAl (qEy T) #[5] rfl (qAa #[28] qAh) rfl)))))) (qAk (qAt (PXd.w qFs))) qA7)
  (qAi (qBj (qAz (qCa (qGv hr)) #[28] (PXd.w qBi) (qA6 _)) (qAk (qAt (qDq (qCw (qCa (qGv hr)) #[53] #[3] (qA6 _)) (qDq (qAl (qEy T) #[5] rfl (qAa #[28] qAh) rfl) (qEj (qAl (qF1 T) #[5] rfl (qAa #[28] (qAa #[3] (qAa #[3] qAh))) rfl)))))) qA7)
  (qAk (qAt (qDq (qCw (qCa (qGv hr)) (qVm T.g_WORDS_BEHIND rfl #[28] ⟨rfl,rfl,rfl,rfl⟩) (qBk qMm #[53] #[3]) (qA6 _)) (qEj (qAl (qF2 T) #[5] rfl (qAa (qDp (qAb 0) (qDn #[3]) qDo) qAh) rfl)))))))⟩
def qH2:qAj→Rs Fl:=
 (qBd (ifF (qAg (qAn isW (var 1) #[21]) W.bool) (qB8 (qAn inW #[1] (toW (qAg (qAq (cst (.str "class")) (qAq (cst (.str "face")) qB4)) qBy)))) qC8)
  (qB8 (qKf (qAn eqW #[1] (toW (cst (.str "class")))) (qAs qC9 1 (qAc (var 1) qA2)))))
def qEs:List W→Rs W:=mir ["kind","above"] qH2
theorem qL9:FnScope ["kind","above"] ["kind","above"] (qAd qHy):=by norm_cast
theorem qPe (T:Txt w K mg):FnD P w K mg base 2 "fits_above" 2 qEs:=by
 have sc:=qL9
 refine qBm (k:=1) (h:=qH2) (ps:=["kind","above"]) T.t_fits_above sc #[4] #[12] fun f cdv A outer s H E hr=>?_
 exact ⟨_,(qAi (qBj (qAz qJm (qAb 1) (PXd.w qB2) (qA6 _)) (qAk (qAt (qCw (qLb (qac hr)) (qAb 0) (PXd.w (qBr (qAe qBi (qAe qBi qAr)))) (by with_unfolding_all rfl)))) qA7)
  (qAk (qAt (qDq (qCw (qCa (qGv hr)) (qAb 0) (PXd.w qBi) (qA6 _)) (qEj (qAl (qEy T) #[5] rfl (qAa (qAb 1) qAh) rfl))))))⟩
def qJ2:qAj→Rs Fl:=
 (qB8 (qKf (qAs qBs 3 (qAc #[1] (qAc #[7] (qAc #[23] qA2)))) (qKf (qAs qCz 1 (qAc #[1] qA2)) (qAs qDs 1 (qAc #[1] qA2)))))
def qFw:List W→Rs W:=mir ["thing"] qJ2
theorem qNr:FnScope ["thing"] ["thing"] (qAd qI6):=by norm_cast
theorem qQy (T:Txt w K mg):FnD P w K mg base 3 "are_faces" 1 qFw:=by
 have sc:=qNr
 refine qBm (k:=2) (h:=qJ2) (ps:=["thing"]) T.t_are_faces sc #[4] #[12] fun f cdv A outer s H E hr=>?_
 exact ⟨_,(qAk (qAt (qDq #[56] (qDq (qAl (qF2 T) #[5] rfl (qAa (qAb 0) qAh) rfl) (qEj (qAl (qH6 T) #[5] rfl (qAa (qAb 0) qAh) rfl))))))⟩
def qLn:qAj→Rs Fl:=
 (qB8 (qKf (qAs qBs 3 (qAc #[1] (qAc #[7] (qAc (toW (cst (.int 5))) qA2)))) (qAg (qAc (qC2 (qAg #[1] W.walk) (fun _=>.ok true) (qBg (qAs qGn 1 (qAc #[1] qA2)))) qA2) qX6)))
def qHo:List W→Rs W:=mir ["thing"] qLn
theorem qQh:FnScope ["thing"] ["thing"] (qAd qHg):=by norm_cast
theorem qT8 (T:Txt w K mg):FnD P w K mg base 4 "are_rows" 1 qHo:=by
 have sc:=qQh
 refine qBm (k:=3) (h:=qLn) (ps:=["thing"]) T.t_are_rows sc #[4] #[12] fun f cdv A outer s H E hr=>?_
 exact ⟨_,(qAk (qAt (qDq #[56] (qEj (qBw (qG5 rfl) rfl T.b_all boot_all (qAa (qEa rfl sc.nd (qBo (qAd qHg) ["thing"] rfl rfl #[19]) (qDg (qAb 0)) (fun _ _ _ _ _=>qDm) (fun _ _ _ _ _=>(PX.d (qAl (qak T) #[5] rfl (qAa (qAb 0) qAh) rfl)))) qAh))))))⟩
def qOz:qAj→Rs Fl:=
 (qBd (ifF (orB (qHk (qAg (qAs qBs 3 (qAc #[1] (qAc (toW (cst (.int 5))) (qAc (toW (cst (.int 5))) qA2)))) W.tru)) (qHk (qAg (qAs qCz 1 (qAc (qFe #[1] qDy (part #[23])) qA2)) W.tru))) (qB8 (toW (cst (.bl false)))) qC8)
  (qB8 (qKf (qAs qEs 2 (qAc (qAn ixW #[1] #[7]) (qAc (qAn ixW #[1] #[23]) qA2))) (qKf (qAs qFw 1 (qAc (qAn ixW #[1] (toW (cst (.int 3)))) qA2)) (qAs qHo 1 (qAc (qAn ixW #[1] #[39]) qA2))))))
def qD2:List W→Rs W:=mir ["thing"] qOz
theorem qS9:FnScope ["thing"] ["thing"] (qAd qNy):=by norm_cast
theorem qXg (T:Txt w K mg):FnD P w K mg base 5 "is_file" 1 qD2:=by
 have sc:=qS9
 refine qBm (k:=4) (h:=qOz) (ps:=["thing"]) T.t_is_file sc #[4] #[12] fun f cdv A outer s H E hr=>?_
 exact ⟨_,(qAi (qBj (PXw.t (qJd (qCh (qB9 #[56])) (qFq (qCh (qB9 (qAl (qF2 T) #[5] rfl (qAa (qDp (qAb 0) qDo (qDn #[3])) qAh) rfl)))))) (qAk (qAt (PXd.w qFs))) qA7)
  (qAk (qAt (qDq (qAl (qPe T) #[5] rfl (qAa #[28] (qAa #[28] qAh)) rfl) (qDq (qAl (qQy T) #[5] rfl (qAa #[28] qAh) rfl) (qEj (qAl (qT8 T) #[5] rfl (qAa #[28] qAh) rfl)))))))⟩
def qLh:qAj→Rs Fl:=
 (qB8 (qC2 (qAg #[1] W.walk) (fun _=>.ok true) (qBg (qAn ixW #[1] #[13]))))
def qCy:List W→Rs W:=mir ["shelf"] qLh
theorem qQb:FnScope ["shelf"] ["shelf"] (qAd qHe):=by norm_cast
theorem qHv (T:Txt w K mg):FnD P w K mg base 1 "names_on" 1 qCy:=by
 have sc:=qQb
 refine qBm (k:=0) (h:=qLh) (ps:=["shelf"]) T.t_names_on sc #[4] #[12] fun f cdv A outer s H E hr=>?_
 exact ⟨_,(qAk (qAt (qEa rfl sc.nd (qBo (qAd qHe) ["shelf"] rfl rfl #[19]) (qDg (qAb 0)) (fun _ _ _ _ _=>qDm) (fun _ _ _ _ _=>(PX.d #[28])))))⟩
def qLj:qAj→Rs Fl:=
 (qBd (ifF (orB (qHk (qAg (qAs qBs 3 (qAc #[1] (qAc #[7] (qAc #[39] qA2)))) W.tru)) (qHk (qAg (qAg (qAc (qC2 (qAg #[1] W.walk) (fun _=>.ok true) (qBg (qAs qD2 1 (qAc #[1] qA2)))) qA2) qX6) W.tru))) (qB8 (toW (cst (.bl false)))) qC8)
  (qB8 (qAs qDs 1 (qAc (qAs qCy 1 (qAc #[1] qA2)) qA2))))
def qHn:List W→Rs W:=mir ["thing"] qLj
theorem qQd:FnScope ["thing"] ["thing"] (qAd qHf):=by norm_cast
theorem qT4 (T:Txt w K mg):FnD P w K mg base 6 "is_shelf" 1 qHn:=by
 have sc:=qQd
 refine qBm (k:=5) (h:=qLj) (ps:=["thing"]) T.t_is_shelf sc #[4] #[12] fun f cdv A outer s H E hr=>?_
 exact ⟨_,(qAi (qBj (PXw.t (qJd (qCh (qB9 #[56])) (qFq (qCh (qB9 (qBw (qG5 rfl) rfl T.b_all boot_all (qAa (qEa rfl sc.nd (qBo (qAd qHf) ["thing"] rfl rfl #[19]) (qDg (qAb 0)) (fun _ _ _ _ _=>qDm) (fun _ _ _ _ _=>(PX.d (qAl (qXg T) #[5] rfl (qAa (qAb 0) qAh) rfl)))) qAh))))))) (qAk (qAt (PXd.w qFs))) qA7)
  (qAk (qAt (qAl (qH6 T) #[5] rfl (qAa (qAl (qHv T) #[5] rfl (qAa (qAb 0) qAh) rfl) qAh) rfl))))⟩
def qJ0:qAj→Rs Fl:=
 (qBd (ifF (qHk (qAg (qAs qBs 3 (qAc #[1] (qAc #[23] (qAc #[23] qA2)))) W.tru)) (qB8 (toW (cst (.bl false)))) qC8)
  (qB8 (qKf (orW (qAn isW (qAn ixW #[1] #[7]) #[21]) (qAs qCd 3 (qAc (qAn ixW #[1] #[7]) (qAc #[7] (qAc (qAn qa7 (var 1) #[13]) qA2))))) (qAs qHn 1 (qAc (qAn ixW #[1] #[13]) qA2)))))
def qFv:List W→Rs W:=mir ["thing","place"] qJ0
theorem qNp:FnScope ["thing","place"] ["thing","place"] (qAd qI5):=by norm_cast
theorem qQw (T:Txt w K mg):FnD P w K mg base 7 "is_loader" 2 qFv:=by
 have sc:=qNp
 refine qBm (k:=6) (h:=qJ0) (ps:=["thing","place"]) T.t_is_loader sc #[4] #[12] fun f cdv A outer s H E hr=>?_
 exact ⟨_,(qAi (qBj (qCh (qB9 #[56])) (qAk (qAt (PXd.w qFs))) qA7)
  (qAk (qAt (qDq (px_or (qCw qJm #[28] (PXd.w qB2) (qA6 _)) (qEj (qAl (qF1 T) #[5] rfl (qAa #[28] (qAa #[3] (qAa (qBk qMm (qAb 1) #[3]) qAh))) rfl))) (qEj (qAl (qT4 T) #[5] rfl (qAa #[28] qAh) rfl))))))⟩
def qO1:qAj→Rs Fl:=
 (qBd (ifF (qHk (qAg (qAs qBs 3 (qAc #[1] (qAc #[13] (qAc #[39] qA2)))) W.tru)) noF qC8)
  (qBd (qH5 (qAg (qF7 0) qUa) (qa6 (qIh (qFb 1) (qIh (qFb 2) nilT)) 2) (ifF (qHk (qAg (qAs qFv 2 (qAc (var 2) (qAc (var 1) qA2))) W.tru)) noF qC8))
  (qB8 (qP1 0))))
def qJs:List W→Rs W:=mir ["world","place","loader"] qO1
theorem qTb:FnScope ["world","place","loader"] ["world"] (qAd qN0):=by norm_cast
theorem qXh (T:Txt w K mg):FnD P w K mg base 8 "checked" 1 qJs:=by
 have sc:=qTb
 refine qBm (k:=7) (h:=qO1) (ps:=["world"]) T.t_checked sc #[4] #[12] fun f cdv A outer s H E hr=>?_
 exact ⟨_,(qAi (qBj (qCh (qB9 #[56])) (qAk qOa) qA7)
  (qAi (qCs PassesOwn.never rfl (qJf 0 rfl T.b_enumerate) (qJg 2 rfl (qCl (qBv 1 sc.nd) (qCl (qBv 2 sc.nd) qGf))) (qAk (qBj (qCh (qB9 (qAl (qQw T) #[5] rfl (qAa (qAb 2) (qAa (qAb 1) qAh)) rfl))) (qAk qOa) qA7)))
  (qAk (qEb 0))))⟩
def qOx:qAj→Rs Fl:=
 (qBd (qCk 2 (qAg qB4 qBt))
  (qBd (qCk 3 (var 1))
  (qBd (qCj (qAg (qAn qDj (var 3) #[21]) W.bool) (qBd (qKr 2 (qBg (var 3)))
  (qCk 3 (qAn ixW (qAn ixW #[1] (var 3)) #[7]))) 1000)
  (qB8 (qAg (var 2) revL)))))
def qGm:List W→Rs W:=mir ["world","loader","line","at"] qOx
theorem qS7:FnScope ["world","loader","line","at"] ["world","loader"] (qAd qNx):=by norm_cast
theorem qXf (T:Txt w K mg):FnD P w K mg base 1 "line_to" 2 qGm:=by
 have sc:=qS7
 refine qBm (k:=0) (h:=qOx) (ps:=["world","loader"]) T.t_line_to sc #[4] #[12] fun f cdv A outer s H E hr=>?_
 exact ⟨_,(qAi (qA0 2 sc.nd (qBq qAr))
  (qAi (qA0 3 sc.nd (qAb 1))
  (qAi (qGg 1000 PassesOwn.never (qAz qC5 (qAb 3) (PXd.w qB2) (qA6 _)) (qAi (qCf 2 (PX.d (qAb 3)))
  (qAk (qA0 3 sc.nd (qA4 (qA4 (qAb 0) (qAb 3) #[11]) #[3] #[11])))))
  (qAk (qAt (qTl rfl rfl T.b_list rfl T.b_reversed (qAb 2)))))))⟩
def qW3:qAj→Rs Fl:=
 (qBd (qH5 (qAg (qAs qGm 2 #[29]) W.walkN) (qFb 3) (ifF (qAg (qAn inW (var 2) (qAs qCy 1 (qAc (qAn ixW (qAn ixW #[1] (var 3)) #[13]) qA2))) W.bool) (qB8 (toW (qAg (qAq (qBg (var 3)) (qAq (qBg (var 2)) qB4)) qBy))) qC8))
  (qB8 #[21]))
def qEr:List W→Rs W:=mir ["world","loader","name","number"] qW3
theorem qYt:FnScope ["world","loader","name","number"] ["world","loader","name"] (qAd qU4):=by norm_cast
theorem qQx (T:Txt w K mg):FnD P w K mg base 2 "found" 3 qEr:=by
 have sc:=qYt
 refine qBm (k:=1) (h:=qW3) (ps:=["world","loader","name"]) T.t_found sc #[4] #[12] fun f cdv A outer s H E hr=>?_
 exact ⟨_,(qAi (qCs PassesOwn.never rfl (qFr (qAl (qXf T) #[5] rfl #[44] rfl)) (qBv 3 sc.nd) (qAk (qBj (qAz (qLb (qac hr)) (qAb 2) (qAl (qHv T) #[5] rfl (qAa (qA4 (qA4 (qAb 0) (qAb 3) #[11]) #[3] #[11]) qAh) rfl) (by with_unfolding_all rfl)) (qAk (qAt (PXd.w (qBr (qAe (PX.d (qAb 3)) (qAe (PX.d (qAb 2)) qAr)))))) qA7)))
  (qAk (qAt (PXd.w qB2))))⟩
def qLk:qAj→Rs Fl:=
 (qB8 (qAn eqW (qAs qEr 3 (qAc #[1] (qAc (qAn ixW (var 1) #[7]) (qAc (qAn ixW (var 1) #[13]) qA2)))) (var 1)))
def qD1:List W→Rs W:=mir ["world","thing"] qLk
theorem qQe:FnScope ["world","thing"] ["world","thing"] (qAd qKw):=by norm_cast
theorem qT5 (T:Txt w K mg):FnD P w K mg base 3 "is_found" 2 qD1:=by
 have sc:=qQe
 refine qBm (k:=2) (h:=qLk) (ps:=["world","thing"]) T.t_is_found sc #[4] #[12] fun f cdv A outer s H E hr=>?_
 exact ⟨_,(qAk (qAt (qCw (qCa (qGv hr)) (qAl (qQx T) #[5] rfl (qAa (qAb 0) (qAa #[37] (qAa #[37] qAh))) rfl) (qAb 1) (qA6 _))))⟩
def qLl:qAj→Rs Fl:=
 (qBd (ifF (orB (qHk (qAg (qAs qBs 3 (qAc (var 1) (qAc #[23] (qAc #[23] qA2)))) W.tru)) (qHk (qAg (qAs qCd 3 (qAc (qAn ixW (var 1) #[7]) (qAc #[7] (qAc (qAn qa7 (qAg (qAc #[1] qA2) qIs) #[13]) qA2)))) W.tru))) (qB8 (toW (cst (.bl false)))) qC8)
  (qB8 (qKf (qAs qC9 1 (qAc (qAn ixW (var 1) #[13]) qA2)) (qAs qD1 2 #[29]))))
def qD3:List W→Rs W:=mir ["world","thing"] qLl
theorem qQf:FnScope ["world","thing"] ["world","thing"] (qAd qKx):=by norm_cast
theorem qT6 (T:Txt w K mg):FnD P w K mg base 4 "is_class" 2 qD3:=by
 have sc:=qQf
 refine qBm (k:=3) (h:=qLl) (ps:=["world","thing"]) T.t_is_class sc #[4] #[12] fun f cdv A outer s H E hr=>?_
 exact ⟨_,(qAi (qBj (PXw.t (qJd (qCh (qB9 (qAl (qCr T) #[5] rfl (qAa (qAb 1) (qAa #[3] (qAa #[3] qAh))) rfl))) (qFq (qCh (qB9 (qAl (qF1 T) #[5] rfl (qAa #[37] (qAa #[3] (qAa (qBk qMm #[53] #[3]) qAh))) rfl)))))) (qAk (qAt (PXd.w qFs))) qA7)
  (qAk (qAt (qDq (qAl (qEy T) #[5] rfl (qAa #[37] qAh) rfl) (qEj (qAl (qT5 T) #[5] rfl #[44] rfl))))))⟩
def qLm:qAj→Rs Fl:=
 (qBd (ifF (qHk (qAg (qAs (fun ws=>(qD3 ws).nox) 2 #[29]) W.tru)) (fun _=>.ex ⟨0,.str "NoClass"⟩) qC8)
  (qB8 (qP1 1)))
def qE8:List W→Rs W:=mir ["world","thing"] qLm
theorem qQg:FnScope ["world","thing"] ["world","thing"] (qAd qKy):=by norm_cast
theorem qT7 (T:Txt w K mg):FnX P w K mg base 5 "class_in" 2 qE8:=by
 have sc:=qQg
 refine qW7 (k:=4) (h:=qLm) (ps:=["world","thing"]) T.t_class_in sc #[4] #[12] fun f cdv A outer s H E hr=>?_
 exact ⟨_,(qAi (qBj (qCh (qB9 (qMh (qT6 T) #[5] rfl #[44] rfl))) (qAk (qTm qRa rfl T.c_NoClass qbe)) qA7)
  (qAk (qEb 1)))⟩
def qEv:qAj→Rs Fl:=
 (qB8 (qAs qE8 2 (qAc (qAs (fun ws=>(qJs ws).nox) 1 (qAc #[1] qA2)) (qAc (var 1) qA2))))
def qBn:List W→Rs W:=mir ["world","thing"] qEv
theorem qIc:FnScope ["world","thing"] ["world","thing"] (qAd qEq):=by norm_cast
theorem qEz (T:Txt w K mg):FnX P w K mg base 9 "checked_class" 2 qBn:=by
 have sc:=qIc
 refine qW7 (k:=8) (h:=qEv) (ps:=["world","thing"]) T.t_checked_class sc #[4] #[12] fun f cdv A outer s H E hr=>?_
 exact ⟨_,(qAk (qAt (qMg qRa (qT7 T) #[5] rfl (qAa (qMh (qXh T) #[5] rfl (qAa (qAb 0) qAh) rfl) (qAa (qAb 1) qAh)) rfl)))⟩
def qO0:qAj→Rs Fl:=
 (qBd (qCk 2 (qAn ixW (qAn ixW #[1] (qAn ixW (var 1) #[7])) #[13]))
  (qB8 (qAn ixW (var 2) (qWy (qAs qCy 1 (qAc (var 2) qA2)) (qBg (qAn ixW (var 1) #[13]))))))
def qD4:List W→Rs W:=mir ["world","thing","shelf"] qO0
theorem qTa:FnScope ["world","thing","shelf"] ["world","thing"] (qAd qNz):=by norm_cast
theorem qJ6 (T:Txt w K mg):FnD P w K mg base 2 "file_of" 2 qD4:=by
 have sc:=qTa
 refine qBm (k:=1) (h:=qO0) (ps:=["world","thing"]) T.t_file_of sc #[4] #[12] fun f cdv A outer s H E hr=>?_
 exact ⟨_,(qAi (qA0 2 sc.nd (qA4 (qA4 (qAb 0) #[37] #[11]) #[3] #[11]))
  (qAk (qAt (qA4 (qAb 2) (qVl (qac hr) (qAl (qHv T) #[5] rfl (qAa (qAb 2) qAh) rfl) (PX.d #[37])) #[11]))))⟩
def qOw (f:Addr)(vw:V)(gl:qAj→Rs W):qAj→Rs Fl:=
 (qBd (qbt 2 (qBg #[1]) (cst (.bl true)))
  (qBd (qCk 3 (qAg (qAq (qBg #[1]) qB4) qBt))
  (qBd (qCj (qAg (var 3) W.tru) (qBd (popF 4 3)
  (qH5 (qAg (qeb 1 f vw gl (var 4)) W.walkN) (qFb 5) (ifF (qHk (inJ 2 (qBg (var 5)))) (qBd (qYc 2 (cst (.bl true)) (qBg (var 5)))
  (qKr 3 (qBg (var 5)))) qC8))) 1000)
  (qB8 (qUt 2)))))
def qD0 (f:Addr)(vw:V)(gl:qAj→Rs W):List W→Rs W:=mir ["start","leads","seen","waiting","at","thing"] (qOw f vw gl)
theorem qS6:FnScope ["start","leads","seen","waiting","at","thing"] ["start","leads"] (qAd qNw):=by norm_cast
theorem qXe (T:Txt w K mg)(kl:Nat):FnC P w K mg base (kl + 2) kl "reached" qD0:=by
 have sc:=qS6
 refine fnC_of (k:=kl + 1) (h:=qOw) (ps:=["start","leads"]) T.t_reached sc rfl #[12] fun fa f vw gl cdv A outer s H hr C=>?_
 exact ⟨_,(qAi (qVp 2 sc.nd (hu1 hr) (PX.d (qAb 0)) qFs)
  (qAi (qA0 3 sc.nd (qBq (qAe (PX.d (qAb 0)) qAr)))
  (qAi (qGg 1000 PassesOwn.never (qB9 (qAb 3)) (qAi (qcw 4 3 sc.nd)
  (qAk (qCs PassesOwn.never rfl (qFr (px_clo 1 C rfl hr (qAb 4))) (qBv 5 sc.nd) (qAk (qBj (qTk 2 (hu1 hr) (PX.d (qAb 5))) (qAi (qMj 2 (hu1 hr) qFs (PX.d (qAb 5)))
  (qAk (qCf 3 (PX.d (qAb 5))))) qA7))))))
  (qAk (qAt (qY3 2 rfl rfl T.b_sorted))))))⟩
def qGw:qAj→Rs Fl:=
 (qBd (qCk 1 (qC2 (qAg (qAn ixW #[1] (toW (cst (.int 3)))) W.walk) (fun _=>.ok true) (qAg (qAq (qBg #[1]) (qAq (cst (.str "face")) qB4)) qBy)))
  (qB8 (ifW (qAg (qAn isW (qAn ixW #[1] #[23]) #[21]) W.bool) (qP1 1) (qAn qCp (qAg (qAq (qAg (qAq (qBg (qAn ixW #[1] #[23])) (qAq (cst (.str "class")) qB4)) qBy) qB4) qBt) (var 1)))))
def qDb:List W→Rs W:=mir ["file","faces"] qGw
theorem qKj:FnScope ["file","faces"] ["file"] (qAd qD9):=by norm_cast
theorem qMv (T:Txt w K mg):FnD P w K mg base 1 "names_above" 1 qDb:=by
 have sc:=qKj
 refine qBm (k:=0) (h:=qGw) (ps:=["file"]) T.t_names_above sc #[4] #[12] fun f cdv A outer s H E hr=>?_
 exact ⟨_,(qAi (qMk 1 rfl sc.nd (qBo (qAd qD9) ["file","faces"] rfl rfl #[19]) (qDg #[28]) (fun _ _ _ _ _=>qDm) (fun _ _ _ _ _=>(qBr (qAe (PX.d (qAb 0)) (qAe qBi qAr)))))
  (qAk (qRx (qbb (qAz qJm #[28] (PXd.w qB2) (qA6 _)) (qVg 1) (qba (qBk qA1 (qBq (qAe (qBr (qAe (PX.d #[28]) (qAe qBi qAr))) qAr)) (qAb 1)))))))⟩
def qCe (M_fault_above:List W→KsT→Rs (D×KsT)):qAj→Rs Fl:=
 (qBd (qCk 6 (qAs qEr 3 (qAc #[1] (qAc (var 1) (qAc (var 2) qA2)))))
  (qBd (ifF (qAg (qAn isW (var 6) #[21]) W.bool) (qTj (qAg (qAq (cst (.str "lacks")) (qAq (qBg (var 2)) qB4)) qBy)) qC8)
  (qBd (ifF (qAg (qAn neW (qAn ixW (qAs qD4 2 (qAc #[1] (qAc (var 6) qA2))) #[7]) (var 3)) W.bool) (qTj (qAg (qAq (cst (.str "kind")) (qAq (qBg (var 2)) qB4)) qBy)) qC8)
  (qBd (ifF (qAg (qAn inW (var 6) (var 4)) W.bool) (qTj (qAg (qAq (cst (.str "ring")) (qAq (qBg (var 2)) qB4)) qBy)) qC8)
  (retJ 5 (ifJ (inJ 5 (qBg (var 6))) 5 (cst .non) (qKq M_fault_above 3 5 (qAc #[1] (qAc (var 6) (qAc (var 4) qA2))))))))))
theorem qIb:FnScope ["world","loader","name","kind","below","sound","thing"] ["world","loader","name","kind","below","sound"] (qAd qEp):=by norm_cast
theorem qIe (T:Txt w K mg){k:Nat}(hk:2≤k){M:List W→KsT→Rs (D×KsT)}(F_fault_above:FnL P w K mg base k "fault_above" 3 M):FnL P w K mg base (k + 1) "fault_of_name" 5 (qbh ["world","loader","name","kind","below","sound","thing"] (qCe M) 5):=by
 have sc:=qIb
 refine qbl (k:=k) (h:=qCe M) (ps:=["world","loader","name","kind","below","sound"]) T.t_fault_of_name sc #[4] rfl #[12] fun f cdv A outer s H E hr=>?_
 exact ⟨_,by decide,(qAi (qA0 6 sc.nd (qAl (qQx T) (hr.mono #[0]) rfl (qAa (qAb 0) (qAa (qAb 1) (qAa (qAb 2) qAh))) rfl))
  (qAi (qBj (qAz qJm (qAb 6) (PXd.w qB2) (qA6 _)) (qAk (qGh (qBr (qAe qBi (qAe (PX.d (qAb 2)) qAr))))) qA7)
  (qAi (qBj (qAz (qK8 (qGv hr)) (qA4 (qAl (qJ6 T) (hr.mono #[0]) rfl (qAa (qAb 0) (qAa (qAb 6) qAh)) rfl) #[3] #[11]) (qAb 3) (qA6 _)) (qAk (qGh (qBr (qAe qBi (qAe (PX.d (qAb 2)) qAr))))) qA7)
  (qAi (qBj (qAz (qLb (qac hr)) (qAb 6) (qAb 4) (by with_unfolding_all rfl)) (qAk (qGh (qBr (qAe qBi (qAe (PX.d (qAb 2)) qAr))))) qA7)
  (qAk (qZc (pxl_if (qcl 5 (hu1 hr) (PX.d (qAb 6))) qB2 (qRu F_fault_above (hr.mono #[0]) rfl (qC7 (qAb 0) (qC7 (qAb 6) (qC7 (qAb 4) (qN7 5))))))))))))⟩
def qDe (M_fault_of_name:List W→KsT→Rs (D×KsT)):qAj→Rs Fl:=
 (qBd (qH5 (qAg (qAs qDb 1 (qAc (qAs qD4 2 #[29]) qA2)) W.walkN) (qa6 (qIh (qFb 4) (qIh (qFb 5) nilT)) 2) (qBd (qcb 6 3 (qKq M_fault_of_name 5 3 #[62]))
  (ifF (qAg (qAn qDj (var 6) #[21]) W.bool) (qTj (qBg (var 6))) qC8)))
  (qBd (qYc 3 (cst (.bl true)) (qBg (var 1)))
  (qTj (cst .non))))
theorem qKl:FnScope ["world","thing","below","sound","name","kind","why"] ["world","thing","below","sound"] (qAd qGc):=by norm_cast
theorem qKo (T:Txt w K mg){k:Nat}(hk:2≤k){M:List W→KsT→Rs (D×KsT)}(F_fault_of_name:FnL P w K mg base k "fault_of_name" 5 M):FnL P w K mg base (k + 1) "fault_above" 3 (qbh ["world","thing","below","sound","name","kind","why"] (qDe M) 3):=by
 have sc:=qKl
 refine qbl (k:=k) (h:=qDe M) (ps:=["world","thing","below","sound"]) T.t_fault_above sc #[4] rfl #[12] fun f cdv A outer s H E hr=>?_
 exact ⟨_,by decide,(qAi (qCs PassesOwn.never rfl (qFr (qAl (qMv T) (hr.mono #[0]) rfl (qAa (qAl (qJ6 T) (hr.mono #[0]) rfl #[44] rfl) qAh) rfl)) (qJg 2 rfl (qCl (qBv 4 sc.nd) (qCl (qBv 5 sc.nd) qGf))) (qAi (qZb 6 3 sc.nd (qRu F_fault_of_name (hr.mono #[0]) rfl (qC7 (qAb 0) (qC7 #[37] (qC7 (qAb 4) (qC7 (qAb 5) (qC7 (qBk qA1 (qAb 2) (qBq (qAe (PX.d (qAb 1)) qAr))) (qN7 3))))))))
  (qAk (qBj (qAz qC5 (qAb 6) (PXd.w qB2) (qA6 _)) (qAk (qGh (PX.d (qAb 6)))) qA7))))
  (qAi (qMj 3 (hu1 hr) qFs (PX.d (qAb 1)))
  (qAk (qGh qB2))))⟩
def qBf:Nat→List W→KsT→Rs (D×KsT)
 | 0=>fun _ _=>.no
 | n + 1=>qbh ["world","thing","below","sound","name","kind","why"] (qDe (qbh ["world","loader","name","kind","below","sound","thing"] (qCe (qBf n)) 5)) 3
theorem qFi (T:Txt w K mg):∀ n:Nat,FnL P w K mg base (2 + 2 * n) "fault_above" 3 (qBf n)
 | 0=>fnL_no (ps:=["world","thing","below","sound"]) T.t_fault_above #[12]
 | n + 1=>qKo T (k:=2 + 2 * n + 1) #[0] (qIe T (k:=2 + 2 * n) #[0] (qFi T n))
theorem qMx (T:Txt w K mg)(n:Nat):FnL P w K mg base (2 + 2 * n) "fault_above" 3 (qBf n):=qFi T n
def qW4:qAj→Rs Fl:=
 (qB8 (toW (qec (qBf 20) 3 (qAc #[1] (qAc (var 1) (qAc (qAg qB4 qBt) qA2))))))
def qQp:List W→Rs W:=mir ["world","thing"] qW4
theorem qYu:FnScope ["world","thing"] ["world","thing"] (qAd qU5):=by norm_cast
theorem qd1 (T:Txt w K mg):FnD P w K mg base 43 "fault" 2 qQp:=by
 have sc:=qYu
 refine qBm (k:=42) (h:=qW4) (ps:=["world","thing"]) T.t_fault sc #[4] #[12] fun f cdv A outer s H E hr=>?_
 exact ⟨_,(qAk (qAt (PXd.w (qY7 (qMx T 20) #[5] rfl (qJh (qAb 0) (qJh (qAb 1) (qJh (qBq qAr) qVi)))))))⟩
def qLg:qAj→Rs Fl:=
 (qBd (qCk 2 (qAs qD4 2 #[29]))
  (qBd (qCk 3 (qAg (qAc (qAn ixW (var 2) #[39]) qA2) lstA))
  (qB8 (ifW (qAg (qAn isW (qAn ixW (var 2) #[23]) #[21]) W.bool) (qP1 3) (qAn qCp (qAg (qAq (qAg (qAq (cst (.str "need")) (qAq (qBg (qAn ixW (var 2) #[23])) qB4)) qBy) qB4) qBt) (var 3))))))
def qE7:List W→Rs W:=mir ["world","thing","file","rows"] qLg
theorem qQa:FnScope ["world","thing","file","rows"] ["world","thing"] (qAd qKu):=by norm_cast
theorem qT3 (T:Txt w K mg):FnD P w K mg base 3 "steps_of" 2 qE7:=by
 have sc:=qQa
 refine qBm (k:=2) (h:=qLg) (ps:=["world","thing"]) T.t_steps_of sc #[4] #[12] fun f cdv A outer s H E hr=>?_
 exact ⟨_,(qAi (qA0 2 sc.nd (qAl (qJ6 T) #[5] rfl #[44] rfl))
  (qAi (qA0 3 sc.nd (qC4 qLw rfl T.b_list boot_list (qAa (qA4 (qAb 2) #[3] #[11]) qAh)))
  (qAk (qRx (qbb (qAz qJm (qA4 (qAb 2) #[3] #[11]) (PXd.w qB2) (qA6 _)) (qVg 3) (qba (qBk qA1 (qBq (qAe (qBr (qAe qBi (qAe (PX.d (qA4 (qAb 2) #[3] #[11])) qAr))) qAr)) (qAb 3))))))))⟩
def qGx:qAj→Rs Fl:=
 (qBd (ifF (qAg (qAn eqW (qAn ixW #[1] #[7]) (toW (cst (.str "need")))) W.bool) (qB8 (qAn ixW #[1] #[13])) qC8)
  (qB8 (ifW (qAg (qAn eqW (qAn ixW #[1] #[7]) (toW (cst (.str "read")))) W.bool) (qAn ixW #[1] #[23]) #[21])))
def qCt:List W→Rs W:=mir ["row"] qGx
theorem qKk:FnScope ["row"] ["row"] (qAd qGb):=by norm_cast
theorem qMw (T:Txt w K mg):FnD P w K mg base 1 "name_needed" 1 qCt:=by
 have sc:=qKk
 refine qBm (k:=0) (h:=qGx) (ps:=["row"]) T.t_name_needed sc #[4] #[12] fun f cdv A outer s H E hr=>?_
 exact ⟨_,(qAi (qBj (qAz (qCa (qGv hr)) #[28] (PXd.w qBi) (qA6 _)) (qAk (qAt #[28])) qA7)
  (qAk (qAt (px_if (qAz (qCa (qGv hr)) #[28] (PXd.w qBi) (qA6 _)) #[28] (PXd.w qB2)))))⟩
def qGy:qAj→Rs Fl:=
 (qBd (ifF (qAg (qAn qDj (qAs qQp 2 #[29]) #[21]) W.bool) (qB8 (qAg qB4 qBt)) qC8)
  (qBd (dnewT 2)
  (qBd (qH5 (qAg (qAs qE7 2 #[29]) W.walkN) (qFb 3) (qBd (qCk 4 (qAs qCt 1 (qAc (var 3) qA2)))
  (qBd (qCk 5 (ifW (qAg (qAn isW (var 4) #[21]) W.bool) #[21] (qAs qEr 3 (qAc #[1] (qAc (qAn ixW (var 1) #[7]) (qAc (var 4) qA2))))))
  (ifF (qAg (qAn qDj (var 5) #[21]) W.bool) (qYc 2 (cst (.bl true)) (qBg (var 5))) qC8))))
  (qB8 (qWk 2)))))
def qDc:List W→Rs W:=mir ["world","thing","told","row","name","other"] qGy
theorem qKm:FnScope ["world","thing","told","row","name","other"] ["world","thing"] (qAd qGd):=by norm_cast
theorem qG3 (T:Txt w K mg):FnD P w K mg base 44 "arrows_from" 2 qDc:=by
 have sc:=qKm
 refine qBm (k:=43) (h:=qGy) (ps:=["world","thing"]) T.t_arrows_from sc #[4] #[12] fun f cdv A outer s H E hr=>?_
 exact ⟨_,(qAi (qBj (qAz qC5 (qAl (qd1 T) #[5] rfl #[44] rfl) (PXd.w qB2) (qA6 _)) (qAk (qAt (qBq qAr))) qA7)
  (qAi (qVo 2 sc.nd)
  (qAi (qCs PassesOwn.never rfl (qFr (qAl (qT3 T) #[5] rfl #[44] rfl)) (qBv 3 sc.nd) (qAi (qA0 4 sc.nd (qAl (qMw T) #[5] rfl (qAa (qAb 3) qAh) rfl))
  (qAi (qA0 5 sc.nd (px_if (qAz qJm (qAb 4) (PXd.w qB2) (qA6 _)) (PXd.w qB2) (qAl (qQx T) #[5] rfl (qAa (qAb 0) (qAa #[37] (qAa (qAb 4) qAh))) rfl)))
  (qAk (qBj (qAz qC5 (qAb 5) (PXd.w qB2) (qA6 _)) (qAk (qMj 2 (hu1 hr) qFs (PX.d (qAb 5)))) qA7)))))
  (qAk (qAt (qVk 2 rfl rfl T.b_list))))))⟩
def qSc:qAj→Rs Fl:=
 (qB8 (qAs (fun ws=>(qDc ws).nox) 2 (qAc #[1] (qAc (qAs qBn 2 #[29]) qA2))))
def qGo:List W→Rs W:=mir ["world","thing"] qSc
theorem qUy:FnScope ["world","thing"] ["world","thing"] (qAd qRi):=by norm_cast
theorem qSo (T:Txt w K mg):FnX P w K mg base 45 "arrows" 2 qGo:=by
 have sc:=qUy
 refine qW7 (k:=44) (h:=qSc) (ps:=["world","thing"]) T.t_arrows sc #[4] #[12] fun f cdv A outer s H E hr=>?_
 exact ⟨_,(qAk (qAt (qMh (qG3 T) #[5] rfl (qAa (qAb 0) (qAa (qMg qRa (qEz T) #[5] rfl #[44] rfl) qAh)) rfl)))⟩
def qEw:qAj→Rs W:=
 (qAs qDc 2 (qAc (var 1) (qAc #[1] qA2)))
def qSa:qAj→Rs Fl:=
 (qB8 (qM3 0 qD0 qEw (qAs qBn 2 #[29])))
def qGl:List W→Rs W:=mir ["world","thing"] qSa
theorem qUw:FnScope ["world","thing"] ["world","thing"] (qAd qRg):=by norm_cast
theorem qSn (T:Txt w K mg):FnX P w K mg base 47 "needed" 2 qGl:=by
 have sc:=qUw
 refine qdz (k:=46) (h:=qSa) (ps:=["world","thing"]) T.t_needed sc #[4] #[12] fun c Pt ht f A outer s H E hr=>?_
 exact ⟨_,(qAk (qAt (qQl (kl:=44) (z:="needed") (xl:="at") (y:="world") 0 (qXe T 44) #[5] rfl (qMg qRa (qEz T) #[5] rfl #[44] rfl) ⟨qQt (by kernel_rfl),fun _ _ _ _ _=>rfl,fun f cdv cl A outer s H hr=>(qAl (qG3 T) #[5] rfl (qAa (qAb 1) (qAa (qAb 0) qAh)) rfl)⟩ #[4] ht rfl rfl rfl rfl rfl rfl rfl rfl rfl rfl)))⟩
def qJ5:qAj→Rs Fl:=
 (qBd (ifF (qAg (qAn ltW (var 1) (qAg (qAc #[1] qA2) qIs)) W.bool) (qB8 (qAn ixW #[1] (var 1))) qC8)
  (qBd (ifF (qAg (qAn eqW #[1] (qAg qB4 qBt)) W.bool) (qB8 #[7]) qC8)
  (qB8 (qAn qCp (qAn qR2 (qAn ixW #[1] (qAn qde (var 1) (qAg (qAc #[1] qA2) qIs))) (toW (cst (.int 31)))) (var 1)))))
def qFy:List W→Rs W:=mir ["_law_script","_law_k"] qJ5
theorem qNv:FnScope ["_law_script","_law_k"] ["_law_script","_law_k"] (qAd qI9):=by norm_cast
theorem qQ0 (T:Txt w K mg):FnD P w K mg base 1 "_law_cell_at" 2 qFy:=by
 have sc:=qNv
 refine qBm (k:=0) (h:=qJ5) (ps:=["_law_script","_law_k"]) T.t_L_cell_at sc #[4] #[12] fun f cdv A outer s H E hr=>?_
 exact ⟨_,(qAi (qBj (qAz qK9 (qAb 1) #[53] (qA6 _)) (qAk (qAt (qA4 (qAb 0) (qAb 1) #[11]))) qA7)
  (qAi (qBj (qAz (qCa (qGv hr)) (qAb 0) (qBq qAr) (qA6 _)) (qAk (qAt #[3])) qA7)
  (qAk (qAt (qBk qA1 (qBk qDx (qA4 (qAb 0) (qBk qMn (qAb 1) #[53]) #[11]) #[3]) (qAb 1))))))⟩
def qO6:qAj→Rs Fl:=
 (qBd (qCk 3 (qAn qde (qAn qR2 (qAn qCp (qAn qCp (qAs qFy 2 #[29]) (qAn qR2 (toW (cst (.int 7919))) (var 1))) #[13]) (toW (cst (.int 48271)))) (toW (cst (.int 2147483647)))))
  (qB8 (qAn qde (qAn qde (qAn qCp (qAn qCp (qAn qR2 (var 3) (var 3)) (qAn qR2 (toW (cst (.int 7))) (var 3))) (var 1)) (toW (cst (.int 2147483629)))) (var 2))))
def qA8:List W→Rs W:=mir ["_law_script","_law_k","_law_many","_law_drawn"] qO6
theorem qTg:FnScope ["_law_script","_law_k","_law_many","_law_drawn"] ["_law_script","_law_k","_law_many"] (qAd qN4):=by norm_cast
theorem qBa (T:Txt w K mg):FnD P w K mg base 2 "_law_mixed" 3 qA8:=by
 have sc:=qTg
 refine qBm (k:=1) (h:=qO6) (ps:=["_law_script","_law_k","_law_many"]) T.t_L_mixed sc #[4] #[12] fun f cdv A outer s H E hr=>?_
 exact ⟨_,(qAi (qA0 3 sc.nd (qBk qMn (qBk qDx (qBk qA1 (qBk qA1 (qAl (qQ0 T) #[5] rfl #[44] rfl) (qBk qDx #[3] (qAb 1))) #[3]) #[3]) #[3]))
  (qAk (qAt (qBk qMn (qBk qMn (qBk qA1 (qBk qA1 (qBk qDx (qAb 3) (qAb 3)) (qBk qDx #[3] (qAb 3))) (qAb 1)) #[3]) (qAb 2)))))⟩
def qSd:qAj→Rs Fl:=
 (qBd (qCk 2 (toW (cst (.str ""))))
  (qBd (qH5 (qAg (qAc (qAn ixW (qAg (qAq (cst (.int 1)) (qAq (cst (.int 2)) (qAq (cst (.int 3)) (qAq (cst (.int 6)) (qAq (cst (.int 1)) (qAq (cst (.int 4)) qB4)))))) qBt) (qAs qA8 3 (qAc #[1] (qAc (var 1) (qAc (toW (cst (.int 6))) qA2))))) qA2) qYb) (qFb 3) (qCk 2 (qAn qCp (var 2) (qAn ixW (toW (cst (.str "abcdefghijklmnopqrstuvwxyz"))) (qAs qA8 3 (qAc #[1] (qAc (qAn qCp (qAn qCp (var 1) #[13]) (var 3)) (qAc (toW (cst (.int 26))) qA2))))))))
  (qB8 (qP1 2))))
def qIp:List W→Rs W:=mir ["_law_script","_law_at","_law_made","_law_k"] qSd
theorem qUz:FnScope ["_law_script","_law_at","_law_made","_law_k"] ["_law_script","_law_at"] (qAd qRj):=by norm_cast
theorem qal (T:Txt w K mg):FnD P w K mg base 3 "_law_word" 2 qIp:=by
 have sc:=qUz
 refine qBm (k:=2) (h:=qSd) (ps:=["_law_script","_law_at"]) T.t_L_word sc #[4] #[12] fun f cdv A outer s H E hr=>?_
 exact ⟨_,(qAi (qA0 2 sc.nd (PXd.w qBi))
  (qAi (qCs PassesOwn.never rfl (qJe rfl T.b_range (qAa (qA4 (qBq (qAe qAf (qAe qAf (qAe qAf (qAe qAf (qAe qAf (qAe qAf qAr))))))) (qAl (qBa T) #[5] rfl (qAa (qAb 0) (qAa (qAb 1) (qAa #[3] qAh))) rfl) #[11]) qAh)) (qBv 3 sc.nd) (qAk (qA0 2 sc.nd (qBk qA1 (qAb 2) (qA4 (PXd.w qBi) (qAl (qBa T) #[5] rfl (qAa (qAb 0) (qAa (qBk qA1 (qBk qA1 (qAb 1) #[3]) (qAb 3)) (qAa #[3] qAh))) rfl) #[11])))))
  (qAk (qEb 2))))⟩
def qO5:qAj→Rs Fl:=
 (qBd (dnewF 2)
  (qBd (qH5 (qAg (qAc #[39] qA2) qYb) (qFb 3) (qXt 2 (cst (.bl true)) (qBg (qAs qIp 2 (qAc #[1] (qAc (qAn qCp (var 1) (qAn qR2 (toW (cst (.int 8))) (var 3))) qA2))))))
  (qB8 (qWl 2))))
def qGr:List W→Rs W:=mir ["_law_script","_law_at","_law_found","_law_k"] qO5
theorem qTf:FnScope ["_law_script","_law_at","_law_found","_law_k"] ["_law_script","_law_at"] (qAd qN3):=by norm_cast
theorem qXl (T:Txt w K mg):FnD P w K mg base 4 "_law_names" 2 qGr:=by
 have sc:=qTf
 refine qBm (k:=3) (h:=qO5) (ps:=["_law_script","_law_at"]) T.t_L_names sc #[4] #[12] fun f cdv A outer s H E hr=>?_
 exact ⟨_,(qAi (qZf 2 sc.nd)
  (qAi (qCs PassesOwn.never rfl (qJe rfl T.b_range (qAa #[3] qAh)) (qBv 3 sc.nd) (qAk (qZe 2 (hu1 hr) qFs (PX.d (qAl (qal T) #[5] rfl (qAa (qAb 0) (qAa (qBk qA1 (qAb 1) (qBk qDx #[3] (qAb 3))) qAh)) rfl)))))
  (qAk (qAt (qY4 2 rfl rfl T.b_list)))))⟩
def qW5:qAj→Rs Fl:=
 (qBd (qCk 3 (qAs qA8 3 (qAc #[1] (qAc (var 1) (qAc (toW (cst (.int 12))) qA2)))))
  (qBd (qCk 4 (qAn ixW (var 2) (qAs qA8 3 (qAc #[1] (qAc (qAn qCp (var 1) #[13]) (qAc (qAg (qAc (var 2) qA2) qIs) qA2))))))
  (qBd (qCk 5 (qAn ixW (qAg (qAq (cst (.str "f")) (qAq (cst (.str "g")) qB4)) qBt) (qAs qA8 3 (qAc #[1] (qAc (qAn qCp (var 1) #[23]) (qAc #[23] qA2))))))
  (qBd (ifF (qAg (qAn ltW (var 3) #[39]) W.bool) (qB8 (toW (qAg (qAq (cst (.str "put")) (qAq (qBg (var 5)) (qAq (qBg (qAs qA8 3 (qAc #[1] (qAc (qAn qCp (var 1) (toW (cst (.int 3)))) (qAc (toW (cst (.int 100))) qA2))))) qB4))) qBy))) qC8)
  (qBd (ifF (qAg (qAn ltW (var 3) (toW (cst (.int 7)))) W.bool) (qB8 (toW (qAg (qAq (cst (.str "read")) (qAq (qBg (var 5)) (qAq (qBg (var 4)) (qAq (qBg (qAn ixW (qAg (qAq (cst (.str "f")) (qAq (cst (.str "g")) qB4)) qBt) (qAs qA8 3 (qAc #[1] (qAc (qAn qCp (var 1) (toW (cst (.int 3)))) (qAc #[23] qA2)))))) qB4)))) qBy))) qC8)
  (qBd (ifF (qAg (qAn ltW (var 3) (toW (cst (.int 10)))) W.bool) (qB8 (toW (qAg (qAq (cst (.str "need")) (qAq (qBg (var 4)) qB4)) qBy))) qC8)
  (qB8 (toW (qAg (qAq (qBg (qAn ixW (qAg (qAq (cst (.str "note")) (qAq (cst (.str "note")) (qAq (cst (.str "fail")) qB4))) qBt) (qAs qA8 3 (qAc #[1] (qAc (qAn qCp (var 1) (toW (cst (.int 3)))) (qAc (toW (cst (.int 3))) qA2)))))) (qAq (qBg (qAn ixW (qAg (qAq (cst (.str "x")) (qAq (cst (.str "y")) qB4)) qBt) (qAs qA8 3 (qAc #[1] (qAc (qAn qCp (var 1) #[23]) (qAc #[23] qA2)))))) qB4)) qBy)))))))))
def qEu:List W→Rs W:=mir ["_law_script","_law_at","_law_names_here","_law_kind","_law_name","_law_field"] qW5
theorem qYv:FnScope ["_law_script","_law_at","_law_names_here","_law_kind","_law_name","_law_field"] ["_law_script","_law_at","_law_names_here"] (qAd qU6):=by norm_cast
theorem qXj (T:Txt w K mg):FnD P w K mg base 3 "_law_row" 3 qEu:=by
 have sc:=qYv
 refine qBm (k:=2) (h:=qW5) (ps:=["_law_script","_law_at","_law_names_here"]) T.t_L_row sc #[4] #[12] fun f cdv A outer s H E hr=>?_
 exact ⟨_,(qAi (qA0 3 sc.nd (qAl (qBa T) #[5] rfl (qAa (qAb 0) (qAa (qAb 1) (qAa #[3] qAh))) rfl))
  (qAi (qA0 4 sc.nd #[66])
  (qAi (qA0 5 sc.nd (qA4 (qBq (qAe qBi (qAe qBi qAr))) #[50] #[11]))
  (qAi (qBj (qAz qK9 (qAb 3) #[3] (qA6 _)) (qAk (qAt (PXd.w (qBr (qAe qBi (qAe (PX.d (qAb 5)) (qAe (PX.d #[50]) qAr))))))) qA7)
  (qAi (qBj (qAz qK9 (qAb 3) #[3] (qA6 _)) (qAk (qAt (PXd.w (qBr (qAe qBi (qAe (PX.d (qAb 5)) (qAe (PX.d (qAb 4)) (qAe (PX.d (qA4 (qBq (qAe qBi (qAe qBi qAr))) #[50] #[11])) qAr)))))))) qA7)
  (qAi (qBj (qAz qK9 (qAb 3) #[3] (qA6 _)) (qAk (qAt (PXd.w (qBr (qAe qBi (qAe (PX.d (qAb 4)) qAr)))))) qA7)
  (qAk (qAt (PXd.w (qBr (qAe (PX.d (qA4 (qBq (qAe qBi (qAe qBi (qAe qBi qAr)))) #[50] #[11])) (qAe (PX.d (qA4 (qBq (qAe qBi (qAe qBi qAr))) #[50] #[11])) qAr))))))))))))⟩
def qSg:qAj→Rs Fl:=
 (qBd (qCk 5 (toW (cst (.str "class"))))
  (qBd (ifF (qAg (qAn ixW (qAg (qAq (qBg (qAn eqW (var 3) (qAn ixW (var 2) (qAg #[13] negW)))) (qAq (qBg (qAn eqW (qAs qA8 3 (qAc #[1] (qAc (var 1) (qAc #[23] qA2)))) #[7])) qB4)) qBt) (qAg (qAc (qAn eqW (qAs qA8 3 (qAc #[1] (qAc (qAn qCp (var 1) #[13]) (qAc (toW (cst (.int 8))) qA2)))) #[7]) qA2) qYf)) W.tru) (qCk 5 (toW (cst (.str "face")))) qC8)
  (qBd (qCk 6 #[21])
  (qBd (ifF (qUg (qAg (qAn eqW (var 5) (toW (cst (.str "class")))) W.bool) (qAg (qAn eqW (qAs qA8 3 (qAc #[1] (qAc (qAn qCp (var 1) #[13]) (qAc (toW (cst (.int 3))) qA2)))) #[7]) W.bool)) (qCk 6 (qAn ixW (var 2) (qAs qA8 3 (qAc #[1] (qAc (qAn qCp (var 1) #[23]) (qAc (qAg (qAc (var 2) qA2) qIs) qA2)))))) qC8)
  (qBd (qCk 7 (qAg qB4 qBt))
  (qBd (ifF (qAg (qAn eqW (qAs qA8 3 (qAc #[1] (qAc (qAn qCp (var 1) (toW (cst (.int 3)))) (qAc (toW (cst (.int 3))) qA2)))) #[7]) W.bool) (qKr 7 (qBg (qAn ixW (var 2) (qAg #[13] negW)))) qC8)
  (qBd (ifF (qAg (qAn eqW (qAs qA8 3 (qAc #[1] (qAc (qAn qCp (var 1) (toW (cst (.int 3)))) (qAc (toW (cst (.int 5))) qA2)))) #[13]) W.bool) (qKr 7 (qBg (qAn ixW (var 2) (qAs qA8 3 (qAc #[1] (qAc (qAn qCp (var 1) #[39]) (qAc (qAg (qAc (var 2) qA2) qIs) qA2))))))) qC8)
  (qBd (qCk 7 (qFe (var 7) qDy (part (qAg (var 7) qGt))))
  (qBd (qCk 8 (qAg (qAc (qC2 (qAg (qAc (qAs qA8 3 (qAc #[1] (qAc (qAn qCp (var 1) (toW (cst (.int 5)))) (qAc (qAn qCp (var 4) #[13]) qA2)))) qA2) qYb) (fun _=>.ok true) (qBg (qAs qEu 3 (qAc (var 1) (qAc (qAn qCp (qAn qCp (var 2) (toW (cst (.int 10)))) (qAn qR2 (toW (cst (.int 5))) #[1])) (qAc (var 3) qA2)))))) qA2) qb2))
  (qB8 (toW (qAg (qAq (qBg (var 5)) (qAq (qBg (var 3)) (qAq (qBg (var 6)) (qAq (qBg (qAg (qAc (var 7) qA2) qb2)) (qAq (qBg (var 8)) qB4))))) qBy))))))))))))
def qIr:List W→Rs W:=mir ["_law_script","_law_at","_law_names_here","_law_name","_law_long","_law_kind","_law_above_here","_law_faces","_law_rows"] qSg
theorem qU3:FnScope ["_law_script","_law_at","_law_names_here","_law_name","_law_long","_law_kind","_law_above_here","_law_faces","_law_rows"] ["_law_script","_law_at","_law_names_here","_law_name","_law_long"] (qAd qMc):=by norm_cast
theorem qao (T:Txt w K mg):FnD P w K mg base 4 "_law_file" 5 qIr:=by
 have sc:=qU3
 refine qBm (k:=3) (h:=qSg) (ps:=["_law_script","_law_at","_law_names_here","_law_name","_law_long"]) T.t_L_file sc #[4] #[12] fun f cdv A outer s H E hr=>?_
 exact ⟨_,(qAi (qA0 5 sc.nd (PXd.w qBi))
  (qAi (qBj (qB9 (qA4 (qBq (qAe (PX.d (qCw (qCa (qGv hr)) (qAb 3) (qA4 (qAb 2) (qVj #[3]) #[11]) (qA6 _))) (qAe (PX.d (qCw (qCa (qGv hr)) (qAl (qBa T) #[5] rfl (qAa (qAb 0) (qAa (qAb 1) (qAa #[3] qAh))) rfl) #[3] (qA6 _))) qAr))) (qC4 qG4 rfl T.b_int boot_int (qAa (qCw (qCa (qGv hr)) #[50] #[3] (qA6 _)) qAh)) #[11])) (qAk (qA0 5 sc.nd (PXd.w qBi))) qA7)
  (qAi (qA0 6 sc.nd (PXd.w qB2))
  (qAi (qBj (PXw.t (qHh (qAz (qCa (qGv hr)) (qAb 5) (PXd.w qBi) (qA6 _)) (qIn (qAz (qCa (qGv hr)) #[50] #[3] (qA6 _))))) (qAk (qA0 6 sc.nd #[66])) qA7)
  (qAi (qA0 7 sc.nd (qBq qAr))
  (qAi (qBj (qAz (qCa (qGv hr)) #[50] #[3] (qA6 _)) (qAk (qCf 7 (PX.d (qA4 (qAb 2) (qVj #[3]) #[11])))) qA7)
  (qAi (qBj (qAz (qCa (qGv hr)) #[50] #[3] (qA6 _)) (qAk (qCf 7 (PX.d #[66]))) qA7)
  (qAi (qA0 7 sc.nd (qDp (qAb 7) qDo (qDn (qN8 rfl rfl T.b_len rfl T.b_set (qAb 7)))))
  (qAi (qA0 8 sc.nd (qC4 qEf rfl T.b_tuple boot_tuple (qAa (qEa rfl sc.nd (qBo (qAd qMc) ["_law_script","_law_at","_law_names_here","_law_name","_law_long","_law_kind","_law_above_here","_law_faces","_law_rows"] rfl rfl #[19]) (qVh rfl T.b_range (qAa (qAl (qBa T) #[5] rfl (qAa (qAb 0) (qAa (qBk qA1 (qAb 1) #[3]) (qAa (qBk qA1 (qAb 4) #[3]) qAh))) rfl) qAh)) (fun _ _ _ _ _=>qDm) (fun _ _ _ _ _=>(PX.d (qAl (qXj T) #[5] rfl (qAa (qAb 1) (qAa (qBk qA1 (qBk qA1 (qAb 2) #[3]) (qBk qDx #[3] (qAb 0))) (qAa (qAb 3) qAh))) rfl)))) qAh)))
  (qAk (qAt (PXd.w (qBr (qAe (PX.d (qAb 5)) (qAe (PX.d (qAb 3)) (qAe (PX.d (qAb 6)) (qAe (PX.d (qC4 qEf rfl T.b_tuple boot_tuple (qAa (qAb 7) qAh))) (qAe (PX.d (qAb 8)) qAr))))))))))))))))))⟩
def qO2:qAj→Rs Fl:=
 (qBd (qCk 5 (qAg qB4 qBt))
  (qBd (qCk 6 (qKf (qAn eqW (qAs qA8 3 (qAc #[1] (qAc (toW (cst (.int 95))) (qAc #[39] qA2)))) #[7]) (qAn gtW (var 4) #[7])))
  (qBd (qH5 (qAg (qAc (qAn qCp #[13] (qAs qA8 3 (qAc #[1] (qAc (var 1) (qAc (var 3) qA2))))) qA2) qYb) (qFb 7) (qBd (qCk 8 (qAn qCp (var 1) (qAn qR2 (toW (cst (.int 200))) (qAn qCp (var 7) #[13]))))
  (qBd (qCk 9 #[21])
  (qBd (ifF (qUg (qAg (qAn gtW (var 7) #[7]) W.bool) (qAg (qAn gtW (qAs qA8 3 (qAc #[1] (qAc (var 8) (qAc #[39] qA2)))) #[7]) W.bool)) (qCk 9 (qAs qA8 3 (qAc #[1] (qAc (qAn qCp (var 8) #[13]) (qAc (var 7) qA2))))) qC8)
  (qBd (qCk 10 (qAg qB4 qBt))
  (qBd (qH5 (qAg (qF7 2) qUa) (qa6 (qIh (qFb 11) (qIh (qFb 12) nilT)) 2) (ifF (qUg (qAg (var 6) W.tru) (qUg (qAg (qAn eqW (var 7) #[7]) W.bool) (qUg (qAg (qAn ltW (var 11) #[23]) W.bool) (qAg (qAn gtW (qAg (qAc (var 2) qA2) qIs) #[13]) W.bool)))) (qBd (qCk 13 (qAs qEu 3 (qAc #[1] (qAc (qAn qCp (qAn qCp (var 8) (toW (cst (.int 10)))) (qAn qR2 (toW (cst (.int 45))) (var 11))) (qAc (var 2) qA2)))))
  (qKr 10 (qAg (qAq (cst (.str "class")) (qAq (qBg (var 12)) (qAq (cst .non) (qAq (qAg qB4 qBy) (qAq (qBg (qFe (toW (qAg (qAq (qBg (var 13)) (qAq (qAg (qAq (cst (.str "need")) (qAq (qBg (qAn ixW (var 2) (qAn qa7 #[13] (var 11)))) qB4)) qBy) qB4)) qBy)) (part (qAs qA8 3 (qAc #[1] (qAc (qAn qCp (var 8) (toW (cst (.int 5)))) (qAc #[23] qA2))))) qDy)) qB4))))) qBy))) (ifF (qAg (qAn gtW (qAs qA8 3 (qAc (var 0) (qAc (qAn qCp (qAn qCp (var 8) (toW (cst (.int 2)))) (var 11)) (qAc (toW (cst (.int 3))) qA2)))) (toW (cst (.int 0)))) W.bool) (qKr 10 (qBg (qAs qIr 5 (qAc (var 0) (qAc (qAn qCp (qAn qCp (var 8) (toW (cst (.int 10)))) (qAn qR2 (toW (cst (.int 45))) (var 11))) (qAc (var 2) (qAc (var 12) (qAc (var 4) qA2)))))))) qC8)))
  (qBd (qCk 14 (qAs qA8 3 (qAc #[1] (qAc (qAn qCp (var 8) (toW (cst (.int 8)))) (qAc #[39] qA2)))))
  (qKr 5 (qAg (qAq (qBg (var 9)) (qAq (qBg (qAg (qAc (qAn qCp (qFe (var 10) (part (var 14)) qDy) (qFe (var 10) qDy (part (var 14)))) qA2) qb2)) qB4)) qBy)))))))))
  (qB8 (qAg (qAc (var 5) qA2) qb2)))))
def qGp:List W→Rs W:=mir ["_law_script","_law_at","_law_names_here","_law_many","_law_long","_law_made","_law_twins","_law_number","_law_here","_law_parent","_law_shelf","_law_k","_law_name","_law_row_here","_law_turn"] qO2
theorem qTc:FnScope ["_law_script","_law_at","_law_names_here","_law_many","_law_long","_law_made","_law_twins","_law_number","_law_here","_law_parent","_law_shelf","_law_k","_law_name","_law_row_here","_law_turn"] ["_law_script","_law_at","_law_names_here","_law_many","_law_long"] (qAd qN1):=by norm_cast
theorem qXi (T:Txt w K mg):FnD P w K mg base 5 "_law_world" 5 qGp:=by
 have sc:=qTc
 refine qBm (k:=4) (h:=qO2) (ps:=["_law_script","_law_at","_law_names_here","_law_many","_law_long"]) T.t_L_world sc #[4] #[12] fun f cdv A outer s H E hr=>?_
 exact ⟨_,(qAi (qA0 5 sc.nd (qBq qAr))
  (qAi (qA0 6 sc.nd (qDq (qCw (qCa (qGv hr)) (qAl (qBa T) #[5] rfl (qAa (qAb 0) (qAa #[3] (qAa #[3] qAh))) rfl) #[3] (qA6 _)) (qEj (qCw qOg (qAb 4) #[3] (qA6 _)))))
  (qAi (qCs PassesOwn.never rfl (qJe rfl T.b_range (qAa (qBk qA1 #[3] (qAl (qBa T) #[5] rfl (qAa (qAb 0) (qAa (qAb 1) (qAa (qAb 3) qAh))) rfl)) qAh)) (qBv 7 sc.nd) (qAi (qA0 8 sc.nd (qBk qA1 (qAb 1) (qBk qDx #[3] (qBk qA1 (qAb 7) #[3]))))
  (qAi (qA0 9 sc.nd (PXd.w qB2))
  (qAi (qBj (PXw.t (qHh (qAz qOg (qAb 7) #[3] (qA6 _)) (qIn (qAz qOg (qAl (qBa T) #[5] rfl (qAa (qAb 0) (qAa (qAb 8) (qAa #[3] qAh))) rfl) #[3] (qA6 _))))) (qAk (qA0 9 sc.nd (qAl (qBa T) #[5] rfl (qAa (qAb 0) (qAa (qBk qA1 (qAb 8) #[3]) (qAa (qAb 7) qAh))) rfl))) qA7)
  (qAi (qA0 10 sc.nd (qBq qAr))
  (qAi (qCs PassesOwn.never rfl (qJf 2 rfl T.b_enumerate) (qJg 2 rfl (qCl (qBv 11 sc.nd) (qCl (qBv 12 sc.nd) qGf))) (qAk (qBj (PXw.t (qHh (qB9 (qAb 6)) (qHh (qAz (qCa (qGv hr)) (qAb 7) #[3] (qA6 _)) (qHh (qAz qK9 (qAb 11) #[3] (qA6 _)) (qIn (qAz qOg (qBw qB6 rfl T.b_len boot_len (qAa (qAb 2) qAh)) #[3] (qA6 _))))))) (qAi (qA0 13 sc.nd (qAl (qXj T) #[5] rfl (qAa (qAb 0) (qAa (qBk qA1 (qBk qA1 (qAb 8) #[3]) (qBk qDx #[3] (qAb 11))) (qAa (qAb 2) qAh))) rfl))
  (qAk (qCf 10 (qBr (qAe qBi (qAe (PX.d (qAb 12)) (qAe qB2 (qAe (qBr qAr) (qAe (PX.d (qDp (PXd.w (qBr (qAe (PX.d (qAb 13)) (qAe (qBr (qAe qBi (qAe (PX.d (qA4 (qAb 2) (qBk qMm #[3] (qAb 11)) #[11])) qAr))) qAr)))) (qDn (qAl (qBa T) #[5] rfl (qAa (qAb 0) (qAa (qBk qA1 (qAb 8) #[3]) (qAa #[3] qAh))) rfl)) qDo)) qAr))))))))) (qAk (qBj (qAz qOg (qAl (qBa T) (hr.mono (by decide)) rfl (qAa (qAb 0) (qAa (qBk qA1 (qBk qA1 (qAb 8) (PXd.w qAf)) (qAb 11)) (qAa (PXd.w qAf) qAh))) rfl) (PXd.w qAf) (qA6 _)) (qAk (qCf 10 (PX.d (qAl (qao T) (hr.mono (by decide)) rfl (qAa (qAb 0) (qAa (qBk qA1 (qBk qA1 (qAb 8) (PXd.w qAf)) (qBk qDx (PXd.w qAf) (qAb 11))) (qAa (qAb 2) (qAa (qAb 12) (qAa (qAb 4) qAh))))) rfl)))) qA7)))))
  (qAi (qA0 14 sc.nd (qAl (qBa T) #[5] rfl (qAa (qAb 0) (qAa (qBk qA1 (qAb 8) #[3]) (qAa #[3] qAh))) rfl))
  (qAk (qCf 5 (qBr (qAe (PX.d (qAb 9)) (qAe (PX.d (qC4 qEf rfl T.b_tuple boot_tuple (qAa (qBk qA1 (qDp (qAb 10) (qDn (qAb 14)) qDo) (qDp (qAb 10) qDo (qDn (qAb 14)))) qAh))) qAr))))))))))))
  (qAk (qAt (qC4 qEf rfl T.b_tuple boot_tuple (qAa (qAb 5) qAh)))))))⟩
def qSe:qAj→Rs Fl:=
 (qBd (qCk 2 (qAg (qAq (qBg (var 1)) qB4) qBt))
  (qBd (qCj (qAg (qAn qDj (qAn ixW (qAn ixW #[1] (qAn ixW (var 2) #[7])) #[7]) #[21]) W.bool) (qCk 2 (qAn qCp (qAg (qAq (qBg (qAn ixW (qAn ixW #[1] (qAn ixW (var 2) #[7])) #[7])) qB4) qBt) (var 2))) 1000)
  (qB8 (qP1 2))))
def qIq:List W→Rs W:=mir ["_law_world_here","_law_loader","_law_made"] qSe
theorem qU0:FnScope ["_law_world_here","_law_loader","_law_made"] ["_law_world_here","_law_loader"] (qAd qRk):=by norm_cast
theorem qam (T:Txt w K mg):FnD P w K mg base 1 "_law_line" 2 qIq:=by
 have sc:=qU0
 refine qBm (k:=0) (h:=qSe) (ps:=["_law_world_here","_law_loader"]) T.t_L_line sc #[4] #[12] fun f cdv A outer s H E hr=>?_
 exact ⟨_,(qAi (qA0 2 sc.nd (qBq (qAe (PX.d (qAb 1)) qAr)))
  (qAi (qGg 1000 PassesOwn.never (qAz qC5 (qA4 (qA4 (qAb 0) (qA4 (qAb 2) #[3] #[11]) #[11]) #[3] #[11]) (PXd.w qB2) (qA6 _)) (qAk (qA0 2 sc.nd (qBk qA1 (qBq (qAe (PX.d (qA4 (qA4 (qAb 0) (qA4 (qAb 2) #[3] #[11]) #[11]) #[3] #[11])) qAr)) (qAb 2)))))
  (qAk (qEb 2))))⟩
def qbk:qAj→Rs Fl:=
 (qB8 (qC2 (qAg #[1] W.walk) (qAg (qAn eqW (qAn ixW #[1] #[13]) (var 2)) W.bool) (qBg #[1])))
def qOm:List W→Rs W:=mir ["_law_shelf","_law_name"] qbk
theorem qcc:FnScope ["_law_shelf","_law_name"] ["_law_shelf","_law_name"] (qAd qU7):=by norm_cast
theorem qbn (T:Txt w K mg):FnD P w K mg base 1 "_law_on" 2 qOm:=by
 have sc:=qcc
 refine qBm (k:=0) (h:=qbk) (ps:=["_law_shelf","_law_name"]) T.t_L_on sc #[4] #[12] fun f cdv A outer s H E hr=>?_
 exact ⟨_,(qAk (qAt (qEa rfl sc.nd (qBo (qAd qU7) ["_law_shelf","_law_name"] rfl rfl #[19]) (qDg (qAb 0)) (fun _ _ _ _ _=>(qIo (qAz (qCa (qGv hr)) #[28] (qAb 2) (qA6 _)))) (fun _ _ _ _ _=>(PX.d (qAb 0))))))⟩
def qSf:qAj→Rs Fl:=
 (qBd (qCk 3 (qC2 (qAg (qAs qIq 2 #[29]) W.walk) (qAg (qAn neW (qAs qOm 2 (qAc (qAn ixW (qAn ixW (var 1) #[1]) #[13]) (qAc (var 3) qA2))) (qAg qB4 qBt)) W.bool) (qBg #[1])))
  (qBd (ifF (qAg (qAn eqW (var 3) (qAg qB4 qBt)) W.bool) (qB8 #[21]) qC8)
  (qB8 (toW (qAg (qAq (qBg (qAn ixW (var 3) #[7])) (qAq (qBg (var 2)) qB4)) qBy)))))
def qDu:List W→Rs W:=mir ["_law_world_here","_law_loader","_law_name","_law_some"] qSf
theorem qU2:FnScope ["_law_world_here","_law_loader","_law_name","_law_some"] ["_law_world_here","_law_loader","_law_name"] (qAd qMb):=by norm_cast
theorem qMy (T:Txt w K mg):FnD P w K mg base 2 "_law_find" 3 qDu:=by
 have sc:=qU2
 refine qBm (k:=1) (h:=qSf) (ps:=["_law_world_here","_law_loader","_law_name"]) T.t_L_find sc #[4] #[12] fun f cdv A outer s H E hr=>?_
 exact ⟨_,(qAi (qMk 3 rfl sc.nd (qBo (qAd qMb) ["_law_world_here","_law_loader","_law_name","_law_some"] rfl rfl #[19]) (qDg (qAl (qam T) #[5] rfl #[44] rfl)) (fun _ _ _ _ _=>(qIo (qAz (qK8 (qGv hr)) (qAl (qbn T) #[5] rfl (qAa (qA4 (qA4 (qAb 1) (qAb 0) #[11]) #[3] #[11]) (qAa (qAb 3) qAh)) rfl) (qBq qAr) (qA6 _)))) (fun _ _ _ _ _=>(PX.d (qAb 0))))
  (qAi (qBj (qAz (qCa (qGv hr)) (qAb 3) (qBq qAr) (qA6 _)) (qAk (qAt (PXd.w qB2))) qA7)
  (qAk (qAt (PXd.w (qBr (qAe (PX.d (qA4 (qAb 3) #[3] #[11])) (qAe (PX.d (qAb 2)) qAr))))))))⟩
def qJ3:qAj→Rs Fl:=
 (qB8 (qAn ixW (qAs qOm 2 (qAc (qAn ixW (qAn ixW #[1] (qAn ixW (var 1) #[7])) #[13]) (qAc (qAn ixW (var 1) #[13]) qA2))) #[7]))
def qDi:List W→Rs W:=mir ["_law_world_here","_law_thing"] qJ3
theorem qNt:FnScope ["_law_world_here","_law_thing"] ["_law_world_here","_law_thing"] (qAd qI8):=by norm_cast
theorem qF3 (T:Txt w K mg):FnD P w K mg base 2 "_law_file_of" 2 qDi:=by
 have sc:=qNt
 refine qBm (k:=1) (h:=qJ3) (ps:=["_law_world_here","_law_thing"]) T.t_L_file_of sc #[4] #[12] fun f cdv A outer s H E hr=>?_
 exact ⟨_,(qAk (qAt (qA4 (qAl (qbn T) #[5] rfl (qAa (qA4 (qA4 (qAb 0) #[37] #[11]) #[3] #[11]) (qAa #[37] qAh)) rfl) #[3] #[11])))⟩
def qJ4:qAj→Rs Fl:=
 (qBd (qCk 1 (qAg qB4 qBt))
  (qBd (qH5 (qAg (qF7 0) qUa) (qa6 (qIh (qFb 2) (qIh (qFb 3) nilT)) 2) (qXo 1 (qC2 (qAg (qAn ixW (var 3) #[13]) W.walk) (qAg (qAn eqW (qAs qDu 3 (qAc (var 1) (qAc (var 3) (qAc (qAn ixW #[1] #[13]) qA2)))) (toW (qAg (qAq (qBg (var 3)) (qAq (qBg (qAn ixW #[1] #[13])) qB4)) qBy))) W.bool) (qAg (qAq (qBg (var 3)) (qAq (qBg (qAn ixW #[1] #[13])) qB4)) qBy))))
  (qB8 (qAg (qAc (var 1) qA2) qS3))))
def qFx:List W→Rs W:=mir ["_law_world_here","_law_made","_law_number","_law_loader"] qJ4
theorem qNu:FnScope ["_law_world_here","_law_made","_law_number","_law_loader"] ["_law_world_here"] (qAd qFn):=by norm_cast
theorem qQz (T:Txt w K mg):FnD P w K mg base 3 "_law_classes" 1 qFx:=by
 have sc:=qNu
 refine qBm (k:=2) (h:=qJ4) (ps:=["_law_world_here"]) T.t_L_classes sc #[4] #[12] fun f cdv A outer s H E hr=>?_
 exact ⟨_,(qAi (qA0 1 sc.nd (qBq qAr))
  (qAi (qCs PassesOwn.never rfl (qJf 0 rfl T.b_enumerate) (qJg 2 rfl (qCl (qBv 2 sc.nd) (qCl (qBv 3 sc.nd) qGf))) (qAk (qE5 1 (qEa rfl sc.nd (qBo (qAd qFn) ["_law_world_here","_law_made","_law_number","_law_loader"] rfl rfl #[19]) (qDg (qA4 (qAb 3) #[3] #[11])) (fun _ _ _ _ _=>(qIo (qAz (qCa (qGv hr)) (qAl (qMy T) #[5] rfl (qAa (qAb 1) (qAa (qAb 3) (qAa #[28] qAh))) rfl) (PXd.w (qBr (qAe (PX.d (qAb 3)) (qAe (PX.d #[28]) qAr)))) (qA6 _)))) (fun _ _ _ _ _=>(qBr (qAe (PX.d (qAb 3)) (qAe (PX.d #[28]) qAr))))))))
  (qAk (qAt (qBw qH7 rfl T.b_sorted PD.boot_sorted (qAa (qAb 1) qAh))))))⟩
def qO7:qAj→Rs Fl:=
 (qBd (qCk 2 (qAs qDi 2 #[29]))
  (qBd (qCk 3 (qC2 (qAg (qAn ixW (var 2) (toW (cst (.int 3)))) W.walk) (fun _=>.ok true) (qAg (qAq (qBg #[1]) (qAq (cst (.str "face")) qB4)) qBy)))
  (qB8 (qAn qCp (qFe (qAg (qAq (qAg (qAq (qBg (qAn ixW (var 2) #[23])) (qAq (cst (.str "class")) qB4)) qBy) qB4) qBt) qDy (part (qAg (qAc (qAn qDj (qAn ixW (var 2) #[23]) #[21]) qA2) qYf))) (var 3)))))
def qJt:List W→Rs W:=mir ["_law_world_here","_law_thing","_law_file_here","_law_some"] qO7
theorem qTh:FnScope ["_law_world_here","_law_thing","_law_file_here","_law_some"] ["_law_world_here","_law_thing"] (qAd qJa):=by norm_cast
theorem qXm (T:Txt w K mg):FnD P w K mg base 3 "_law_above" 2 qJt:=by
 have sc:=qTh
 refine qBm (k:=2) (h:=qO7) (ps:=["_law_world_here","_law_thing"]) T.t_L_above sc #[4] #[12] fun f cdv A outer s H E hr=>?_
 exact ⟨_,(qAi (qA0 2 sc.nd (qAl (qF3 T) #[5] rfl #[44] rfl))
  (qAi (qMk 3 rfl sc.nd (qBo (qAd qJa) ["_law_world_here","_law_thing","_law_file_here","_law_some"] rfl rfl #[19]) (qDg (qA4 (qAb 2) #[3] #[11])) (fun _ _ _ _ _=>qDm) (fun _ _ _ _ _=>(qBr (qAe (PX.d (qAb 0)) (qAe qBi qAr)))))
  (qAk (qAt (qBk qA1 (qDp (qBq (qAe (qBr (qAe (PX.d (qA4 (qAb 2) #[3] #[11])) (qAe qBi qAr))) qAr)) qDo (qDn (qC4 qG4 rfl T.b_int boot_int (qAa (qCw qC5 (qA4 (qAb 2) #[3] #[11]) (PXd.w qB2) (qA6 _)) qAh)))) (qAb 3))))))⟩
def qGz (M_self:List W→Rs W):qAj→Rs Fl:=
 (qBd (qH5 (qAg (qAs qJt 2 #[29]) W.walkN) (qa6 (qIh (qFb 3) (qIh (qFb 4) nilT)) 2) (qBd (qCk 5 (qAs qDu 3 (qAc #[1] (qAc (qAn ixW (var 1) #[7]) (qAc (var 3) qA2)))))
  (qBd (ifF (qAg (qAn isW (var 5) #[21]) W.bool) (qB8 (toW (qAg (qAq (cst (.str "lacks")) (qAq (qBg (var 3)) qB4)) qBy))) qC8)
  (qBd (ifF (qAg (qAn neW (qAn ixW (qAs qDi 2 (qAc #[1] (qAc (var 5) qA2))) #[7]) (var 4)) W.bool) (qB8 (toW (qAg (qAq (cst (.str "kind")) (qAq (qBg (var 3)) qB4)) qBy))) qC8)
  (qBd (ifF (qAg (qAn inW (var 5) (qAn qCp (var 2) (qAg (qAq (qBg (var 1)) qB4) qBt))) W.bool) (qB8 (toW (qAg (qAq (cst (.str "ring")) (qAq (qBg (var 3)) qB4)) qBy))) qC8)
  (qBd (qCk 6 (qAs M_self 3 (qAc #[1] (qAc (var 5) (qAc (qAn qCp (var 2) (qAg (qAq (qBg (var 1)) qB4) qBt)) qA2)))))
  (ifF (qAg (qAn qDj (var 6) #[21]) W.bool) (qB8 (qP1 6)) qC8)))))))
  (qB8 #[21]))
theorem qU1:FnScope ["_law_world_here","_law_thing","_law_path","_law_name","_law_kind","_law_other","_law_why"] ["_law_world_here","_law_thing","_law_path"] (qAd qRl):=by norm_cast
theorem qW6 (T:Txt w K mg){k:Nat}(hk:3≤k){M:List W→Rs W}(F_self:FnD P w K mg base k "_law_flaw" 3 M):FnD P w K mg base (k + 1) "_law_flaw" 3 (mir ["_law_world_here","_law_thing","_law_path","_law_name","_law_kind","_law_other","_law_why"] (qGz M)):=by
 have sc:=qU1
 refine qBm (k:=k) (h:=qGz M) (ps:=["_law_world_here","_law_thing","_law_path"]) T.t_L_flaw sc #[4] #[12] fun f cdv A outer s H E hr=>?_
 exact ⟨_,(qAi (qCs PassesOwn.never rfl (qFr (qAl (qXm T) (hr.mono #[0]) rfl #[44] rfl)) (qJg 2 rfl (qCl (qBv 3 sc.nd) (qCl (qBv 4 sc.nd) qGf))) (qAi (qA0 5 sc.nd (qAl (qMy T) (hr.mono #[0]) rfl (qAa (qAb 0) (qAa #[37] (qAa (qAb 3) qAh))) rfl))
  (qAi (qBj (qAz qJm (qAb 5) (PXd.w qB2) (qA6 _)) (qAk (qAt (PXd.w (qBr (qAe qBi (qAe (PX.d (qAb 3)) qAr)))))) qA7)
  (qAi (qBj (qAz (qK8 (qGv hr)) (qA4 (qAl (qF3 T) (hr.mono #[0]) rfl (qAa (qAb 0) (qAa (qAb 5) qAh)) rfl) #[3] #[11]) (qAb 4) (qA6 _)) (qAk (qAt (PXd.w (qBr (qAe qBi (qAe (PX.d (qAb 3)) qAr)))))) qA7)
  (qAi (qBj (qAz (qLb (qac hr)) (qAb 5) (qBk qA1 (qAb 2) (qBq (qAe (PX.d (qAb 1)) qAr))) (by with_unfolding_all rfl)) (qAk (qAt (PXd.w (qBr (qAe qBi (qAe (PX.d (qAb 3)) qAr)))))) qA7)
  (qAi (qA0 6 sc.nd (qAl F_self (hr.mono #[0]) rfl (qAa (qAb 0) (qAa (qAb 5) (qAa (qBk qA1 (qAb 2) (qBq (qAe (PX.d (qAb 1)) qAr))) qAh))) rfl))
  (qAk (qBj (qAz qC5 (qAb 6) (PXd.w qB2) (qA6 _)) (qAk (qEb 6)) qA7))))))))
  (qAk (qAt (PXd.w qB2))))⟩
def qDt:Nat→List W→Rs W
 | 0=>fun _=>.no
 | n + 1=>mir ["_law_world_here","_law_thing","_law_path","_law_name","_law_kind","_law_other","_law_why"] (qGz (qDt n))
theorem qPb (T:Txt w K mg):∀ n:Nat,FnD P w K mg base (3 + n) "_law_flaw" 3 (qDt n)
 | 0=>fnD_no (ps:=["_law_world_here","_law_thing","_law_path"]) T.t_L_flaw #[12]
 | n + 1=>qW6 T (k:=3 + n) #[0] (qPb T n)
theorem qan (T:Txt w K mg):FnD P w K mg base 23 "_law_flaw" 3 (qDt 20):=qPb T 20
def qLo:qAj→Rs Fl:=
 (qBd (ifF (qAg (qAn qDj (qAs (qDt 20) 3 (qAc #[1] (qAc (var 1) (qAc (qAg qB4 qBt) qA2)))) #[21]) W.bool) (qB8 (qAg qB4 qBt)) qC8)
  (qBd (qCk 2 (qAs qDi 2 #[29]))
  (qBd (qCk 3 (qFe (qAg (qAq (qBg (qAn ixW (var 2) #[23])) qB4) qBt) qDy (part (qAg (qAc (qAn qDj (qAn ixW (var 2) #[23]) #[21]) qA2) qYf))))
  (qBd (qH5 (qAg (qAn ixW (var 2) #[39]) W.walkN) (qFb 4) (ifF (qAg (qAn inW (qAn ixW (var 4) #[7]) (toW (qAg (qAq (cst (.str "need")) (qAq (cst (.str "read")) qB4)) qBy))) W.bool) (qKr 3 (qBg #[64])) qC8))
  (qBd (qCk 5 (qAg qB4 qBt))
  (qBd (frzB 3 (qH5 (qF7 3) (qFb 6) (qBd (qCk 7 (qAs qDu 3 (qAc #[1] (qAc (qAn ixW (var 1) #[7]) (qAc (var 6) qA2)))))
  (ifF (qUg (qAg (qAn qDj (var 7) #[21]) W.bool) (qAg (qAn qFf (var 7) (var 5)) W.bool)) (qKr 5 (qBg (var 7))) qC8))))
  (qB8 (qP1 5))))))))
def qC0:List W→Rs W:=mir ["_law_world_here","_law_thing","_law_file_here","_law_names_here","_law_row_here","_law_made","_law_name","_law_other"] qLo
theorem qQi:FnScope ["_law_world_here","_law_thing","_law_file_here","_law_names_here","_law_row_here","_law_made","_law_name","_law_other"] ["_law_world_here","_law_thing"] (qAd qKz):=by norm_cast
theorem qLr (T:Txt w K mg):FnD P w K mg base 24 "_law_arrows" 2 qC0:=by
 have sc:=qQi
 refine qBm (k:=23) (h:=qLo) (ps:=["_law_world_here","_law_thing"]) T.t_L_arrows sc #[4] #[12] fun f cdv A outer s H E hr=>?_
 exact ⟨_,(qAi (qBj (qAz qC5 (qAl (qan T) #[5] rfl (qAa (qAb 0) (qAa (qAb 1) (qAa (qBq qAr) qAh))) rfl) (PXd.w qB2) (qA6 _)) (qAk (qAt (qBq qAr))) qA7)
  (qAi (qA0 2 sc.nd (qAl (qF3 T) #[5] rfl #[44] rfl))
  (qAi (qA0 3 sc.nd (qDp (qBq (qAe (PX.d (qA4 (qAb 2) #[3] #[11])) qAr)) qDo (qDn (qC4 qG4 rfl T.b_int boot_int (qAa (qCw qC5 (qA4 (qAb 2) #[3] #[11]) (PXd.w qB2) (qA6 _)) qAh)))))
  (qAi (qCs PassesOwn.never rfl (qFr (qA4 (qAb 2) #[3] #[11])) (qBv 4 sc.nd) (qAk (qBj (qAz (qLb (qac hr)) (qA4 (qAb 4) #[3] #[11]) (PXd.w (qBr (qAe qBi (qAe qBi qAr)))) (by with_unfolding_all rfl)) (qAk (qCf 3 (PX.d (qA4 (qAb 4) (qBk qA1 (qC4 qG4 rfl T.b_int boot_int (qAa (qCw (qCa (qGv hr)) (qA4 (qAb 4) #[3] #[11]) (PXd.w qBi) (qA6 _)) qAh)) #[3]) #[11])))) qA7)))
  (qAi (qA0 5 sc.nd (qBq qAr))
  (qAi (qZd 3 (qCs PassesOwn.never rfl (qcm 3) (qBv 6 sc.nd) (qAi (qA0 7 sc.nd (qAl (qMy T) #[5] rfl (qAa (qAb 0) (qAa #[37] (qAa (qAb 6) qAh))) rfl))
  (qAk (qBj (PXw.t (qHh (qAz qC5 (qAb 7) (PXd.w qB2) (qA6 _)) (qIn (qAz (qOf (qac hr)) (qAb 7) (qAb 5) (by with_unfolding_all rfl))))) (qAk (qCf 5 (PX.d (qAb 7)))) qA7)))))
  (qAk (qEb 5))))))))⟩
def qO4:qAj→Rs Fl:=
 (qBd (qCk 2 (qAg (qAc (var 1) qA2) lstA))
  (qBd (qCk 3 #[7])
  (qBd (qCj (qAg (qAn ltW (var 3) (qAg (qAc (var 2) qA2) qIs)) W.bool) (qBd (qXo 2 (qC2 (qAg (qAs qC0 2 (qAc #[1] (qAc (qAn ixW (var 2) (var 3)) qA2))) W.walk) (qAg (qAn qFf #[1] (var 3)) W.bool) (qBg #[1])))
  (qCk 3 (qAn qCp (var 3) #[13]))) 1000)
  (qB8 (qP1 2)))))
def qGq:List W→Rs W:=mir ["_law_world_here","_law_some","_law_made","_law_at"] qO4
theorem qTe:FnScope ["_law_world_here","_law_some","_law_made","_law_at"] ["_law_world_here","_law_some"] (qAd qI7):=by norm_cast
theorem qXk (T:Txt w K mg):FnD P w K mg base 25 "_law_reach" 2 qGq:=by
 have sc:=qTe
 refine qBm (k:=24) (h:=qO4) (ps:=["_law_world_here","_law_some"]) T.t_L_reach sc #[4] #[12] fun f cdv A outer s H E hr=>?_
 exact ⟨_,(qAi (qA0 2 sc.nd (qC4 qLw rfl T.b_list boot_list (qAa (qAb 1) qAh)))
  (qAi (qA0 3 sc.nd #[3])
  (qAi (qGg 1000 PassesOwn.never (qAz qK9 (qAb 3) (qBw qB6 rfl T.b_len boot_len (qAa (qAb 2) qAh)) (qA6 _)) (qAi (qE5 2 (qEa rfl sc.nd (qBo (qAd qI7) ["_law_world_here","_law_some","_law_made","_law_at"] rfl rfl #[19]) (qDg (qAl (qLr T) #[5] rfl (qAa (qAb 0) (qAa (qA4 (qAb 2) (qAb 3) #[11]) qAh)) rfl)) (fun _ _ _ _ _=>(qIo (qAz (qOf (qac hr)) (qAb 0) (qAb 3) (by with_unfolding_all rfl)))) (fun _ _ _ _ _=>(PX.d (qAb 0)))))
  (qAk (qA0 3 sc.nd (qBk qA1 (qAb 3) #[3])))))
  (qAk (qEb 2)))))⟩
def qO3:qAj→Rs Fl:=
 (qBd (qCk 1 (qAg (qAq #[52] (qAq #[52] (qAq (qBg (qP5 0 [("NoClass",true)])) (qAq #[52] qB4)))) qBt))
  (qBd (qXo 1 (qAg (qAq #[52] (qAq #[52] (qAq #[52] (qAq #[52] qB4)))) qBt))
  (qBd (qXo 1 (qAg (qAq #[52] (qAq #[52] qB4)) qBt))
  (qBd (ifF (orB (qAg (qAn neW (cntF 1) #[13]) W.bool) (qHk (qAg (qP5 0 [("NoClass",true)]) W.tru))) (qB8 (toW (qAg (qAq (cst (.str "refused")) (qAq (qBg (qAg #[13] negW)) qB4)) qBy))) qC8)
  (qB8 (toW (qAg (qAq (cst (.str "refused")) (qAq (qBg (idxF 1)) qB4)) qBy)))))))
def qEt:Str→Rs W:=mirW ["_law_e","_law_own"] qO3
theorem qTd:FnScope ["_law_e","_law_own"] ["_law_e"] (qAd qN2):=by norm_cast
theorem qPf (T:Txt w K mg):FnW P w K mg base 1 "_law_which" qEt:=by
 have sc:=qTd
 refine fnW_of (k:=0) (h:=qO3) (N:=["_law_e","_law_own"]) T.t_L_which sc #[4] #[12] fun f cdv A outer s H hr=>?_
 exact ⟨_,(qAi (qA0 1 sc.nd (qBq (qAe (PX.d (qC3 T.e_NoWorld rfl rfl T.b_isinstance)) (qAe (PX.d (qC3 T.e_NoLoader rfl rfl T.b_isinstance)) (qAe (PX.d (qC3 T.e_NoClass rfl rfl T.b_isinstance)) (qAe (PX.d (qC3 T.e_NotLinked rfl rfl T.b_isinstance)) qAr))))))
  (qAi (qE5 1 (qBq (qAe (PX.d (qC3 T.e_NoNeeds rfl rfl T.b_isinstance)) (qAe (PX.d (qC3 T.e_NoHand rfl rfl T.b_isinstance)) (qAe (PX.d (qC3 T.e_NoOrder rfl rfl T.b_isinstance)) (qAe (PX.d (qC3 T.e_NoFile rfl rfl T.b_isinstance)) qAr))))))
  (qAi (qE5 1 (qBq (qAe (PX.d (qC3 T.e_TooMany rfl rfl T.b_isinstance)) (qAe (PX.d (qC3 T.e_NoText rfl rfl T.b_isinstance)) qAr))))
  (qAi (qBj (PXw.t (qJd (qAz (qK8 (hu50q hr)) (qY6 1 qc7) #[3] (qA6 _)) (qFq (qCh (qB9 (qco T.e_ValueError qKc T.b_ValueError rfl rfl T.b_isinstance)))))) (qAk (qAt (PXd.w (qBr (qAe qBi (qAe (PX.d (qVj #[3])) qAr)))))) qA7)
  (qAk (qAt (PXd.w (qBr (qAe qBi (qAe (PX.d (qY5 1 qc7)) qAr))))))))))⟩
theorem qNs:FnScope ["_law_ask","_law_one","_law_other","_law_e"] ["_law_ask","_law_one","_law_other"] (qAd qIl):=by norm_cast
def qCo:List W→Rs W:=tryM ["_law_ask","_law_one","_law_other","_law_e"] ["NoClass"] (qAc (var 1) (qAc (var 2) qA2)) 2 qGo qEt
theorem qHu (T:Txt w K mg):FnTa P w K mg base 46 qIl "_law_told" "arrows" 2 qCo ["_law_ask","_law_one","_law_other"]:=by
 have sc:=qNs
 obtain ⟨Cc,hmc,hcs⟩:=T.k_LoadError
 exact qW8 (k:=45) (i:=3) (cs:=["NoClass"]) (ga:=(qAc (var 1) (qAc (var 2) qA2))) sc #[4] rfl #[12] rfl (qSo T) (qPf T) #[4] #[4] rfl rfl rfl rfl hmc hcs (fun f cdv A outer s H E=>⟨rfl,rfl,rfl,(qAa (qAb 1) (qAa (qAb 2) qAh)),rfl,rfl,rfl,rfl⟩)
theorem qIg (T:Txt w K mg):FnT P w K mg base 46 "_law_told" "arrows" 2 qCo:=
 qW9 T.t_L_told (qHu T) rfl #[12]
def qCn:List W→Rs W:=tryM ["_law_ask","_law_one","_law_other","_law_e"] ["NoClass"] (qAc (var 1) (qAc (var 2) qA2)) 2 qGl qEt
theorem qHt (T:Txt w K mg):FnTa P w K mg base 48 qIl "_law_told" "needed" 2 qCn ["_law_ask","_law_one","_law_other"]:=by
 have sc:=qNs
 obtain ⟨Cc,hmc,hcs⟩:=T.k_LoadError
 exact qW8 (k:=47) (i:=3) (cs:=["NoClass"]) (ga:=(qAc (var 1) (qAc (var 2) qA2))) sc #[4] rfl #[12] rfl (qSn T) (qPf T) #[4] #[4] rfl rfl rfl rfl hmc hcs (fun f cdv A outer s H E=>⟨rfl,rfl,rfl,(qAa (qAb 1) (qAa (qAb 2) qAh)),rfl,rfl,rfl,rfl⟩)
theorem qIf (T:Txt w K mg):FnT P w K mg base 48 "_law_told" "needed" 2 qCn:=
 qW9 T.t_L_told (qHt T) rfl #[12]
def h_law:qAj→Rs Fl:=
 (qBd (qCk 1 (qAs qGr 2 (qAc #[1] (qAc (toW (cst (.int 20))) qA2))))
  (qBd (qCk 2 (qAs qGp 5 (qAc #[1] (qAc (toW (cst (.int 100))) (qAc (var 1) (qAc (toW (cst (.int 3))) (qAc #[39] qA2)))))))
  (qBd (qH5 (qAg (qAs qFx 1 (qAc (var 2) qA2)) W.walkN) (qFb 3) (qBd (ifF (qAg (qAn neW (qAs qGo 2 (qAc (var 2) (qAc (var 3) qA2))) (qAs qC0 2 (qAc (var 2) (qAc (var 3) qA2)))) W.bool) (qB8 (toW (cst (.bl false)))) qC8)
  (ifF (qAg (qAn neW (qAs qGl 2 (qAc (var 2) (qAc (var 3) qA2))) (qAg (qAc (qAs qGq 2 (qAc (var 2) (qAc (qAg (qAq (qBg (var 3)) qB4) qBt) qA2))) qA2) qS3)) W.bool) (qB8 (toW (cst (.bl false)))) qC8)))
  (qBd (qCk 4 (qAn ixW (qAg (qAq (cst .non) (qAq (qAg (qAq (cst (.int 0)) (qAq (cst (.str "zzzzz")) qB4)) qBy) (qAq (qAg (qAq (cst (.int 9)) (qAq (qBg (qAn ixW (var 1) #[7])) qB4)) qBy) (qAq (qAg (qAq (cst (.bl true)) (qAq (qBg (qAn ixW (var 1) #[7])) qB4)) qBy) (qAq (qBg (qAg (qAq (cst (.int 0)) (qAq (qBg (qAn ixW (var 1) #[7])) qB4)) qBt)) (qAq (qBg (qAn ixW (var 1) #[7])) qB4)))))) qBt) (qAs qA8 3 (qAc #[1] (qAc #[7] (qAc (toW (cst (.int 6))) qA2))))))
  (qB8 (qKf (qAn eqW (qAs qCo 2 (qAc (var 2) (qAc (var 4) qA2))) (toW (qAg (qAq (cst (.str "refused")) (qAq (cst (.int 2)) qB4)) qBy))) (qAn eqW (qAs qCn 2 (qAc (var 2) (qAc (var 4) qA2))) (toW (qAg (qAq (cst (.str "refused")) (qAq (cst (.int 2)) qB4)) qBy)))))))))
def m_law:List W→Rs W:=mir ["_law_script","_law_names_here","_law_world_here","_law_thing","_law_bad"] h_law
theorem sc_law:FnScope ["_law_script","_law_names_here","_law_world_here","_law_thing","_law_bad"] ["_law_script"] (qAd qcd):=by norm_cast
theorem ok_law (T:Txt w K mg){f:Addr}{fd:FuncData}(F:L2.Fun K "law" "law" qcd f fd):FnOk P w K mg base CX0 49 f fd ["_law_script"] (spD K 1 m_law):=by
 have sc:=sc_law
 refine PD.Fun.okD F sc #[4] fun cdv A outer s H E hr=>?_
 exact ⟨_,(qAi (qA0 1 sc.nd (qAl (qXl T) #[5] rfl (qAa (qAb 0) (qAa #[3] qAh)) rfl))
  (qAi (qA0 2 sc.nd (qAl (qXi T) #[5] rfl (qAa (qAb 0) (qAa #[3] (qAa (qAb 1) (qAa #[3] (qAa #[3] qAh))))) rfl))
  (qAi (qCs PassesOwn.never rfl (qFr (qAl (qQz T) #[5] rfl (qAa (qAb 2) qAh) rfl)) (qBv 3 sc.nd) (qAi (qBj (qAz (qK8 (qGv hr)) (qN9 (qSo T) #[5] rfl (qAa (qAb 2) (qAa (qAb 3) qAh)) rfl) (qAl (qLr T) #[5] rfl (qAa (qAb 2) (qAa (qAb 3) qAh)) rfl) (qA6 _)) (qAk (qAt (PXd.w qFs))) qA7)
  (qAk (qBj (qAz (qK8 (qGv hr)) (qN9 (qSn T) #[5] rfl (qAa (qAb 2) (qAa (qAb 3) qAh)) rfl) (qBw qH7 rfl T.b_sorted PD.boot_sorted (qAa (qAl (qXk T) #[5] rfl (qAa (qAb 2) (qAa (qBq (qAe (PX.d (qAb 3)) qAr)) qAh)) rfl) qAh)) (qA6 _)) (qAk (qAt (PXd.w qFs))) qA7))))
  (qAi (qA0 4 sc.nd (qA4 (qBq (qAe qB2 (qAe (qBr (qAe qAf (qAe qBi qAr))) (qAe (qBr (qAe qAf (qAe (PX.d #[37]) qAr))) (qAe (qBr (qAe qFs (qAe (PX.d #[37]) qAr))) (qAe (PX.d (qBq (qAe qAf (qAe (PX.d #[37]) qAr)))) (qAe (PX.d #[37]) qAr))))))) (qAl (qBa T) #[5] rfl (qAa (qAb 0) (qAa #[3] (qAa #[3] qAh))) rfl) #[11]))
  (qAk (qAt (qDq (qCw (qCa (qGv hr)) (qJi (qIg T) #[5] rfl rfl (qAa (qAb 2) (qAa (qAb 4) qAh)) rfl) (PXd.w (qBr (qAe qBi (qAe qAf qAr)))) (qA6 _)) (qEj (qCw (qCa (qGv hr)) (qJi (qIf T) #[5] rfl rfl (qAa (qAb 2) (qAa (qAb 4) qAh)) rfl) (PXd.w (qBr (qAe qBi (qAe qAf qAr)))) (qA6 _))))))))))⟩
end T08
namespace T08
open PySem L2 PD
abbrev I (i:Int):W:=.im (.int i)
abbrev S (ns:List Int):W:=.im #[31]
abbrev Tr:W:=.im (.bl true)
theorem okb {α β:Type}(a:α)(f:α→Rs β):(Rs.ok a>>=f)=f a:=Eq.symm (Eq.symm (PD.ok_bind a f))
theorem mul_ok {i j:Int}(h:(-18446744073709551616 < i∧i < 18446744073709551616)∨(-18446744073709551616 < j∧j < 18446744073709551616)):qR2 (.im (.int i)) (.im (.int j))=.ok (.im (.int (i * j))):=if_pos h
theorem mod_ok {i j:Int}(h:0 < j):qde (.im (.int i)) (.im (.int j))=.ok (.im (.int (i % j))):=if_pos h
theorem add_int {i j:Int}:qCp (.im (.int i)) (.im (.int j))=.ok (.im (.int (i + j))):=rfl
theorem add_str {x y:Str}(h:x.length + y.length≤16777216):qCp (.im (.str x)) (.im (.str y))=.ok (.im (.str (x++y))):=if_pos h
theorem qEm {f g:Bool}{x y:List D}(h:x.length + y.length≤16777216):qCp (.li f x) (.li g y)=.ok (.li true (x++y)):=if_pos h
theorem qbp {i j:Int}:eqW (.im (.int i)) (.im (.int j))=.ok (.im (.bl (decide (i=j)))):=by
 show (if qA3 50 (D.int i)=true∧qA3 50 (D.int j)=true then Rs.ok (W.im (D.bl (i == j))) else Rs.no)=_
 rw [if_pos ⟨rfl,rfl⟩];rfl
theorem eq_str {x y:Str}:eqW (.im (.str x)) (.im (.str y))=.ok (.im (.bl (decide (x=y)))):=by
 show (if qA3 50 (D.str x)=true∧qA3 50 (D.str y)=true then Rs.ok (W.im (D.bl (x == y))) else Rs.no)=_
 rw [if_pos ⟨rfl,rfl⟩];rfl
theorem qd2 {x:Str}:eqW (.im (.str x)) (.im .non)=.ok (.im (.bl false)):=rfl
theorem ne_str {x y:Str}:neW (.im (.str x)) (.im (.str y))=.ok (.im (.bl (!decide (x=y)))):=by
 show (if qA3 50 (D.str x)=true∧qA3 50 (D.str y)=true then Rs.ok (W.im (D.bl (!(x == y)))) else Rs.no)=_
 rw [if_pos ⟨rfl,rfl⟩];rfl
theorem mkTup0:qBy []=.ok (.tup []):=rfl
theorem mkTup1 {a:D}:qBy [a]=.ok (.tup [a]):=if_pos #[30]
theorem mkTup2 {a b:D}:qBy [a,b]=.ok (.tup [a,b]):=if_pos #[30]
theorem mkTup3 {a b c:D}:qBy [a,b,c]=.ok (.tup [a,b,c]):=if_pos #[30]
theorem mkTup4 {a b c d:D}:qBy [a,b,c,d]=.ok (.tup [a,b,c,d]):=if_pos #[30]
theorem mkTup5 {a b c d e:D}:qBy [a,b,c,d,e]=.ok (.tup [a,b,c,d,e]):=if_pos #[30]
theorem mkLst0:qBt []=.ok (.li true []):=rfl
theorem mkLst1 {a:D}:qBt [a]=.ok (.li true [a]):=if_pos #[30]
theorem mkLst2 {a b:D}:qBt [a,b]=.ok (.li true [a,b]):=if_pos #[30]
theorem mkLst3 {a b c:D}:qBt [a,b,c]=.ok (.li true [a,b,c]):=if_pos #[30]
theorem mkLst4 {a b c d:D}:qBt [a,b,c,d]=.ok (.li true [a,b,c,d]):=if_pos #[30]
theorem mkLst5 {a b c d e:D}:qBt [a,b,c,d,e]=.ok (.li true [a,b,c,d,e]):=if_pos #[30]
theorem mkLst6 {a b c d e f:D}:qBt [a,b,c,d,e,f]=.ok (.li true [a,b,c,d,e,f]):=if_pos #[30]
theorem qRr {j:Int}(h:-4611686018427387904≤j∧j < 4611686018427387904):qYb [.im (.int j)]=.ok (qCv j.toNat):=if_pos h
theorem qcg {n:Nat}(h:n < 1000):qYb [.im (.int (n:Int))]=.ok (qCv n):=by
 have:=qRr (j:=(n:Int)) ⟨by omega,by omega⟩
 rw [this,Int.toNat_natCast]
theorem tyS:(("str":String) == "str")=true:=rfl
theorem qCu {α:Sort u}{a b:α}:(if True then a else b)=a:=rfl
theorem qDa {α:Sort u}{a b:α}:(if False then a else b)=b:=rfl
theorem qdq {α:Sort u}{a b:α}:(if true=true then a else b)=a:=rfl
theorem qdr {α:Sort u}{a b:α}:(if false=true then a else b)=b:=rfl
theorem len0 {α:Sort u}{a b:α}:(if (0:Nat)=0 then a else b)=a:=rfl
theorem len1 {α:Sort u}{a b:α}:(if 0 + 1=1 then a else b)=a:=rfl
theorem len2 {α:Sort u}{a b:α}:(if 0 + 1 + 1=2 then a else b)=a:=rfl
theorem len3 {α:Sort u}{a b:α}:(if 0 + 1 + 1 + 1=3 then a else b)=a:=rfl
theorem len5 {α:Sort u}{a b:α}:(if 0 + 1 + 1 + 1 + 1 + 1=5 then a else b)=a:=rfl
local macro_rules | `(tactic| push_cast [$ls,*]) => `(tactic| simp (disch := omega) only [$ls,*, qAn, qAg, toW, qBg, qAc, qAq, qA2, qB4, qAs, qHk, notW, qFe, qC2, part, qDy, qUg, orB, qKf, orW, ifW, qEl, var, qP1, qF7, cst, okb, List.getElem?_cons_zero, List.getElem?_cons_succ, List.length_cons, List.length_nil, W.toD, W.bool, W.tru, W.items, W.walk, W.walkN, W.part, add_int, add_str, qEm, qa7, ltW, leW, gtW, geW, isW, qDj, negW, qYf, qb2, qIs, qYe, tyD, asg, qCk, qB8, qKr, qXo, qFb, qIh, qa6, nilT, qUa, mul_ok, mod_ok, qbp, eq_str, qd2, ne_str, mkTup0, mkTup1, mkTup2, mkTup3, mkTup4, mkTup5, mkLst0, mkLst1, mkLst2, mkLst3, mkLst4, mkLst5, mkLst6, qRr, tyS, qCu, qDa, qdq, qdr, List.set_cons_zero, List.set_cons_succ, Bool.not_true, Bool.not_false, len1, len2, len3, len5, len0, PD.Rs.nox])
local macro_rules | `(tactic| push_cast only [$ls,*]) => `(tactic| (push_cast [$ls,*]; try exact rfl))
def Run (h:qAj→Rs Fl)(δ:qAj)(Q:Fl→Prop):Prop:=∃ f,h δ=.ok f∧Q f
theorem qAv {h k:qAj→Rs Fl}{δ δ':qAj}{Q:Fl→Prop}(e:h δ=.ok (.nx δ'))(r:Run k δ' Q):Run (qBd h k) δ Q:=by
 obtain ⟨f,hf,q⟩:=r
 exact ⟨f,by simp only [qBd,e,hf],q⟩
theorem qCm {h k:qAj→Rs Fl}{δ:qAj}{Q1:qAj→Prop}{Q:Fl→Prop}(e:Run h δ fun f=>∃ δ',f=.nx δ'∧Q1 δ')(r:∀ δ',Q1 δ'→Run k δ' Q):Run (qBd h k) δ Q:=by
 obtain ⟨f,hf,δ',rfl,q⟩:=e
 exact qAv hf (r δ' q)
theorem qRm {h k:qAj→Rs Fl}{δ:qAj}{Q:Fl→Prop}{w:W}(e:h δ=.ok (.rt w))(q:Q (.rt w)):Run (qBd h k) δ Q:=⟨_,by simp only [qBd,e],q⟩
theorem qDz {t:qAj→Rs Bool}{h k:qAj→Rs Fl}{δ:qAj}{Q:Fl→Prop}{b:Bool}(e:t δ=.ok b)(h1:b=true→Run h δ Q)(h2:b=false→Run k δ Q):Run (ifF t h k) δ Q:=by
 cases b with
 | true=>obtain ⟨f,hf,q⟩:=h1 rfl;exact ⟨f,by simp only [ifF,e,PD.ok_bind,qdq,qCu,hf],q⟩
 | false=>obtain ⟨f,hf,q⟩:=h2 rfl;exact ⟨f,by simp only [ifF,e,PD.ok_bind,qdr,qDa,Bool.false_eq_true,hf],q⟩
theorem qce {t:qAj→Rs Bool}{h k:qAj→Rs Fl}{δ:qAj}{Q:Fl→Prop}(e:t δ=.ok false)(h1:Run k δ Q):Run (ifF t h k) δ Q:=qDz e (fun x=>nomatch x) (fun _=>h1)
theorem qAp {t:qAj→Rs Bool}{h k r:qAj→Rs Fl}{δ:qAj}{Q:Fl→Prop}{b:Bool}(e:t δ=.ok b)(h1:b=true→Run (qBd h r) δ Q)(h2:b=false→Run (qBd k r) δ Q):Run (qBd (ifF t h k) r) δ Q:=by
 cases b with
 | true=>obtain ⟨f,hf,q⟩:=h1 rfl;refine ⟨f,?_,q⟩;rw [←hf];simp only [qBd,ifF,e,PD.ok_bind,qdq,qCu]
 | false=>obtain ⟨f,hf,q⟩:=h2 rfl;refine ⟨f,?_,q⟩;rw [←hf];simp only [qBd,ifF,e,PD.ok_bind,qdr,Bool.false_eq_true,qDa]
theorem qBe {δ:qAj}{Q:Fl→Prop}{k:qAj→Rs Fl}(r:Run k δ Q):Run (qBd qC8 k) δ Q:=qAv rfl r
theorem qAw {g:qAj→Rs W}{δ:qAj}{Q:Fl→Prop}{w:W}(e:g δ=.ok w)(q:Q (.rt w)):Run (qB8 g) δ Q:=⟨_,by simp only [qB8,e,PD.ok_bind],q⟩
theorem qBl {g:qAj→Rs W}{k:qAj→Rs Fl}{δ:qAj}{Q:Fl→Prop}{w:W}(e:g δ=.ok w)(q:Q (.rt w)):Run (qBd (qB8 g) k) δ Q:=qRm (by simp only [qB8,e,PD.ok_bind]) q
theorem qJb {N:List Str}{h:qAj→Rs Fl}{ws:List W}{P:W→Prop}(r:Run h (frame N ws) fun f=>∃ w,f=.rt w∧P w):∃ w,mir N h ws=.ok w∧P w:=by
 obtain ⟨f,hf,w,rfl,p⟩:=r
 exact ⟨w,by show (h _>>=fin)=_;rw [hf];rfl,p⟩
theorem qAx {N:List Str}{h:qAj→Rs Fl}{ws:List W}{w:W}(r:Run h (frame N ws) fun f=>f=.rt w):mir N h ws=.ok w:=by
 obtain ⟨f,hf,rfl⟩:=r
 show (h _>>=fin)=_;rw [hf];rfl
theorem qSi {t:D→qAj→Rs qAj}{b:qAj→Rs Fl}:∀ (ds:List D) (J:Nat→qAj→Prop) (δ:qAj),J 0 δ→
  (∀ (i:Nat) (d:D) (δ:qAj),ds[i]?=some d→J i δ→∃ δ1,t d δ=.ok δ1∧Run b δ1 fun f=>∃ δ2,f=.nx δ2∧J (i + 1) δ2)→∃ δ',qFh t b ds δ=.ok (.nx δ')∧J ds.length δ'
 | [],J,δ,h0,_=>⟨δ,rfl,h0⟩
 | d::ds,J,δ,h0,hs=>by
  obtain ⟨δ1,e1,f,e2,δ2,rfl,j⟩:=hs 0 d δ rfl h0
  obtain ⟨δ',e3,j'⟩:=qSi ds (fun i=>J (i + 1)) δ2 j fun i d' δ h hj=>hs (i + 1) d' δ h hj
  exact ⟨δ',by simp only [qFh,e1,e2,e3],j'⟩
theorem qFp {gi:qAj→Rs (List D)}{t:D→qAj→Rs qAj}{b:qAj→Rs Fl}{δ:qAj}{ds:List D}{Q:Fl→Prop}(J:Nat→qAj→Prop)(e:gi δ=.ok ds)(h0:J 0 δ)
  (hs:∀ (i:Nat) (d:D) (δ:qAj),ds[i]?=some d→J i δ→∃ δ1,t d δ=.ok δ1∧Run b δ1 fun f=>∃ δ2,f=.nx δ2∧J (i + 1) δ2) (hq:∀ δ',J ds.length δ'→Q (.nx δ')):Run (qH5 gi t b) δ Q:=by
 obtain ⟨δ',e',j⟩:=qSi ds J δ h0 hs
 exact ⟨_,by simp only [qH5,e,PD.ok_bind];exact e',hq _ j⟩
theorem qHq {w:W}{ds:List D}{b:Bool}{i:Int}{d:D}(hw:w.items=some (b,ds))(h0:0≤i)(h:ds[i.toNat]?=some d):ixW w (.im (.int i))=.ok (.im d):=by
 have hl:i.toNat < ds.length:=by
  rcases Nat.lt_or_ge i.toNat ds.length with g | g
  ·exact g
  ·rw [List.getElem?_eq_none g] at h;cases h
 have:atI ds i=some d:=by
  unfold atI ixN
  rw [if_pos h0,if_pos #[0]];exact h
 simp only [ixW,hw,this]
theorem ix_m1 {w:W}{ds:List D}{b:Bool}{d:D}(hw:w.items=some (b,ds))(h:ds[ds.length - 1]?=some d):ixW w (.im (.int (-1)))=.ok (.im d):=by
 have hl:ds.length - 1 < ds.length:=by
  rcases Nat.lt_or_ge (ds.length - 1) ds.length with g | g
  ·exact g
  ·rw [List.getElem?_eq_none g] at h;cases h
 have:atI ds (-1)=some d:=by
  unfold atI ixN
  rw [if_neg #[0],if_pos #[0]]
  have e:((-1:Int) + (ds.length:Int)).toNat=ds.length - 1:=by omega
  rw [e];exact h
 simp only [ixW,hw,this]
def cell (ns:List Int)(k:Int):Int:=if k < ns.length then ns.getD k.toNat 0 else if ns=[] then 0 else ns.getD (k % ns.length).toNat 0 * 31 + k
def mx (ns:List Int)(k many:Int):Int:=let d:=(cell ns k + 7919 * k + 1) * 48271 % 2147483647;(d * d + 7 * d + k) % 2147483629 % many
theorem ix_S {ns:List Int}{i:Int}(h0:0≤i)(h:i < ns.length):ixW (S ns) (.im (.int i))=.ok (.im (.int (ns.getD i.toNat 0))):=by
 refine qHq rfl h0 ?_
 rw [List.getElem?_map,List.getD_eq_getElem?_getD,List.getElem?_eq_getElem #[0]];rfl
theorem qPc:∀ (n:Nat) (ns:List Int),fineDs n (ns.map D.int)=true
 | _,[]=>by unfold fineDs;rfl
 | n,x::r=>by
  have:=qPc n r
  unfold fineDs;rw [List.map_cons];simp only [this,qA3,Bool.and_self]
theorem eq_S {ns:List Int}:eqW (S ns) (.li true [])=.ok (.im (.bl (decide (ns=[])))):=by
 have h1:qA3 50 (S ns).dat=true:=qPc 49 ns
 have h2:qA3 50 (W.li true []).dat=true:=rfl
 unfold eqW;rw [if_pos ⟨h1,h2⟩]
 cases ns <;> rfl
theorem qav {ns:List Int}{k:Int}(hk:0≤k):qFy [S ns,.im (.int k)]=.ok (.im (.int (cell ns k))):=by
 refine qAx ?_
 refine qAp (b:=decide (k < ns.length)) (δ:=[.im #[31],.im (.int k)]) (by push_cast [okb];rw [List.length_map]) (fun h=>?_) (fun h=>?_)
 ·have h:=of_decide_eq_true h
  refine qBl (by push_cast only [ix_S hk h]) ?_
  unfold cell;rw [if_pos h]
 ·have h:=of_decide_eq_false h
  refine qBe ?_
  refine qAp (b:=decide (ns=[])) (by push_cast [eq_S]) (fun g=>?_) (fun g=>?_)
  ·have g:=of_decide_eq_true g
   refine qBl #[20] ?_
   unfold cell;rw [if_neg h,if_pos g]
  ·have g:=of_decide_eq_false g
   have gl:0 < ns.length:=List.length_pos_iff.mpr g
   have m0:=Int.emod_nonneg k (b:=ns.length) #[0]
   have m1:=Int.emod_lt_of_pos k (b:=ns.length) #[0]
   refine qBe ?_
   refine qAw (by push_cast only [List.length_map,ix_S m0 m1]) ?_
   unfold cell;rw [if_neg h,if_neg g]
theorem qBc {ns:List Int}{k many:Int}(hk:0≤k)(hm:0 < many):qA8 [S ns,.im (.int k),.im (.int many)]=.ok (.im (.int (mx ns k many))):=by
 refine qAx ?_
 have m0:=Int.emod_nonneg ((cell ns k + 7919 * k + 1) * 48271) (b:=2147483647) #[0]
 have m1:=Int.emod_lt_of_pos ((cell ns k + 7919 * k + 1) * 48271) (b:=2147483647) #[0]
 refine qAv (δ:=[.im #[31],.im (.int k),.im (.int many),.un]) (by push_cast [qav hk];exact rfl) ?_
 refine qAw (by push_cast [okb];exact rfl) ?_
 rfl
theorem qP3 {ns:List Int}{k many:Int}(hm:0 < many):0≤mx ns k many:=Int.emod_nonneg _ #[0]
theorem qGk {ns:List Int}{k many:Int}(hm:0 < many):mx ns k many < many:=Int.emod_lt_of_pos _ hm
theorem qPj {t:qAj→Rs Bool}{el:qAj→Rs D}{δ:qAj}{p:D→Bool}{f:D→D}:∀ (ds:List D),(∀ d∈ds,t (.im d::δ)=.ok (p d)∧(p d=true→el (.im d::δ)=.ok (f d)))→qF5 t el ds δ=.ok ((ds.filter p).map f)
 | [],_=>rfl
 | d::ds,h=>by
  have ih:=qPj ds fun x hx=>h x (List.mem_cons_of_mem _ hx)
  obtain ⟨h1,h2⟩:=h d (List.mem_cons_self ..)
  rw [List.filter_cons]
  unfold qF5
  rw [h1,PD.ok_bind]
  by_cases e:p d=true
  ·rw [if_pos e,if_pos e,h2 e,ih];rfl
  ·rw [if_neg e,if_neg e,ih]
theorem qJ8 {t:qAj→Rs Bool}{el:qAj→Rs D}{δ:qAj}{ds:List D}(p:D→Bool)(f:D→D)(hl:ds.length < 16777216)(h:∀ d∈ds,t (.im d::δ)=.ok (p d)∧(p d=true→el (.im d::δ)=.ok (f d))) :
  qJ9 t el ds δ=.ok (.li true ((ds.filter p).map f)):=by
 unfold qJ9;rw [if_pos (show _ < lim from hl),qPj ds h];rfl
theorem qE0 {el:qAj→Rs D}{δ:qAj}{ds:List D}(f:D→D)(hl:ds.length < 16777216)(h:∀ d∈ds,el (.im d::δ)=.ok (f d)) :
  qJ9 (fun _=>.ok true) el ds δ=.ok (.li true (ds.map f)):=by
 have:=qJ8 (t:=fun _=>.ok true) (el:=el) (δ:=δ) (ds:=ds) (fun _=>true) f hl fun d hd=>⟨rfl,fun _=>h d hd⟩
 rw [this,List.filter_eq_self.mpr #[11]]
theorem qLy:∀ (ds:List D),qFj (ds.map fun _=>D.bl true)=some (ds.map fun _=>true)
 | []=>rfl
 | d::ds=>by
  have:=qLy ds
  simp only [List.map_cons,qFj,this,Option.map_some]
theorem qay (ds:List D):qX6 [.li true (ds.map fun _=>D.bl true)]=.ok Tr:=by
 have:(ds.map fun _=>true).all id=true:=by
  rw [List.all_eq_true];intro x hx;obtain ⟨_,_,rfl⟩:=List.mem_map.mp hx;rfl
 simp only [qX6,W.seq,qLy,this]
theorem qM8 {gi:qAj→Rs (List D)}{el:qAj→Rs D}{δ:qAj}{ds:List D}(hg:gi δ=.ok ds)(hl:ds.length < 16777216)(h:∀ d∈ds,el (.im d::δ)=.ok (.bl true)) :
  qAg (qAc (qC2 gi (fun _=>.ok true) el) qA2) qX6 δ=.ok Tr:=by
 simp only [qAg,qAc,qC2,qA2,hg,PD.ok_bind,qE0 (fun _=>D.bl true) hl h,qay]
def Low (s:Str):Prop:=∀ c∈s.cps.toList,97≤c∧c≤122
structure WordS (s:Str):Prop where
 lo:1≤s.length
 hi:s.length≤6
 low:Low s
theorem qaz:(Str.ofString "abcdefghijklmnopqrstuvwxyz").cps.toList=(List.range 26).map (97 + ·):=by decide +kernel
theorem qej:(Str.ofString "abcdefghijklmnopqrstuvwxyz").length=26:=by decide +kernel
theorem abc_in:∀ n,n < 26→qdp ⟨#[97 + n]⟩ (Str.ofString "abcdefghijklmnopqrstuvwxyz")=true:=by decide +kernel
theorem ix_abc {j:Int}(h0:0≤j)(h:j < 26):ixW (.im (.str "abcdefghijklmnopqrstuvwxyz")) (.im (.int j))=.ok (.im (.str ⟨#[97 + j.toNat]⟩)):=by
 have e:atI (Str.ofString "abcdefghijklmnopqrstuvwxyz").cps.toList j=some (97 + j.toNat):=by
  rw [qaz]
  unfold atI ixN
  rw [if_pos h0,if_pos (by rw [List.length_map,List.length_range];omega)]
  show ((List.range 26).map (97 + ·))[j.toNat]?=_
  rw [List.getElem?_map,List.getElem?_range #[0]];rfl
 simp only [ixW,W.items,e]
 exact if_pos (by rw [qej];decide)
theorem len_str {s:Str}(h:s.length≤6):qIs [.im (.str s)]=.ok (.im (.int s.length)):=by
 show (if s.length≤lim then Rs.ok (W.im (D.int s.length)) else Rs.no)=_
 exact if_pos (by show _≤16777216;omega)
theorem qC1 {s:Str}(h:WordS s):qC9 [.im (.str s)]=.ok Tr:=by
 have h1:=h.lo;have h2:=h.hi
 refine qAx ?_
 refine qAp (b:=false) (δ:=[.im (.str s)]) ?_ #[14] (fun _=>qBe ?_)
 ·have a1:decide ((1:Int)≤(s.length:Int))=true:=decide_eq_true #[0]
  have a2:decide ((s.length:Int)≤6)=true:=decide_eq_true #[0]
  simp only [orB,qHk,qEl,qAg,var,qAc,qA2,toW,cst,PD.ok_bind,List.getElem?_cons_zero,qYe,tyD,W.tru,len_str h2,leW,W.bool,a1,a2,qCu,tyS,Bool.not_true,Bool.false_eq_true,qDa]
 ·refine qAw (w:=Tr) (qM8 (ds:=qb7 s) rfl ?_ ?_) rfl
  ·unfold qb7;rw [List.length_map];show s.cps.size < _;have:s.cps.size=s.length:=rfl;omega
  ·intro d hd
   obtain ⟨c,hc,rfl⟩:=List.mem_map.mp hd
   obtain ⟨c1,c2⟩:=h.low c hc
   have e:c=97 + (c - 97):=by omega
   have:=abc_in (c - 97) #[0]
   rw [←e] at this
   simp only [qBg,qAn,var,List.getElem?_cons_zero,PD.ok_bind,toW,cst,inW,W.items,this,W.toD]
theorem qF9:∀ (ss:List Str),qNg #[15]=some ss
 | []=>rfl
 | s::ss=>by simp only [List.map_cons,qNg,qF9 ss,Option.map_some]
theorem qLc (ss:List Str)(h:ss.Nodup):∀ i,i≤ss.length→qHa (fun i=>ss.getD i Str.empty) i=ss.take i
 | 0,_=>by rw [List.take_zero];rfl
 | i + 1,hi=>by
  have ih:=qLc ss h i #[0]
  rw [qHa,ih,List.take_succ,List.getD_eq_getElem?_getD,List.getElem?_eq_getElem #[0]]
  unfold qKh
  rw [if_neg,Option.getD_some];· rfl
  intro hc
  obtain ⟨x,hx,e⟩:=List.any_eq_true.mp hc
  have e:x=ss[i]:=by simpa using e
  subst e
  obtain ⟨j,hj,he⟩:=List.mem_iff_getElem.mp hx
  rw [List.length_take] at hj
  rw [List.getElem_take] at he
  exact (List.pairwise_iff_getElem.mp h j i #[0] #[0] #[0]) he
theorem qHp {w:W}{b:Bool}{ss:List Str}(hw:w.items=some (b,ss.map D.str))(h:ss.Nodup)(hl:ss.length < 1000):qGt w=.ok (.im (.int ss.length)):=by
 simp only [qGt,hw,qF9]
 rw [if_pos hl]
 unfold qHc
 rw [qLc ss h _ #[10],List.take_length]
theorem qEg {w:W}{b:Bool}{ss:List Str}(hw:w.items=some (b,ss.map D.str))(h:∀ s∈ss,WordS s)(hl:ss.length < 1000):qCz [w]=.ok Tr:=by
 refine qAx ?_
 have hv:var 0 [w.slot]=.ok (match w with | .im d=>.im d | .li _ ds=>.li false ds):=by cases w <;> rfl
 have hk:qAg #[1] W.walk [w.slot]=.ok #[15]:=by
  simp only [qAg,hv,PD.ok_bind]
  cases w with
  | im d=>simp only [W.walk,hw]
  | li f ds=>simp only [W.items,Option.some.injEq,Prod.mk.injEq] at hw;simp only [W.walk,W.items,hw.2]
 refine qAw (w:=Tr) (qM8 (δ:=[w.slot]) hk ?_ ?_) rfl
 ·rw [List.length_map];omega
 ·intro d hd
  obtain ⟨s,hs,rfl⟩:=List.mem_map.mp hd
  push_cast [qC1 (h s hs)]
theorem qFk {w:W}{b:Bool}{ss:List Str}(hw:w.items=some (b,ss.map D.str))(h:ss.Nodup)(hl:ss.length < 1000):qDs [w]=.ok Tr:=by
 refine qAx ?_
 have hv:∃ b' w',var 0 [w.slot]=.ok w'∧w'.items=some (b',ss.map D.str):=by
  cases w with
  | im d=>exact ⟨b,_,rfl,hw⟩
  | li f ds=>simp only [W.items,Option.some.injEq,Prod.mk.injEq] at hw;exact ⟨true,_,rfl,by simp only [W.items,hw.2]⟩
 obtain ⟨b',w',e1,e2⟩:=hv
 refine qAw (w:=Tr) (δ:=[w.slot]) ?_ rfl
 have e3:qIs [w']=.ok (.im (.int ss.length)):=by simp only [qIs,e2,List.length_map]
 simp only [qAn,qAg,e1,PD.ok_bind,qHp e2 h hl,qAc,qA2,e3,qbp,decide_true]
theorem qB0 {ds:List D}{lo hi:Int}(h1:lo≤ds.length)(h2:(ds.length:Int)≤hi):qBs [.im (.tup ds),.im (.int lo),.im (.int hi)]=.ok Tr:=by
 refine qAx ?_
 have a1:decide (lo≤(ds.length:Int))=true:=decide_eq_true h1
 have a2:decide ((ds.length:Int)≤hi)=true:=decide_eq_true h2
 refine qAw (w:=Tr) (δ:=[.im (.tup ds),.im (.int lo),.im (.int hi)]) ?_ rfl
 simp only [qKf,qEl,qAg,var,qAc,qA2,PD.ok_bind,List.getElem?_cons_zero,List.getElem?_cons_succ,qYe,tyD,qIs,W.items,leW,W.bool,a1,a2,qCu]
 rfl
theorem qDd {i lo hi:Int}(h1:lo≤i)(h2:i≤hi):qCd [.im (.int i),.im (.int lo),.im (.int hi)]=.ok Tr:=by
 refine qAx ?_
 have a1:decide (lo≤i)=true:=decide_eq_true h1
 have a2:decide (i≤hi)=true:=decide_eq_true h2
 refine qAp (b:=false) (δ:=[.im (.int i),.im (.int lo),.im (.int hi)]) rfl #[14] (fun _=>qBe ?_)
 refine qAw (w:=Tr) ?_ rfl
 simp only [qEl,var,PD.ok_bind,List.getElem?_cons_zero,List.getElem?_cons_succ,leW,W.bool,a1,a2,qCu]
theorem qMf {n i:Nat}{d:D}(h:(qCv n)[i]?=some d):d=.int i∧i < n:=by
 unfold qCv at h
 rw [List.getElem?_map] at h
 rcases Nat.lt_or_ge i n with g | g
 ·rw [List.getElem?_range g] at h;cases h;exact ⟨rfl,g⟩
 ·rw [List.getElem?_eq_none (by rw [List.length_range];exact g)] at h;cases h
theorem qGe (n:Nat):(qCv n).length=n:=by unfold qCv;rw [List.length_map,List.length_range]
theorem qeg (x y:Str):(x++y).length=x.length + y.length:=by show (x.cps++y.cps).size=_;rw [Array.size_append];rfl
theorem qef {x y:Str}(h1:Low x)(h2:Low y):Low (x++y):=by
 intro c hc
 have:c∈(x.cps++y.cps).toList:=hc
 rw [Array.toList_append,List.mem_append] at this
 exact this.elim (h1 c) (h2 c)
theorem qYk {ns:List Int}{at_:Int}(ha:0≤at_):∃ s,qIp [S ns,.im (.int at_)]=.ok (.im (.str s))∧WordS s∧s.length≠5:=by
 suffices h:∃ w,qIp [S ns,.im (.int at_)]=.ok w∧∃ s,w=.im (.str s)∧WordS s∧s.length≠5 by
  obtain ⟨_,h1,s,rfl,h2⟩:=h;exact ⟨s,h1,h2⟩
 refine qJb ?_
 have m0:=qP3 (ns:=ns) (k:=at_) (many:=6) #[0]
 have m1:=qGk (ns:=ns) (k:=at_) (many:=6) #[0]
 have hn:∃ n:Nat,1≤n∧n≤6∧n≠5∧ixW (.li true [.int 1,.int 2,.int 3,.int 6,.int 1,.int 4]) (.im (.int (mx ns at_ 6)))=.ok (.im (.int n)):=by
  generalize mx ns at_ 6=j at *
  have:j=0∨j=1∨j=2∨j=3∨j=4∨j=5:=by omega
  rcases this with rfl | rfl | rfl | rfl | rfl | rfl
  ·exact ⟨1,by omega,by omega,by omega,rfl⟩
  ·exact ⟨2,by omega,by omega,by omega,rfl⟩
  ·exact ⟨3,by omega,by omega,by omega,rfl⟩
  ·exact ⟨6,by omega,by omega,by omega,rfl⟩
  ·exact ⟨1,by omega,by omega,by omega,rfl⟩
  ·exact ⟨4,by omega,by omega,by omega,rfl⟩
 obtain ⟨n,n1,n2,n5,hn⟩:=hn
 refine qAv (δ:=[.im #[31],.im (.int at_),.un,.un]) #[20] ?_
 refine qCm (Q1:=fun δ=>∃ s k,δ=[.im #[31],.im (.int at_),.im (.str s),k]∧s.length=n∧Low s) ?_ ?_
 ·refine qFp (ds:=qCv n) (fun i δ=>i≤n→∃ s k,δ=[.im #[31],.im (.int at_),.im (.str s),k]∧s.length=i∧Low s) ?_ (fun _=>⟨_,_,rfl,rfl,fun c hc=>nomatch hc⟩) ?_ (fun δ' hj=>⟨_,rfl,?_⟩)
  ·have hr:=qcg (n:=n) #[0]
   push_cast [qBc ha (show (0:Int) < 6 by omega),hn,hr]
  ·intro i d δ hd hj
   obtain ⟨rfl,hi⟩:=qMf hd
   obtain ⟨s,k,rfl,hs,hlow⟩:=hj #[0]
   refine ⟨_,rfl,?_⟩
   have q0:=qP3 (ns:=ns) (k:=at_ + 1 + (i:Int)) (many:=26) #[0]
   have q1:=qGk (ns:=ns) (k:=at_ + 1 + (i:Int)) (many:=26) #[0]
   have q2:s.length + (⟨#[97 + (mx ns (at_ + 1 + (i:Int)) 26).toNat]⟩:Str).length≤16777216:=by
    show s.length + 1≤_;omega
   refine ⟨_,(by push_cast only [qBc (show 0≤at_ + 1 + (i:Int) by omega) (show (0:Int) < 26 by omega),ix_abc q0 q1,add_str q2]),_,rfl,fun _=>⟨_,_,rfl,?_,?_⟩⟩
   ·rw [qeg,hs];rfl
   ·refine qef hlow fun c hc=>?_
    have:c=97 + (mx ns (at_ + 1 + (i:Int)) 26).toNat:=by simpa using hc
    omega
  ·rw [qGe] at hj;exact hj #[10]
 ·rintro _ ⟨s,k,rfl,hs,hlow⟩
  exact qAw #[20] ⟨_,rfl,s,rfl,⟨by omega,by omega,hlow⟩,by omega⟩
structure NamesOk (ss:List Str):Prop where
 pos:0 < ss.length
 le:ss.length≤4
 nd:ss.Nodup
 wd:∀ s∈ss,WordS s
 n5:∀ s∈ss,s.length≠5
theorem put_in (ks:List (Key×D))(k:Key)(d:D)(h:k∈ks.map (·.1)):(qMi ks k d).map (·.1)=ks.map (·.1):=by
 unfold qMi
 have:(ks.any fun kv=>decide (kv.1=k))=true:=by
  obtain ⟨q,hq,e⟩:=List.mem_map.mp h
  exact List.any_eq_true.mpr ⟨q,hq,decide_eq_true e⟩
 rw [if_pos this,List.map_map]
 refine List.map_congr_left fun q _=>?_
 show (if q.1=k then (q.1,d) else q).1=q.1
 split <;> rfl
theorem qcr (ks:List (Key×D))(k:Key)(d:D)(h:k∉ks.map (·.1)):(qMi ks k d).map (·.1)=ks.map (·.1)++[k]:=by
 unfold qMi
 have:¬ (ks.any fun kv=>decide (kv.1=k))=true:=by
  intro hc
  obtain ⟨q,hq,e⟩:=List.any_eq_true.mp hc
  exact h (List.mem_map.mpr ⟨q,hq,of_decide_eq_true e⟩)
 rw [if_neg this,List.map_append];rfl
theorem qd6 {i:Nat}{gv ge:qAj→Rs D}{δ:qAj}{ks:List (Key×D)}{d kd:D}{k:Key}(h:δ[i]?=some (.dct ks))(hv:gv δ=.ok d)(he:ge δ=.ok kd)(hk:keyD kd=some k)(hl:ks.length < 1000) :
  qXt i gv ge δ=.ok (.nx (δ.set i (.dct (qMi ks k d)))):=by
 simp only [qXt,h,hv,he,hk,okb]
 exact if_pos (by show _ < 16777216;omega)
theorem qV9 {ns:List Int}{at_:Int}(ha:0≤at_):∃ ss,qGr [S ns,.im (.int at_)]=.ok (.li true #[15])∧NamesOk ss:=by
 suffices h:∃ w,qGr [S ns,.im (.int at_)]=.ok w∧∃ ss,w=.li true #[15]∧NamesOk ss by
  obtain ⟨_,h1,ss,rfl,h2⟩:=h;exact ⟨ss,h1,h2⟩
 refine qJb ?_
 refine qAv (δ:=[.im #[31],.im (.int at_),.un,.un]) (δ':=[.im #[31],.im (.int at_),.dct [],.un]) rfl ?_
 let J:Nat→qAj→Prop:=fun i δ=>∃ (ss:List Str) (ks:List (Key×D)) (k:Sl),δ=[.im #[31],.im (.int at_),.dct ks,k]∧ks.map (·.1)=ss.map Sum.inr∧ss.Nodup∧(∀ s∈ss,WordS s∧s.length≠5)∧ss.length≤i∧(0 < i→0 < ss.length)
 refine qCm (Q1:=fun δ=>J 4 δ) ?_ ?_
 ·refine qFp (ds:=qCv 4) (fun i δ=>i≤4→J i δ) rfl (fun _=>⟨[],[],.un,rfl,rfl,List.nodup_nil,(fun _ h=>nomatch h),Nat.le_refl _,fun h=>absurd h (Nat.lt_irrefl _)⟩) ?_ (fun δ' hj=>⟨_,rfl,hj #[10]⟩)
  intro i d δ hd hj
  obtain ⟨rfl,hi⟩:=qMf hd
  obtain ⟨ss,ks,k,rfl,h1,h2,h3,h4,h5⟩:=hj #[0]
  refine ⟨_,rfl,?_⟩
  obtain ⟨s,hs,hw⟩:=qYk (ns:=ns) (at_:=at_ + 8 * (i:Int)) #[0]
  have hkl:ks.length=ss.length:=by simpa using congrArg List.length h1
  refine ⟨_,qd6 (k:=.inr s) (kd:=.str s) (d:=.bl true) rfl rfl (by push_cast only [hs]) rfl #[0],_,rfl,fun _=>?_⟩
  by_cases hm:s∈ss
  ·refine ⟨ss,_,_,rfl,?_,h2,h3,by omega,fun _=>List.length_pos_of_mem hm⟩
   rw [put_in _ _ _ (by rw [h1];exact List.mem_map.mpr ⟨s,hm,rfl⟩),h1]
  ·refine ⟨ss++[s],_,_,rfl,?_,?_,?_,?_,?_⟩
   ·rw [qcr,h1,List.map_append];· rfl
    rw [h1];intro hc;obtain ⟨x,hx,e⟩:=List.mem_map.mp hc;cases e;exact hm hx
   ·rw [List.nodup_append]
    refine ⟨h2,by simp,fun a ha b hb=>?_⟩
    have:b=s:=by simpa using hb
    subst this;intro e;subst e;exact hm ha
   ·intro x hx
    rcases List.mem_append.mp hx with g | g
    ·exact h3 x g
    ·have:x=s:=by simpa using g
     subst this;exact hw
   ·rw [List.length_append];show ss.length + 1≤_;omega
   ·intro _;rw [List.length_append];show 0 < ss.length + 1;omega
 ·rintro _ ⟨ss,ks,k,rfl,h1,h2,h3,h4,h5⟩
  refine qAw (w:=.li true #[15]) ?_ ⟨_,rfl,ss,rfl,⟨h5 #[0],h4,h2,fun s hs=>(h3 s hs).1,fun s hs=>(h3 s hs).2⟩⟩
  show Rs.ok (W.li true (ks.map fun q=>kD q.1))=_
  have:(ks.map fun q=>kD q.1)=ss.map D.str:=by
   have:(ks.map fun q=>kD q.1)=(ks.map (·.1)).map kD:=by rw [List.map_map];rfl
   rw [this,h1,List.map_map];rfl
  rw [this]
inductive RowF:D→Prop
 | put {f:Str} {n:Int} (hf:WordS f) (h0:0≤n) (h1:n≤99):RowF (.tup [.str "put",.str f,.int n])
 | read {f n o:Str} (hf:WordS f) (hn:WordS n) (ho:WordS o):RowF (.tup [.str "read",.str f,.str n,.str o])
 | need {n:Str} (hn:WordS n):RowF (.tup [.str "need",.str n])
 | note {n:Str} (hn:WordS n):RowF (.tup [.str "note",.str n])
 | fail {n:Str} (hn:WordS n):RowF (.tup [.str "fail",.str n])
structure RowOk (d:D):Prop where
 is:qGn [.im d]=.ok Tr
 fine:qA3 47 d=true
 f2:qA3 2 d=true
 fm:RowF d
theorem qIa (s:String)(h:decide (1≤(Str.ofString s).length∧(Str.ofString s).length≤6∧∀ c∈(Str.ofString s).cps.toList,97≤c∧c≤122)=true):WordS (Str.ofString s):=
 let h:=of_decide_eq_true h;⟨h.1,h.2.1,h.2.2⟩
theorem w_put:WordS (Str.ofString "put"):=qIa _ #[19]
theorem w_read:WordS (Str.ofString "read"):=qIa _ #[19]
theorem w_need:WordS (Str.ofString "need"):=qIa _ #[19]
theorem w_note:WordS (Str.ofString "note"):=qIa _ #[19]
theorem w_fail:WordS (Str.ofString "fail"):=qIa _ #[19]
theorem w_f:WordS (Str.ofString "f"):=qIa _ #[19]
theorem w_g:WordS (Str.ofString "g"):=qIa _ #[19]
theorem w_x:WordS (Str.ofString "x"):=qIa _ #[19]
theorem w_y:WordS (Str.ofString "y"):=qIa _ #[19]
theorem qb0:WordS (Str.ofString "class"):=qIa _ #[19]
theorem w_face:WordS (Str.ofString "face"):=qIa _ #[19]
theorem ix0 {d:D}{ds:List D}:ixW (.im (.tup (d::ds))) (.im (.int 0))=.ok (.im d):=qHq rfl #[0] rfl
theorem ix1 {d e:D}{ds:List D}:ixW (.im (.tup (d::e::ds))) (.im (.int 1))=.ok (.im e):=qHq rfl #[0] rfl
theorem ix2 {d e f:D}{ds:List D}:ixW (.im (.tup (d::e::f::ds))) (.im (.int 2))=.ok (.im f):=qHq rfl #[0] rfl
theorem ix3 {d e f g:D}{ds:List D}:ixW (.im (.tup (d::e::f::g::ds))) (.im (.int 3))=.ok (.im g):=qHq rfl #[0] rfl
theorem ix4 {d e f g k:D}{ds:List D}:ixW (.im (.tup (d::e::f::g::k::ds))) (.im (.int 4))=.ok (.im k):=qHq rfl #[0] rfl
theorem qa8 {k:Str}{ds:List D}{b:Bool}{r:W}(hk:WordS k)(hl:1≤ds.length)(hl':ds.length≤3)(hb:decide (k=Str.ofString "put")=b)
  (h1:b=true→qKf (qAn eqW (qAg (qAc #[1] qA2) qIs) (toW (cst (.int 3)))) (qKf (qAs qC9 1 (qAc (qAn ixW #[1] #[13]) qA2)) (qAs qCd 3 (qAc (qAn ixW #[1] #[23]) (qAc #[7] (qAc (toW (cst (.int 99))) qA2))))) [.im (.tup (.str k::ds))]=.ok r)
  (h2:b=false→qKf (qAn eqW (qAg (qAn ixW #[1] #[7]) (qO8 [("read",3),("need",1),("note",1),("fail",1)])) (qAn qa7 (qAg (qAc #[1] qA2) qIs) #[13])) (qAs qCz 1 (qAc (qFe #[1] (part #[13]) qDy) qA2)) [.im (.tup (.str k::ds))]=.ok r) :
  qGn [.im (.tup (.str k::ds))]=.ok r:=by
 refine qAx ?_
 have it:=qB0 (ds:=.str k::ds) (lo:=2) (hi:=4) (by rw [List.length_cons];omega) (by rw [List.length_cons];omega)
 refine qAp (b:=false) (δ:=[.im (.tup (.str k::ds))]) (by push_cast [it,ix0,qC1 hk,Bool.false_eq_true]) #[14] (fun _=>qBe ?_)
 refine qAp (b:=b) (by push_cast [ix0,hb]) (fun hb=>?_) (fun hb=>qBe ?_)
 ·exact qBl (h1 hb) rfl
 ·exact qAw (h2 hb) rfl
theorem qcf {f:Str}{n:Int}(hf:WordS f)(h0:0≤n)(h1:n≤99):RowOk (.tup [.str "put",.str f,.int n]):=
 ⟨qa8 (b:=true) w_put #[30] #[30] (decide_eq_true rfl) (fun _=>by
  have e:decide ((((0:Nat) + 1 + 1 + 1:Nat):Int)=3)=true:=rfl
  push_cast [ix1,ix2,qC1 hf,qDd h0 h1,e]) (fun h=>nomatch h),rfl,rfl,.put hf h0 h1⟩
theorem qMe {k:Str}{ss:List Str}{n:Int}(hk:WordS k)(hl:1≤ss.length)(hl':ss.length≤3)(hb:decide (k=Str.ofString "put")=false)(ht:qO8 [("read",3),("need",1),("note",1),("fail",1)] (.im (.str k))=.ok (.im (.int n)))(hn:n=ss.length)(hw:∀ s∈ss,WordS s) :
  qGn [.im (.tup (.str k::ss.map D.str))]=.ok Tr:=by
 refine qa8 (b:=false) hk (by rw [List.length_map];exact hl) (by rw [List.length_map];exact hl') hb #[14] (fun _=>?_)
 have e:decide (n=((ss.length + 1:Nat):Int) - 1)=true:=decide_eq_true #[0]
 have ec:cut (D.str k::ss.map D.str) (some 1) none=ss.map D.str:=by
  unfold cut
  show (List.drop (min 1 #[15].length.succ) (D.str k::ss.map D.str)).take (#[15].length.succ - min 1 #[15].length.succ)=_
  have:min 1 #[15].length.succ=1:=by omega
  rw [this,List.drop_one,List.tail_cons]
  exact List.take_of_length_le #[0]
 have ew:=qEg (w:=.im (.tup #[15])) rfl hw #[0]
 push_cast [ix0,ht,List.length_map,e,slW,ec,ew]
theorem qYx {f n o:Str}(hf:WordS f)(hn:WordS n)(ho:WordS o):RowOk (.tup [.str "read",.str f,.str n,.str o]):=
 ⟨qMe (ss:=[f,n,o]) (n:=3) w_read #[30] #[30] #[19] (by rfl) rfl (by
  intro s hs;simp only [List.mem_cons,List.not_mem_nil,or_false] at hs;rcases hs with rfl | rfl | rfl <;> assumption),rfl,rfl,.read hf hn ho⟩
theorem qRq {n:Str}(hn:WordS n):RowOk (.tup [.str "need",.str n]):=
 ⟨qMe (ss:=[n]) (n:=1) w_need #[30] #[30] #[19] (by rfl) rfl (by
  intro s hs;simp only [List.mem_cons,List.not_mem_nil,or_false] at hs;subst hs;assumption),rfl,rfl,.need hn⟩
theorem qRp {n:Str}(hn:WordS n):RowOk (.tup [.str "note",.str n]):=
 ⟨qMe (ss:=[n]) (n:=1) w_note #[30] #[30] #[19] (by rfl) rfl (by
  intro s hs;simp only [List.mem_cons,List.not_mem_nil,or_false] at hs;subst hs;assumption),rfl,rfl,.note hn⟩
theorem qYy {n:Str}(hn:WordS n):RowOk (.tup [.str "fail",.str n]):=
 ⟨qMe (ss:=[n]) (n:=1) w_fail #[30] #[30] #[19] (by rfl) rfl (by
  intro s hs;simp only [List.mem_cons,List.not_mem_nil,or_false] at hs;subst hs;assumption),rfl,rfl,.fail hn⟩
theorem qGu {f:Bool}{ss:List Str}{j:Int}(h0:0≤j)(h:j < ss.length):∃ s∈ss,ixW (.li f #[15]) (.im (.int j))=.ok (.im (.str s)):=by
 refine ⟨ss[j.toNat]'(by omega),List.getElem_mem _,qHq rfl h0 ?_⟩
 rw [List.getElem?_map,List.getElem?_eq_getElem #[0]];rfl
theorem qWu {f:Bool}{a b:Str}{j:Int}(h0:0≤j)(h:j < 2):∃ s,(s=a∨s=b)∧ixW (.li f [.str a,.str b]) (.im (.int j))=.ok (.im (.str s)):=by
 have:j=0∨j=1:=by omega
 rcases this with rfl | rfl
 ·exact ⟨a,.inl rfl,rfl⟩
 ·exact ⟨b,.inr rfl,rfl⟩
theorem qZ7 {f:Bool}{a b c:Str}{j:Int}(h0:0≤j)(h:j < 3):∃ s,(s=a∨s=b∨s=c)∧ixW (.li f [.str a,.str b,.str c]) (.im (.int j))=.ok (.im (.str s)):=by
 have:j=0∨j=1∨j=2:=by omega
 rcases this with rfl | rfl | rfl
 ·exact ⟨a,.inl rfl,rfl⟩
 ·exact ⟨b,.inr (.inl rfl),rfl⟩
 ·exact ⟨c,.inr (.inr rfl),rfl⟩
theorem qU8 {ns:List Int}{at_:Int}{f:Bool}{ss:List Str}(ha:0≤at_)(hN:NamesOk ss):∃ d,qEu [S ns,.im (.int at_),.li f #[15]]=.ok (.im d)∧RowOk d:=by
 suffices h:∃ w,qEu [S ns,.im (.int at_),.li f #[15]]=.ok w∧∃ d,w=.im d∧RowOk d by
  obtain ⟨_,h1,d,rfl,h2⟩:=h;exact ⟨d,h1,h2⟩
 refine qJb ?_
 have hp:=hN.pos
 obtain ⟨nm,hnm,en⟩:=qGu (f:=false) (ss:=ss) (qP3 (ns:=ns) (k:=at_ + 1) (many:=ss.length) #[0]) (qGk #[0])
 have hnw:=hN.wd nm hnm
 obtain ⟨fd,hfd,ef⟩:=qWu (f:=true) (a:=Str.ofString "f") (b:=Str.ofString "g") (qP3 (ns:=ns) (k:=at_ + 2) (many:=2) #[0]) (qGk #[0])
 have hfw:WordS fd:=by rcases hfd with rfl | rfl <;> first | exact w_f | exact w_g
 have q12:=qBc (ns:=ns) (k:=at_) (many:=12) ha #[0]
 have q1:=qBc (ns:=ns) (k:=at_ + 1) (many:=ss.length) #[0] #[0]
 have q2:=qBc (ns:=ns) (k:=at_ + 2) (many:=2) #[0] #[0]
 refine qAv (δ:=[.im #[31],.im (.int at_),.rd #[15],.un,.un,.un]) (by push_cast only [q12]) ?_
 refine qAv (by push_cast only [q1,List.length_map,en]) ?_
 refine qAv (by push_cast only [q2,ef]) ?_
 refine qAp (b:=decide (mx ns at_ 12 < 4)) #[20] (fun _=>?_) (fun _=>qBe ?_)
 ·have q3:=qBc (ns:=ns) (k:=at_ + 3) (many:=100) #[0] #[0]
  have m1:=qP3 (ns:=ns) (k:=at_ + 3) (many:=100) #[0]
  have m2:=qGk (ns:=ns) (k:=at_ + 3) (many:=100) #[0]
  exact qBl (by push_cast only [q3]) ⟨_,rfl,_,rfl,qcf hfw m1 #[0]⟩
 refine qAp (b:=decide (mx ns at_ 12 < 7)) #[20] (fun _=>?_) (fun _=>qBe ?_)
 ·have q3:=qBc (ns:=ns) (k:=at_ + 3) (many:=2) #[0] #[0]
  obtain ⟨fe,hfe,ee⟩:=qWu (f:=true) (a:=Str.ofString "f") (b:=Str.ofString "g") (qP3 (ns:=ns) (k:=at_ + 3) (many:=2) #[0]) (qGk #[0])
  have hew:WordS fe:=by rcases hfe with rfl | rfl <;> first | exact w_f | exact w_g
  exact qBl (by push_cast only [q3,ee]) ⟨_,rfl,_,rfl,qYx hfw hnw hew⟩
 refine qAp (b:=decide (mx ns at_ 12 < 10)) #[20] (fun _=>?_) (fun _=>qBe ?_)
 ·exact qBl #[20] ⟨_,rfl,_,rfl,qRq hnw⟩
 have q3:=qBc (ns:=ns) (k:=at_ + 3) (many:=3) #[0] #[0]
 obtain ⟨k,hk,ek⟩:=qZ7 (f:=true) (a:=Str.ofString "note") (b:=Str.ofString "note") (c:=Str.ofString "fail") (qP3 (ns:=ns) (k:=at_ + 3) (many:=3) #[0]) (qGk #[0])
 obtain ⟨x,hx,ex⟩:=qWu (f:=true) (a:=Str.ofString "x") (b:=Str.ofString "y") (qP3 (ns:=ns) (k:=at_ + 2) (many:=2) #[0]) (qGk #[0])
 have hxw:WordS x:=by rcases hx with rfl | rfl <;> first | exact w_x | exact w_y
 refine qAw (by push_cast only [q3,ek,q2,ex]) ⟨_,rfl,_,rfl,?_⟩
 rcases hk with rfl | rfl | rfl
 ·exact qRp hxw
 ·exact qRp hxw
 ·exact qYy hxw
theorem qG8 {t u:qAj→Rs Bool}{δ:qAj}{a b:Bool}(h1:t δ=.ok a)(h2:u δ=.ok b):qUg t u δ=.ok (a && b):=by
 simp only [qUg,h1,h2,okb];cases a <;> rfl
theorem qM7 {t u:qAj→Rs W}{δ:qAj}{a b:Bool}(h1:t δ=.ok (.im (.bl a)))(h2:u δ=.ok (.im (.bl b))):qKf t u δ=.ok (.im (.bl (a && b))):=by
 simp only [qKf,h1,h2,okb,W.bool];cases a <;> rfl
theorem qG7 {i:Nat}{gd:qAj→Rs D}{δ:qAj}{ds:List D}{d:D}(h:δ[i]?=some (.own ds))(hd:gd δ=.ok d)(hl:ds.length < 1000):qKr i gd δ=.ok (.nx (δ.set i (.own (ds++[d])))):=by
 simp only [qKr,h,hd,okb]
 exact if_pos (by show _ < 16777216;omega)
theorem qEx:∀ (n:Nat) (ss:List Str),fineDs n #[15]=true
 | _,[]=>by unfold fineDs;rfl
 | n,x::r=>by
  have:=qEx n r
  unfold fineDs;rw [List.map_cons];simp only [this,qA3,Bool.and_self]
theorem qDw:∀ (n:Nat) (ds:List D),(∀ d∈ds,qA3 n d=true)→fineDs n ds=true
 | _,[],_=>by unfold fineDs;rfl
 | n,x::r,h=>by
  have:=qDw n r fun d hd=>h d (List.mem_cons_of_mem _ hd)
  unfold fineDs;simp only [this,h x (List.mem_cons_self ..),Bool.and_self]
inductive AboveOk:Str→D→Prop
 | cls:AboveOk (Str.ofString "class") .non
 | face:AboveOk (Str.ofString "face") .non
 | above {s:Str} (h:WordS s):AboveOk (Str.ofString "class") (.str s)
structure FileOk (d:D) (n:Str):Prop where
 wd:WordS n
 is:qD2 [.im d]=.ok Tr
 fine:qA3 49 d=true
 sh:∃ k r,d=.tup (.str k::.str n::r)
 full:∃ (k:Str) (a:D) (fs:List Str) (rs:List D),d=.tup [.str k,.str n,a,.tup (fs.map D.str),.tup rs]∧AboveOk k a∧fs.length≤2∧(∀ s∈fs,WordS s)∧rs.length≤5∧∀ r∈rs,RowOk r
theorem qWz {k a b:Str}:inW (.im (.str k)) (.im (.tup [.str a,.str b]))=.ok (.im (.bl (decide (a=k) || decide (b=k)))):=by
 show (if qA3 50 (D.str k)=true∧fineDs 50 [D.str a,D.str b]=true then Rs.ok (W.im (D.bl (qM9 (D.str k) [D.str a,D.str b]))) else Rs.no)=_
 rw [if_pos ⟨rfl,rfl⟩]
 show Rs.ok (W.im (D.bl ([D.str a,D.str b].any fun d'=>eqD d' (.str k))))=_
 simp only [List.any_cons,List.any_nil,eqD,Bool.or_false]
 rfl
theorem qah {k:Str}{a:D}(h:AboveOk k a):qEs [.im (.str k),.im a]=.ok Tr:=by
 refine qAx ?_
 cases h with
 | cls=>
  refine qAp (b:=true) (δ:=[.im (.str "class"),.im .non]) rfl (fun _=>qBl (w:=Tr) ?_ rfl) #[14]
  push_cast [qWz,decide_true,Bool.true_or]
 | face=>
  refine qAp (b:=true) (δ:=[.im (.str "face"),.im .non]) rfl (fun _=>qBl (w:=Tr) ?_ rfl) #[14]
  push_cast [qWz,decide_true,Bool.or_true]
 | above h=>
  refine qAp (b:=false) (δ:=[.im (.str "class"),.im (.str _)]) rfl #[14] (fun _=>qBe (qAw (w:=Tr) ?_ rfl))
  push_cast [decide_true,qC1 h]
theorem qXd {ss:List Str}(hl:ss.length≤2)(hn:ss.Nodup)(hw:∀ s∈ss,WordS s):qFw [.im (.tup #[15])]=.ok Tr:=by
 refine qAx (qAw (w:=Tr) (δ:=[.im (.tup #[15])]) ?_ rfl)
 have h1:=qB0 (ds:=ss.map D.str) (lo:=0) (hi:=2) #[0] (by rw [List.length_map];omega)
 have h2:=qEg (w:=.im (.tup #[15])) rfl hw #[0]
 have h3:=qFk (w:=.im (.tup #[15])) rfl hn #[0]
 push_cast [h1,h2,h3]
theorem qYw {rs:List D}(hl:rs.length≤5)(hr:∀ r∈rs,RowOk r):qHo [.im (.tup rs)]=.ok Tr:=by
 refine qAx (qAw (w:=Tr) (δ:=[.im (.tup rs)]) ?_ rfl)
 refine (qM7 (a:=true) (b:=true) ?_ ?_)
 ·push_cast [qB0 (ds:=rs) (lo:=0) (hi:=5) #[0] #[0]]
 ·refine qM8 (ds:=rs) rfl #[0] fun d hd=>?_
  push_cast [(hr d hd).is]
theorem qXb {k n:Str}{a:D}{ss:List Str}{rs:List D}(hn:WordS n)(ha:AboveOk k a)(hl:ss.length≤2)(hnd:ss.Nodup)(hw:∀ s∈ss,WordS s)(hl':rs.length≤5)(hr:∀ r∈rs,RowOk r) :
  FileOk (.tup [.str k,.str n,a,.tup #[15],.tup rs]) n:=by
 have hk:WordS k:=by cases ha <;> first | exact qb0 | exact w_face
 refine ⟨hn,?_,?_,⟨_,_,rfl⟩,⟨k,a,ss,rs,rfl,ha,hl,hw,hl',hr⟩⟩
 ·refine qAx ?_
  refine qAp (b:=false) (δ:=[.im (.tup [.str k,.str n,a,.tup #[15],.tup rs])]) ?_ #[14] (fun _=>qBe (qAw (w:=Tr) ?_ rfl))
  ·have it:=qB0 (ds:=[.str k,.str n,a,.tup #[15],.tup rs]) (lo:=5) (hi:=5) (by show (5:Int)≤((5:Nat):Int);omega) (by show ((5:Nat):Int)≤5;omega)
   have iw:=qEg (w:=.im (.tup [.str k,.str n])) (ss:=[k,n]) rfl (by
    intro s hs;simp only [List.mem_cons,List.not_mem_nil,or_false] at hs;rcases hs with rfl | rfl <;> assumption) (by show 2 < 1000;omega)
   have ec:cut [D.str k,.str n,a,.tup #[15],.tup rs] none (some 2)=[.str k,.str n]:=rfl
   push_cast [it,slW,ec,iw,Bool.false_eq_true]
  ·push_cast [ix0,ix2,ix3,ix4,qah ha,qXd hl hnd hw,qYw hl' hr]
 ·have f1:qA3 48 a=true:=by cases ha <;> rfl
  have f2:qA3 48 (.tup #[15])=true:=qEx 47 ss
  have f3:qA3 48 (.tup rs)=true:=qDw 47 rs fun d hd=>(hr d hd).fine
  show fineDs 48 [.str k,.str n,a,.tup #[15],.tup rs]=true
  refine qDw _ _ fun d hd=>?_
  simp only [List.mem_cons,List.not_mem_nil,or_false] at hd
  rcases hd with rfl | rfl | rfl | rfl | rfl
  ·rfl
  ·rfl
  ·exact f1
  ·exact f2
  ·exact f3
theorem FileOk.f4 {d:D}{n:Str}(h:FileOk d n):qA3 4 d=true:=by
 obtain ⟨k,a,fs,rs,rfl,ha,_,_,_,hr⟩:=h.full
 have f1:qA3 3 a=true:=by cases ha <;> rfl
 have f2:qA3 3 (.tup (fs.map D.str))=true:=qEx 2 fs
 have f3:qA3 3 (.tup rs)=true:=qDw 2 rs fun d hd=>(hr d hd).f2
 show fineDs 3 [.str k,.str n,a,.tup (fs.map D.str),.tup rs]=true
 refine qDw _ _ fun d hd=>?_
 simp only [List.mem_cons,List.not_mem_nil,or_false] at hd
 rcases hd with rfl | rfl | rfl | rfl | rfl
 ·rfl
 ·rfl
 ·exact f1
 ·exact f2
 ·exact f3
theorem qdj {f:Bool}{ss:List Str}(h:0 < ss.length):∃ s∈ss,ixW (.li f #[15]) (.im (.int (-1)))=.ok (.im (.str s)):=by
 refine ⟨ss[ss.length - 1]'(by omega),List.getElem_mem _,ix_m1 rfl ?_⟩
 rw [List.length_map,List.getElem?_map,List.getElem?_eq_getElem #[0]];rfl
theorem pick_b {a b:Bool}(c:Bool):∃ r,ixW (.li true [.bl a,.bl b]) (.im (.int (if c=true then 1 else 0)))=.ok (.im (.bl r)):=by
 cases c
 ·exact ⟨a,rfl⟩
 ·exact ⟨b,rfl⟩
theorem qaj {f:Bool}:∀ (L:List Str),L.length≤2→∃ (u:Int) (M:List Str),qGt (.li f (L.map D.str))=.ok (.im (.int u))∧slW (.li f (L.map D.str)) none (some u)=.ok (.li true (M.map D.str))∧M.Nodup∧M.length≤2∧∀ s∈M,s∈L
 | [],_=>⟨0,[],rfl,rfl,List.nodup_nil,Nat.le_of_ble_eq_true rfl,fun _ h=>h⟩
 | [a],_=>⟨1,[a],qHp (b:=true) (ss:=[a]) rfl #[6] (by show 1 < 1000;omega),rfl,by simp,Nat.le_of_ble_eq_true rfl,fun _ h=>h⟩
 | [a,b],_=>by
  by_cases e:a=b
  ·subst e
   refine ⟨1,[a],?_,rfl,by simp,Nat.le_of_ble_eq_true rfl,fun s h=>?_⟩
   ·have hu:qHc [a,a]=1:=by
     show (qKh (qKh [] a) a).length=1
     have:qKh [] a=[a]:=rfl
     rw [this];unfold qKh;rw [if_pos #[6]];rfl
    show qGt (.li f ([a,a].map D.str))=_
    simp only [qGt,W.items,qF9,hu]
    rfl
   ·have:s=a:=by simpa using h
    subst this;exact List.mem_cons_self ..
  ·refine ⟨2,[a,b],qHp (b:=true) (ss:=[a,b]) rfl (by simp [e]) (by show 2 < 1000;omega),rfl,by simp [e],Nat.le_of_ble_eq_true rfl,fun _ h=>h⟩
theorem qN6 {n:Nat}{d:D}(h:d∈qCv n):∃ i:Nat,i < n∧d=.int i:=by
 unfold qCv at h
 obtain ⟨i,hi,rfl⟩:=List.mem_map.mp h
 exact ⟨i,List.mem_range.mp hi,rfl⟩
theorem qai {ns:List Int}{at_:Int}{f:Bool}{ss:List Str}{nm:Str}(ha:0≤at_)(hN:NamesOk ss)(hnm:WordS nm){lg:Int}(lg0:0≤lg)(lg5:lg≤5) :
  ∃ d,qIr [S ns,.im (.int at_),.li f #[15],.im (.str nm),.im (.int lg)]=.ok (.im d)∧FileOk d nm:=by
 suffices h:∃ w,qIr [S ns,.im (.int at_),.li f #[15],.im (.str nm),.im (.int lg)]=.ok w∧∃ d,w=.im d∧FileOk d nm by
  obtain ⟨_,h1,d,rfl,h2⟩:=h;exact ⟨d,h1,h2⟩
 refine qJb ?_
 have hp:=hN.pos
 obtain ⟨la,hla,el⟩:=qdj (f:=false) (ss:=ss) hp
 refine qAv (δ:=[.im #[31],.im (.int at_),.rd #[15],.im (.str nm),.im (.int lg),.un,.un,.un,.un]) #[20] ?_
 refine qCm (Q1:=fun δ=>∃ k,δ=[.im #[31],.im (.int at_),.rd #[15],.im (.str nm),.im (.int lg),.im (.str k),.un,.un,.un]∧(k=Str.ofString "class"∨k=Str.ofString "face")) ?_ ?_
 ·have q0:=qBc (ns:=ns) (k:=at_) (many:=2) #[0] #[0]
  have q1:=qBc (ns:=ns) (k:=at_ + 1) (many:=8) #[0] #[0]
  obtain ⟨r,hr⟩:=pick_b (a:=decide (nm=la)) (b:=decide (mx ns at_ 2=0)) (decide (mx ns (at_ + 1) 8=0))
  refine qDz (b:=r) (by push_cast [q0,q1,el,hr]) (fun _=>⟨_,by push_cast only [okb],_,rfl,_,rfl,.inr rfl⟩) (fun _=>⟨_,rfl,_,rfl,_,rfl,.inl rfl⟩)
 rintro _ ⟨k,rfl,hk⟩
 refine qAv #[20] ?_
 refine qCm (Q1:=fun δ=>∃ a,δ=[.im #[31],.im (.int at_),.rd #[15],.im (.str nm),.im (.int lg),.im (.str k),.im a,.un,.un]∧AboveOk k a) ?_ ?_
 ·have q1:=qBc (ns:=ns) (k:=at_ + 1) (many:=3) #[0] #[0]
  have q2:=qBc (ns:=ns) (k:=at_ + 2) (many:=ss.length) #[0] #[0]
  obtain ⟨ab,hab,ea⟩:=qGu (f:=false) (ss:=ss) (qP3 (ns:=ns) (k:=at_ + 2) (many:=ss.length) #[0]) (qGk #[0])
  refine qDz (b:=decide (k=Str.ofString "class") && decide (mx ns (at_ + 1) 3=0)) (qG8 (by push_cast [okb]) (by push_cast [q1])) (fun h=>⟨_,by push_cast only [q2,List.length_map,ea],_,rfl,_,rfl,?_⟩) (fun _=>⟨_,rfl,_,rfl,_,rfl,?_⟩)
  ·have h:=of_decide_eq_true (Bool.and_eq_true_iff.mp h).1
   subst h;exact .above (hN.wd _ hab)
  ·rcases hk with rfl | rfl
   ·exact .cls
   ·exact .face
 rintro _ ⟨a,rfl,hab⟩
 refine qAv #[20] ?_
 have q33:=qBc (ns:=ns) (k:=at_ + 3) (many:=3) #[0] #[0]
 have q35:=qBc (ns:=ns) (k:=at_ + 3) (many:=5) #[0] #[0]
 have q4:=qBc (ns:=ns) (k:=at_ + 4) (many:=ss.length) #[0] #[0]
 obtain ⟨fb,hfb,eb⟩:=qGu (f:=false) (ss:=ss) (qP3 (ns:=ns) (k:=at_ + 4) (many:=ss.length) #[0]) (qGk #[0])
 let E:List Str→qAj:=fun L=>[.im #[31],.im (.int at_),.rd #[15],.im (.str nm),.im (.int lg),.im (.str k),.im a,.own (L.map D.str),.un]
 refine qCm (Q1:=fun δ=>∃ L,δ=E L∧L.length≤1∧∀ s∈L,s∈ss) ?_ ?_
 ·refine qDz (b:=decide (mx ns (at_ + 3) 3=0)) (by push_cast [q33]) (fun _=>⟨_,qG7 (ds:=[]) (d:=.str la) rfl (by push_cast only [el]) #[30],_,rfl,[la],rfl,Nat.le_refl _,?_⟩) (fun _=>⟨_,rfl,_,rfl,[],rfl,Nat.zero_le _,fun s h=>nomatch h⟩)
  intro s hs
  have:s=la:=by simpa using hs
  subst this;exact hla
 rintro _ ⟨L,rfl,hL1,hL2⟩
 refine qCm (Q1:=fun δ=>∃ L,δ=E L∧L.length≤2∧∀ s∈L,s∈ss) ?_ ?_
 ·refine qDz (b:=decide (mx ns (at_ + 3) 5=1)) (by push_cast [E,q35]) (fun _=>⟨_,qG7 (ds:=L.map D.str) (d:=.str fb) rfl (by push_cast only [E,q4,List.length_map,eb]) (by rw [List.length_map];omega),_,rfl,L++[fb],?_,?_,?_⟩) (fun _=>⟨_,rfl,_,rfl,L,rfl,by omega,hL2⟩)
  ·show _=E (L++[fb])
   simp only [E,List.map_append];rfl
  ·rw [List.length_append];show L.length + 1≤2;omega
  ·intro s hs
   rcases List.mem_append.mp hs with g | g
   ·exact hL2 s g
   ·have:s=fb:=by simpa using g
    subst this;exact hfb
 clear hL1 hL2
 rintro _ ⟨L,rfl,hL1,hL2⟩
 obtain ⟨u,M,hu,hs,hM1,hM2,hM3⟩:=qaj (f:=false) L hL1
 refine qAv (by push_cast only [E,hu,hs]) ?_
 have q5:=qBc (ns:=ns) (k:=at_ + 5) (many:=lg + 1) #[0] #[0]
 have m0:=qP3 (ns:=ns) (k:=at_ + 5) (many:=lg + 1) #[0]
 have m1:=qGk (ns:=ns) (k:=at_ + 5) (many:=lg + 1) #[0]
 have hrow:∀ i:Nat,∃ d,qEu [S ns,.im (.int (at_ + 10 + 5 * (i:Int))),.li false #[15]]=.ok (.im d)∧RowOk d:=fun i=>qU8 #[0] hN
 let g:D→D:=fun d=>match d with | .int i=>Classical.choose (hrow i.toNat) | _=>.non
 have hg:∀ i:Nat,qEu [S ns,.im (.int (at_ + 10 + 5 * (i:Int))),.li false #[15]]=.ok (.im (g (.int i)))∧RowOk (g (.int i)):=fun i=>Classical.choose_spec (hrow i)
 have hr:=qRr (j:=mx ns (at_ + 5) (lg + 1)) ⟨by omega,by omega⟩
 have hc:=fun δ=>qE0 (δ:=.im #[31]::.im (.int at_)::.rd #[15]::δ) (el:=qBg (qAs qEu 3 (qAc (var 1) (qAc (qAn qCp (qAn qCp (var 2) (toW (cst (.int 10)))) (qAn qR2 (toW (cst (.int 5))) #[1])) (qAc (var 3) qA2))))) (ds:=qCv (mx ns (at_ + 5) (lg + 1)).toNat) g (by rw [qGe];omega) (by
  intro d hd
  obtain ⟨i,hi,rfl⟩:=qN6 hd
  push_cast only [(hg i).1])
 refine qAv (by
  simp only [qCk,qAg,qAc,qC2,qA2]
  push_cast only [q5,hr,hc]) ?_
 refine qAw #[20] ⟨_,rfl,_,rfl,?_⟩
 refine qXb hnm hab hM2 hM1 (fun s hs=>hN.wd s (hL2 s (hM3 s hs))) (by rw [List.length_map,qGe];omega) ?_
 intro r hr
 obtain ⟨d,hd,rfl⟩:=List.mem_map.mp hr
 obtain ⟨i,hi,rfl⟩:=qN6 hd
 exact (hg i).2
structure ShelfOk (fl:List (Str×D)):Prop where
 le:fl.length≤4
 nd:(fl.map (·.1)).Nodup
 ok:∀ p∈fl,FileOk p.2 p.1
abbrev Ld:=Option Nat×List (Str×D)
def qK5:Option Nat→D
 | none=>.non
 | some p=>.int p
def shD (fl:List (Str×D)):D:=.tup (fl.map (·.2))
def ldD (l:Ld):D:=.tup [qK5 l.1,shD l.2]
def wdD (ls:List Ld):D:=.tup (ls.map ldD)
structure LoaderOk (i:Nat) (l:Ld):Prop where
 par:∀ p,l.1=some p→p < i
 sh:ShelfOk l.2
structure WorldOk (ls:List Ld):Prop where
 pos:0 < ls.length
 le:ls.length≤4
 ok:∀ (i:Nat) (l:Ld),ls[i]?=some l→LoaderOk i l
theorem qQ1 {ds:List D}{i:Nat}{d:D}(h:(qF4 ds)[i]?=some d):∃ x,ds[i]?=some x∧d=.tup [.int i,x]:=by
 unfold qF4 at h
 rw [List.getElem?_map,List.getElem?_zipIdx] at h
 cases e:ds[i]? with
 | none=>rw [e] at h;cases h
 | some x=>rw [e] at h;cases h;exact ⟨x,rfl,by rw [Nat.zero_add]⟩
theorem qSr (ds:List D):(qF4 ds).length=ds.length:=by unfold qF4;rw [List.length_map,List.length_zipIdx]
theorem qSu {α:Type}(xs:List α){t:Int}(h:0≤t):cut xs (some t) none=xs.drop t.toNat:=by
 unfold cut HT.sIx
 dsimp only
 rw [if_neg #[0]]
 rcases Nat.le_total t.toNat xs.length with g | g
 ·rw [Nat.min_eq_left g];exact List.take_of_length_le (by rw [List.length_drop];omega)
 ·rw [Nat.min_eq_right g,Nat.sub_self,List.take_zero,List.drop_of_length_le g]
theorem cut_to {α:Type}(xs:List α){t:Int}(h:0≤t):cut xs none (some t)=xs.take t.toNat:=by
 unfold cut HT.sIx
 dsimp only
 rw [if_neg #[0],List.drop_zero,Nat.sub_zero]
 rcases Nat.le_total t.toNat xs.length with g | g
 ·rw [Nat.min_eq_left g]
 ·rw [Nat.min_eq_right g,List.take_length,List.take_of_length_le g]
theorem rot_ok {fl:List (Str×D)}(m:Nat)(h:ShelfOk fl):ShelfOk (fl.drop m++fl.take m):=by
 have hp:List.Perm (fl.drop m++fl.take m) fl:=by
  have:=List.perm_append_comm (l₁:=fl.drop m) (l₂:=fl.take m)
  rw [List.take_append_drop] at this;exact this
 exact ⟨by rw [hp.length_eq];exact h.le,(hp.map _).nodup_iff.mpr h.nd,fun p hm=>h.ok p (hp.mem_iff.mp hm)⟩
theorem qUj {ns:List Int}{at_:Int}{f:Bool}{ss:List Str}(ha:0≤at_)(hN:NamesOk ss){many lg:Int}(mn1:1≤many)(mn4:many≤4)(lg0:0≤lg)(lg5:lg≤5) :
  ∃ ls,qGp [S ns,.im (.int at_),.li f #[15],.im (.int many),.im (.int lg)]=.ok (.im #[2])∧WorldOk ls∧∀ (i:Nat) (l:Ld),ls[i]?=some l→∀ p∈l.2,p.1∈ss:=by
 suffices h:∃ w,qGp [S ns,.im (.int at_),.li f #[15],.im (.int many),.im (.int lg)]=.ok w∧∃ ls,w=.im #[2]∧WorldOk ls∧∀ (i:Nat) (l:Ld),ls[i]?=some l→∀ p∈l.2,p.1∈ss by
  obtain ⟨_,h1,ls,rfl,h2⟩:=h;exact ⟨ls,h1,h2⟩
 refine qJb ?_
 have hp:=hN.pos
 have hle:=hN.le
 have q95:=qBc (ns:=ns) (k:=95) (many:=4) #[0] #[0]
 have qn:=qBc (ns:=ns) (k:=at_) (many:=many) #[0] #[0]
 have n0:=qP3 (ns:=ns) (k:=at_) (many:=many) #[0]
 have n1:=qGk (ns:=ns) (k:=at_) (many:=many) #[0]
 refine qAv (δ:=[.im #[31],.im (.int at_),.rd #[15],.im (.int many),.im (.int lg),.un,.un,.un,.un,.un,.un,.un,.un,.un,.un]) #[20] ?_
 have etw:=fun δ=>qM7 (δ:=.im #[31]::.im (.int at_)::.rd #[15]::.im (.int many)::.im (.int lg)::δ) (t:=qAn eqW (qAs qA8 3 (qAc #[1] (qAc (toW (cst (.int 95))) (qAc #[39] qA2)))) #[7]) (u:=qAn gtW (var 4) #[7]) (a:=decide (mx ns 95 4=0)) (b:=decide ((0:Int) < lg)) (by push_cast only [q95]) #[20]
 generalize htw:(decide (mx ns 95 4=0) && decide ((0:Int) < lg))=tw at etw
 refine qAv (by simp only [qCk,etw,okb,asg];exact rfl) ?_
 have hr:=qRr (j:=1 + mx ns at_ many) ⟨by omega,by omega⟩
 let E:List Ld→Sl→Sl→Sl→Sl→Sl→Sl→Sl→Sl→qAj:=fun ls x7 x8 x9 x10 x11 x12 x13 x14=>[.im #[31],.im (.int at_),.rd #[15],.im (.int many),.im (.int lg),.own (ls.map ldD),.im (.bl tw),x7,x8,x9,x10,x11,x12,x13,x14]
 let J:Nat→qAj→Prop:=fun i δ=>i≤4→∃ (ls:List Ld) (x7 x8 x9 x10 x11 x12 x13 x14:Sl),δ=E ls x7 x8 x9 x10 x11 x12 x13 x14∧ls.length=i∧∀ (i:Nat) (l:Ld),ls[i]?=some l→LoaderOk i l∧∀ p∈l.2,p.1∈ss
 refine qCm (Q1:=fun δ=>J (1 + mx ns at_ many).toNat δ) ?_ ?_
 ·refine qFp (ds:=qCv (1 + mx ns at_ many).toNat) J (by push_cast only [qn,hr]) (fun _=>⟨[],_,_,_,_,_,_,_,_,rfl,rfl,fun i l h=>nomatch h⟩) ?_ (fun δ' hj=>⟨_,rfl,by rw [qGe] at hj;exact hj⟩)
  intro i d δ hd hj
  obtain ⟨rfl,hi⟩:=qMf hd
  obtain ⟨ls,x7,x8,x9,x10,x11,x12,x13,x14,rfl,hl,hls⟩:=hj #[0]
  refine ⟨E ls (.im (.int i)) x8 x9 x10 x11 x12 x13 x14,rfl,?_⟩
  refine qAv (δ':=E ls (.im (.int i)) (.im (.int (at_ + 200 * ((i:Int) + 1)))) x9 x10 x11 x12 x13 x14) #[34] ?_
  have hh:0≤at_ + 200 * ((i:Int) + 1):=by omega
  generalize at_ + 200 * ((i:Int) + 1)=here at hh ⊢
  refine qAv (δ':=E ls (.im (.int i)) (.im (.int here)) (.im .non) x10 x11 x12 x13 x14) #[34] ?_
  refine qCm (Q1:=fun δ=>∃ par:Option Nat,δ=E ls (.im (.int i)) (.im (.int here)) (.im (qK5 par)) x10 x11 x12 x13 x14∧∀ p,par=some p→p < i) ?_ ?_
  ·have q0:=qBc (ns:=ns) (k:=here) (many:=4) #[0] #[0]
   refine qDz (b:=decide ((0:Int) < (i:Int)) && decide (0 < mx ns here 4)) (qG8 #[34] (by push_cast only [E,q0])) (fun h=>?_) (fun _=>⟨_,rfl,_,rfl,none,rfl,fun _ h=>nomatch h⟩)
   have h:=of_decide_eq_true (Bool.and_eq_true_iff.mp h).1
   have q1:=qBc (ns:=ns) (k:=here + 1) (many:=(i:Int)) #[0] #[0]
   have p0:=qP3 (ns:=ns) (k:=here + 1) (many:=(i:Int)) #[0]
   have p1:=qGk (ns:=ns) (k:=here + 1) (many:=(i:Int)) #[0]
   refine ⟨_,by push_cast only [E,q1],_,rfl,some (mx ns (here + 1) i).toNat,?_,fun p e=>by cases e;omega⟩
   have:qK5 (some (mx ns (here + 1) i).toNat)=.int (mx ns (here + 1) i):=by
    show D.int (((mx ns (here + 1) i).toNat:Nat):Int)=_
    rw [Int.toNat_of_nonneg p0]
   rw [this]
  rintro _ ⟨par,rfl,hpar⟩
  refine qAv (δ':=E ls (.im (.int i)) (.im (.int here)) (.im (qK5 par)) (.own []) x11 x12 x13 x14) #[34] ?_
  let J2:Nat→qAj→Prop:=fun j δ=>∃ (fl:List (Str×D)) (y11 y12 y13:Sl),δ=E ls (.im (.int i)) (.im (.int here)) (.im (qK5 par)) (.own (fl.map (·.2))) y11 y12 y13 x14∧(fl.map (·.1)).Sublist (ss.take j)∧∀ p∈fl,FileOk p.2 p.1
  refine qCm (Q1:=fun δ=>J2 ss.length δ) ?_ ?_
  ·refine qFp (ds:=qF4 #[15]) J2 #[34] ⟨[],_,_,_,rfl,List.Sublist.refl _,fun p h=>nomatch h⟩ ?_ (fun δ' hj=>⟨_,rfl,by rw [qSr,List.length_map] at hj;exact hj⟩)
   intro k d δ hd hj
   obtain ⟨x,hx,rfl⟩:=qQ1 hd
   obtain ⟨fl,y11,y12,y13,rfl,hf1,hf2⟩:=hj
   have hk:k < ss.length:=by
    rcases Nat.lt_or_ge k ss.length with g | g
    ·exact g
    ·rw [List.getElem?_eq_none (by rw [List.length_map];exact g)] at hx;cases hx
   have hx:D.str ss[k]=x:=by
    rw [List.getElem?_map,List.getElem?_eq_getElem hk] at hx;cases hx;rfl
   subst hx
   have hw:WordS ss[k]:=hN.wd _ (List.getElem_mem _)
   have hfl:fl.length≤4:=by
    have:=hf1.length_le
    rw [List.length_map,List.length_take] at this;omega
   have hsub:∀ d:D,((fl++[(ss[k],d)]).map (·.1)).Sublist (ss.take (k + 1)):=by
    intro d
    rw [List.map_append,List.take_succ,List.getElem?_eq_getElem hk]
    exact hf1.append (List.Sublist.refl _)
   have hall:∀ d:D,FileOk d ss[k]→∀ p∈fl++[(ss[k],d)],FileOk p.2 p.1:=by
    intro d h p hp
    rcases List.mem_append.mp hp with g | g
    ·exact hf2 p g
    ·have:p=(ss[k],d):=by simpa using g
     subst this;exact h
   have hskip:(fl.map (·.1)).Sublist (ss.take (k + 1)):=hf1.trans (List.take_sublist_take_left (Nat.le_succ k))
   refine ⟨E ls (.im (.int i)) (.im (.int here)) (.im (qK5 par)) (.own (fl.map (·.2))) (.im (.int k)) (.im (.str ss[k])) y13 x14,rfl,?_⟩
   refine qDz (b:=tw && (decide ((i:Int)=0) && (decide ((k:Int) < 2) && decide ((1:Int) < ss.length)))) (qG8 #[34] (qG8 #[34] (qG8 #[34] (by push_cast only [E,List.length_map])))) (fun h=>?_) (fun _=>?_)
   ·have h:=(Bool.and_eq_true_iff.mp (Bool.and_eq_true_iff.mp h).2).2
    have h2:=of_decide_eq_true (Bool.and_eq_true_iff.mp h).1
    have h3:=of_decide_eq_true (Bool.and_eq_true_iff.mp h).2
    obtain ⟨rw_,er,hrw⟩:=qU8 (ns:=ns) (at_:=here + 10 + 45 * (k:Int)) (f:=false) #[0] hN
    have q5:=qBc (ns:=ns) (k:=here + 5) (many:=2) #[0] #[0]
    have p0:=qP3 (ns:=ns) (k:=here + 5) (many:=2) #[0]
    obtain ⟨o,ho,eo⟩:=qGu (f:=false) (ss:=ss) (j:=1 - (k:Int)) #[0] #[0]
    refine qAv (δ':=E ls (.im (.int i)) (.im (.int here)) (.im (qK5 par)) (.own (fl.map (·.2))) (.im (.int k)) (.im (.str ss[k])) (.im rw_) x14) (by push_cast only [E,er]) ?_
    refine ⟨_,qG7 (ds:=fl.map (·.2)) (d:=.tup [.str "class",.str ss[k],.non,.tup [],.tup (cut [rw_,.tup [.str "need",.str o]] (some (mx ns (here + 5) 2)) none)]) rfl (by push_cast only [E,eo,q5,slW]) (by rw [List.length_map];omega),_,rfl,fl++[(ss[k],.tup [.str "class",.str ss[k],.non,.tup [],.tup (cut [rw_,.tup [.str "need",.str o]] (some (mx ns (here + 5) 2)) none)])],.im (.int k),.im (.str ss[k]),.im rw_,?_,hsub _,hall _ ?_⟩
    ·show _=E _ _ _ _ _ _ _ _ _
     simp only [E,List.map_append,List.map_cons,List.map_nil];rfl
    ·rw [qSu _ p0]
     refine qXb (ss:=[]) hw .cls #[30] List.nodup_nil (fun s h=>nomatch h) (by rw [List.length_drop];show 2 - _≤5;omega) ?_
     intro r hr
     have hr:=List.mem_of_mem_drop hr
     simp only [List.mem_cons,List.not_mem_nil,or_false] at hr
     rcases hr with rfl | rfl
     ·exact hrw
     ·exact qRq (hN.wd o ho)
   ·have q2:=qBc (ns:=ns) (k:=here + 2 + (k:Int)) (many:=3) #[0] #[0]
    refine qDz (b:=decide (0 < mx ns (here + 2 + (k:Int)) 3)) (by push_cast only [E,q2]) (fun _=>?_) (fun _=>⟨_,rfl,_,rfl,fl,_,_,_,rfl,hskip,hf2⟩)
    obtain ⟨fd,ef,hfd⟩:=qai (ns:=ns) (at_:=here + 10 + 45 * (k:Int)) (f:=false) #[0] hN hw lg0 lg5
    refine ⟨_,qG7 (ds:=fl.map (·.2)) (d:=fd) rfl (by push_cast only [E,ef]) (by rw [List.length_map];omega),_,rfl,fl++[(ss[k],fd)],.im (.int k),.im (.str ss[k]),y13,?_,hsub _,hall _ hfd⟩
    show _=E _ _ _ _ _ _ _ _ _
    simp only [E,List.map_append,List.map_cons,List.map_nil];rfl
  rintro _ ⟨fl,y11,y12,y13,rfl,hf1,hf2⟩
  rw [List.take_length] at hf1
  have hfl:fl.length≤4:=by
   have:=hf1.length_le
   rw [List.length_map] at this;omega
  have q8:=qBc (ns:=ns) (k:=here + 8) (many:=4) #[0] #[0]
  have t0:=qP3 (ns:=ns) (k:=here + 8) (many:=4) #[0]
  refine qAv (δ':=E ls (.im (.int i)) (.im (.int here)) (.im (qK5 par)) (.own (fl.map (·.2))) y11 y12 y13 (.im (.int (mx ns (here + 8) 4)))) (by push_cast only [E,q8]) ?_
  have hsh:=rot_ok (mx ns (here + 8) 4).toNat (fl:=fl) ⟨hfl,hf1.nodup hN.nd,hf2⟩
  have hc1:=qSu (fl.map (·.2)) t0
  have hc2:=cut_to (fl.map (·.2)) t0
  have hal:((fl.map (·.2)).drop (mx ns (here + 8) 4).toNat).length + ((fl.map (·.2)).take (mx ns (here + 8) 4).toNat).length≤16777216:=by
   rw [List.length_drop,List.length_take,List.length_map];omega
  refine ⟨_,qG7 (ds:=ls.map ldD) (d:=ldD (par,fl.drop (mx ns (here + 8) 4).toNat++fl.take (mx ns (here + 8) 4).toNat)) rfl ?_ (by rw [List.length_map];omega),_,rfl,fun _=>⟨ls++[(par,fl.drop (mx ns (here + 8) 4).toNat++fl.take (mx ns (here + 8) 4).toNat)],.im (.int i),.im (.int here),.im (qK5 par),.own (fl.map (·.2)),y11,y12,y13,.im (.int (mx ns (here + 8) 4)),?_,?_,?_⟩⟩
  ·push_cast [E,slW,hc1,hc2,qEm hal]
   simp only [ldD,shD,List.map_append,List.map_drop,List.map_take]
  ·show _=E _ _ _ _ _ _ _ _ _
   simp only [E,List.map_append,List.map_cons,List.map_nil];rfl
  ·rw [List.length_append,hl];rfl
  ·intro j l hj
   rcases Nat.lt_or_ge j ls.length with g | g
   ·rw [List.getElem?_append_left g] at hj;exact hls j l hj
   ·rw [List.getElem?_append_right g] at hj
    have:j=ls.length:=by
     rcases Nat.lt_or_ge (j - ls.length) 1 with g2 | g2
     ·omega
     ·rw [List.getElem?_eq_none g2] at hj;cases hj
    subst this
    rw [Nat.sub_self] at hj;cases hj
    refine ⟨⟨fun p e=>by rw [hl];exact hpar p e,hsh⟩,fun p hp=>hf1.subset (List.mem_map.mpr ⟨p,?_,rfl⟩)⟩
    rcases List.mem_append.mp hp with g | g
    ·exact List.mem_of_mem_drop g
    ·exact List.mem_of_mem_take g
 ·intro δ' hj
  obtain ⟨ls,x7,x8,x9,x10,x11,x12,x13,x14,rfl,hl,hls⟩:=hj #[0]
  exact qAw #[34] ⟨_,rfl,ls,rfl,⟨by omega,by omega,fun i l e=>(hls i l e).1⟩,fun i l e=>(hls i l e).2⟩
theorem qV3 {t u:qAj→Rs W}{δ:qAj}{a b:Bool}(h1:t δ=.ok (.im (.bl a)))(h2:a=false→u δ=.ok (.im (.bl b))):orW t u δ=.ok (.im (.bl (a || b))):=by
 simp only [orW,h1,okb,W.bool]
 cases a
 ·rw [h2 rfl];rfl
 ·rfl
def nmS (fl:List (Str×D)):List Str:=fl.map (·.1)
theorem qHl {fl:List (Str×D)}(h:ShelfOk fl):qCy [.im (shD fl)]=.ok (.li true ((nmS fl).map D.str)):=by
 refine qAx (qAw (δ:=[.im (shD fl)]) (w:=.li true ((nmS fl).map D.str)) ?_ rfl)
 have hle:=h.le
 let g:D→D:=fun d=>match d with | .tup (_::n::_)=>n | _=>.non
 have hc:=qE0 (δ:=[.im (shD fl)]) (el:=qBg (qAn ixW #[1] #[13])) (ds:=fl.map (·.2)) g (by rw [List.length_map];omega) (by
  intro d hd
  obtain ⟨p,hp,rfl⟩:=List.mem_map.mp hd
  obtain ⟨k,r,e⟩:=(h.ok p hp).sh
  rw [e]
  push_cast only [ix1])
 have e:(fl.map (·.2)).map g=(nmS fl).map D.str:=by
  unfold nmS
  rw [List.map_map,List.map_map]
  refine List.map_congr_left fun p hp=>?_
  obtain ⟨k,r,e⟩:=(h.ok p hp).sh
  show g p.2=D.str p.1
  rw [e]
 rw [e] at hc
 simp only [qC2,qAg,var,List.getElem?_cons_zero,okb,W.walk,W.items,shD]
 exact hc
theorem qOt {fl:List (Str×D)}(h:ShelfOk fl):qHn [.im (shD fl)]=.ok Tr:=by
 refine qAx ?_
 have hle:=h.le
 have it:=qB0 (ds:=fl.map (·.2)) (lo:=0) (hi:=4) #[0] (by rw [List.length_map];omega)
 have ha:=qM8 (δ:=[.im (shD fl)]) (gi:=qAg #[1] W.walk) (el:=qBg (qAs qD2 1 (qAc #[1] qA2))) (ds:=fl.map (·.2)) rfl (by rw [List.length_map];omega) (by
  intro d hd
  obtain ⟨p,hp,rfl⟩:=List.mem_map.mp hd
  push_cast only [(h.ok p hp).is])
 have hn:=qHl h
 have hu:=qFk (w:=.li true ((nmS fl).map D.str)) (ss:=nmS fl) rfl h.nd (by unfold nmS;rw [List.length_map];omega)
 refine qAp (b:=false) (δ:=[.im (shD fl)]) ?_ #[14] (fun _=>qBe (qAw (w:=Tr) ?_ rfl))
 ·have h1:qHk (qAg (qAs qBs 3 (qAc #[1] (qAc #[7] (qAc #[39] qA2)))) W.tru) [.im (shD fl)]=.ok false:=by
   unfold shD;push_cast [it]
  have h2:qHk (qAg (qAg (qAc (qC2 (qAg #[1] W.walk) (fun _=>.ok true) (qBg (qAs qD2 1 (qAc #[1] qA2)))) qA2) qX6) W.tru) [.im (shD fl)]=.ok false:=by
   show ((qAg (qAc (qC2 (qAg #[1] W.walk) (fun _=>.ok true) (qBg (qAs qD2 1 (qAc #[1] qA2)))) qA2) qX6 [.im (shD fl)]>>=W.tru)>>=fun b=>.ok (!b))=_
   rw [ha];rfl
  simp only [orB,h1,h2,okb,Bool.false_eq_true,qDa]
 ·push_cast [hn,hu]
theorem qMt {l:Ld}{i:Nat}(h:LoaderOk i l):qFv [.im (ldD l),.im (.int i)]=.ok Tr:=by
 refine qAx ?_
 have it:=qB0 (ds:=[qK5 l.1,shD l.2]) (lo:=2) (hi:=2) (by show (2:Int)≤((2:Nat):Int);omega) (by show ((2:Nat):Int)≤2;omega)
 have hs:=qOt h.sh
 refine qAp (b:=false) (δ:=[.im (.tup [qK5 l.1,shD l.2]),.im (.int i)]) (by push_cast [it]) #[14] (fun _=>qBe (qAw (w:=Tr) ?_ rfl))
 refine qM7 (a:=true) (b:=true) ?_ (by push_cast [ix1,hs])
 cases e:l.1 with
 | none=>exact qV3 (a:=true) (b:=true) (by push_cast [ix0,qK5]) #[14]
 | some p=>
  have hp:=h.par p e
  have hn:=qDd (i:=(p:Int)) (lo:=0) (hi:=(i:Int) - 1) #[0] #[0]
  exact qV3 (a:=false) (b:=true) (by push_cast [ix0,qK5]) (fun _=>by push_cast [ix0,qK5,hn])
theorem qKa {ls:List Ld}(h:WorldOk ls):qJs [.im #[2]]=.ok (.im #[2]):=by
 refine qAx ?_
 have hp:=h.pos
 have hl:=h.le
 have it:=qB0 (ds:=ls.map ldD) (lo:=1) (hi:=4) (by rw [List.length_map];omega) (by rw [List.length_map];omega)
 refine qAp (b:=false) (δ:=[.im (.tup (ls.map ldD)),.un,.un]) (by push_cast [it]) #[14] (fun _=>qBe ?_)
 refine qCm (Q1:=fun δ=>∃ x y,δ=[.im (.tup (ls.map ldD)),x,y]) ?_ ?_
 ·refine qFp (ds:=qF4 (ls.map ldD)) (fun _ δ=>∃ x y,δ=[.im (.tup (ls.map ldD)),x,y]) #[20] ⟨_,_,rfl⟩ ?_ (fun δ' hj=>⟨_,rfl,hj⟩)
  rintro i d _ hd ⟨x,y,rfl⟩
  obtain ⟨z,hz,rfl⟩:=qQ1 hd
  rw [List.getElem?_map] at hz
  obtain ⟨l,hl,rfl⟩:=Option.map_eq_some_iff.mp hz
  have:=qMt (h.ok i l hl)
  refine ⟨[.im (.tup (ls.map ldD)),.im (.int i),.im (ldD l)],rfl,?_⟩
  exact qce (by push_cast [this]) ⟨_,rfl,_,rfl,_,_,rfl⟩
 ·rintro _ ⟨x,y,rfl⟩
  exact qAw #[20] rfl
def qJl (ls:List Ld)(i:Nat):Option Nat:=(ls[i]?).bind (·.1)
def up (ls:List Ld):Nat→Nat→List Nat
 | 0,_=>[]
 | n + 1,i=>i::(match qJl ls i with | none=>[] | some p=>up ls n p)
theorem qK4 {ls:List Ld}(h:WorldOk ls){i p:Nat}(e:qJl ls i=some p):p < i:=by
 unfold qJl at e
 cases q:ls[i]? with
 | none=>rw [q] at e;cases e
 | some l=>rw [q] at e;exact (h.ok i l q).par p e
theorem up_st {ls:List Ld}(h:WorldOk ls):∀ (n m i:Nat),i < n→i < m→up ls n i=up ls m i
 | 0,_,_,a,_=>absurd a (Nat.not_lt_zero _)
 | _ + 1,0,_,_,b=>absurd b (Nat.not_lt_zero _)
 | n + 1,m + 1,i,a,b=>by
  unfold up
  cases e:qJl ls i with
  | none=>rfl
  | some p=>
   have:=qK4 h e
   simp only
   rw [up_st h n m p #[0] #[0]]
def qDk (ls:List Ld)(i:Nat):List Nat:=up ls (i + 1) i
theorem qE9 {ls:List Ld}{i:Nat}(e:qJl ls i=none):qDk ls i=[i]:=by
 unfold qDk up;rw [e]
theorem qD6 {ls:List Ld}(h:WorldOk ls){i p:Nat}(e:qJl ls i=some p):qDk ls i=i::qDk ls p:=by
 have:=qK4 h e
 unfold qDk
 rw [up,e]
 simp only
 rw [up_st h i (p + 1) p this (Nat.lt_succ_self _)]
theorem qKb {ls:List Ld}(h:WorldOk ls):∀ (i:Nat),i < ls.length→∀ j∈qDk ls i,j < ls.length:=by
 intro i
 induction i using Nat.strongRecOn with
 | _ i ih=>
  intro hi j hj
  cases e:qJl ls i with
  | none=>rw [qE9 e] at hj;have:j=i:=(by simpa using hj);omega
  | some p=>
   rw [qD6 h e] at hj
   have:=qK4 h e
   rcases List.mem_cons.mp hj with rfl | g
   ·exact hi
   ·exact ih p this #[0] j g
theorem ix_w {ls:List Ld}{i:Nat}{l:Ld}(h:ls[i]?=some l):ixW (.im #[2]) (.im #[27])=.ok (.im (ldD l)):=by
 refine qHq rfl #[0] ?_
 rw [Int.toNat_natCast,List.getElem?_map,h];rfl
theorem qQs {ls:List Ld}{i:Nat}(h:i < ls.length):∃ l,ls[i]?=some l∧qJl ls i=l.1:=by
 refine ⟨ls[i],List.getElem?_eq_getElem h,?_⟩
 unfold qJl;rw [List.getElem?_eq_getElem h];rfl
theorem ld0 {l:Ld}:ixW (.im (ldD l)) (.im (.int 0))=.ok (.im (qK5 l.1)):=ix0
theorem ld1 {l:Ld}:ixW (.im (ldD l)) (.im (.int 1))=.ok (.im (shD l.2)):=ix1
theorem qLz {t:qAj→Rs Bool}{b:qAj→Rs Fl}{n:Nat}{δ δ2:qAj}{r:Rs Fl}(h1:t δ=.ok true)(h2:b δ=.ok (.nx δ2))(h3:qCj t b n δ2=r):qCj t b (n + 1) δ=r:=by
 rw [qCj,h1,okb,if_pos rfl,h2];exact h3
theorem qL0 {t:qAj→Rs Bool}{b:qAj→Rs Fl}{n:Nat}{δ:qAj}(h1:t δ=.ok false):qCj t b (n + 1) δ=.ok (.nx δ):=by
 rw [qCj,h1,okb,if_neg #[4]]
theorem qTu {ls:List Ld}(h:WorldOk ls)(x1:Sl):∀ (i:Nat),i < ls.length→∀ (n:Nat) (acc:List D),i + 1 < n→acc.length + i < 100→
  qCj (qAg (qAn qDj (var 3) #[21]) W.bool) (qBd (qKr 2 (qBg (var 3))) (qCk 3 (qAn ixW (qAn ixW #[1] (var 3)) #[7]))) n [.im #[2],x1,.own acc,.im #[27]]=.ok (.nx [.im #[2],x1,.own (acc++(qDk ls i).map fun (j:Nat)=>D.int (j:Int)),.im .non]):=by
 intro i
 induction i using Nat.strongRecOn with
 | _ i ih=>
  intro hi n acc hn ha
  obtain ⟨l,hl,hp⟩:=qQs hi
  obtain ⟨n,rfl⟩:∃ m,n=m + 1 + 1:=⟨n - 2,by omega⟩
  have hb:qBd (qKr 2 (qBg (var 3))) (qCk 3 (qAn ixW (qAn ixW #[1] (var 3)) #[7])) [.im #[2],x1,.own acc,.im #[27]]=.ok (.nx [.im #[2],x1,.own (acc++[.int (i:Int)]),.im (qK5 l.1)]):=by
   have e1:=qG7 (δ:=[.im #[2],x1,.own acc,.im #[27]]) (i:=2) (gd:=qBg (var 3)) (d:=.int i) rfl rfl (by omega:acc.length < 1000)
   have:=ix_w hl
   simp only [qBd,e1]
   push_cast [this,ld0]
  refine qLz #[20] hb ?_
  cases e:l.1 with
  | none=>
   rw [e] at hp
   rw [qE9 hp]
   exact qL0 (by push_cast only [qK5])
  | some p=>
   rw [e] at hp
   have hlt:=qK4 h hp
   rw [qD6 h hp]
   show qCj _ _ (n + 1) [.im #[2],x1,.own (acc++[.int (i:Int)]),.im (.int (p:Int))]=_
   rw [ih p hlt #[0] (n + 1) _ #[0] (by rw [List.length_append];show acc.length + 1 + p < 100;omega),List.append_assoc]
   rfl
def qEo (ls:List Ld)(i:Nat):List D:=(qDk ls i).reverse.map fun (j:Nat)=>D.int (j:Int)
theorem qQr {ls:List Ld}(h:WorldOk ls){i:Nat}(hi:i < ls.length):qGm [.im #[2],.im #[27]]=.ok (.li true (qEo ls i)):=by
 have hl:=h.le
 refine qAx ?_
 refine qAv (δ:=[.im #[2],.im #[27],.un,.un]) #[20] ?_
 refine qAv #[20] ?_
 refine qAv (qTu h (.im #[27]) i hi 1000 [] #[0] (by show 0 + i < 100;omega)) ?_
 refine qAw (w:=.li true (qEo ls i)) ?_ rfl
 unfold qEo
 push_cast [revL,List.map_reverse,List.nil_append]
theorem qQq {ls:List Ld}(h:WorldOk ls)(x1:Sl):∀ (i:Nat),i < ls.length→∀ (n:Nat) (acc:List D),i < n→acc.length + i < 100→
  qCj (qAg (qAn qDj (qAn ixW (qAn ixW #[1] (qAn ixW (var 2) #[7])) #[7]) #[21]) W.bool) (qCk 2 (qAn qCp (qAg (qAq (qBg (qAn ixW (qAn ixW #[1] (qAn ixW (var 2) #[7])) #[7])) qB4) qBt) (var 2))) n [.im #[2],x1,.own (.int (i:Int)::acc)]=.ok (.nx [.im #[2],x1,.own (qEo ls i++acc)]):=by
 intro i
 induction i using Nat.strongRecOn with
 | _ i ih=>
  intro hi n acc hn ha
  obtain ⟨l,hl,hp⟩:=qQs hi
  obtain ⟨n,rfl⟩:∃ m,n=m + 1:=⟨n - 1,by omega⟩
  have e0:ixW (.li false (.int (i:Int)::acc)) (.im (.int 0))=.ok (.im #[27]):=qHq rfl #[0] rfl
  have ew:=ix_w hl
  cases e:l.1 with
  | none=>
   rw [e] at hp
   have:qEo ls i=[.int (i:Int)]:=by unfold qEo;rw [qE9 hp];rfl
   rw [this]
   exact qL0 (by push_cast only [e0,ew,ld0,e,qK5])
  | some p=>
   rw [e] at hp
   have hlt:=qK4 h hp
   have hal:[D.int (p:Int)].length + (D.int (i:Int)::acc).length≤16777216:=by show 1 + (acc.length + 1)≤16777216;omega
   refine qLz (δ2:=[.im #[2],x1,.own (.int (p:Int)::.int (i:Int)::acc)]) (by push_cast only [e0,ew,ld0,e,qK5]) (by push_cast only [e0,ew,ld0,e,qK5,qEm hal]) ?_
   rw [ih p hlt #[0] n _ #[0] (by show acc.length + 1 + p < 100;omega)]
   have:qEo ls i=qEo ls p++[.int (i:Int)]:=by
    unfold qEo;rw [qD6 h hp,List.reverse_cons,List.map_append];rfl
   rw [this,List.append_assoc];rfl
theorem qWj {ls:List Ld}(h:WorldOk ls){i:Nat}(hi:i < ls.length):qIq [.im #[2],.im #[27]]=.ok (.li true (qEo ls i)):=by
 have hl:=h.le
 refine qAx ?_
 refine qAv (δ:=[.im #[2],.im #[27],.un]) #[20] ?_
 refine qAv (qQq h (.im #[27]) i hi 1000 [] #[0] (by show 0 + i < 100;omega)) ?_
 refine qAw (w:=.li true (qEo ls i)) ?_ rfl
 push_cast [List.append_nil]
def nmAt (ls:List Ld)(j:Nat):List Str:=match ls[j]? with | some l=>nmS l.2 | none=>[]
def has (ls:List Ld)(nm:Str)(j:Nat):Bool:=(nmAt ls j).any (· == nm)
def qCq (ls:List Ld)(i:Nat)(nm:Str):Option Nat:=(qDk ls i).reverse.find? (has ls nm)
def qIv (nm:Str):Option Nat→D
 | none=>.non
 | some j=>.tup [.int (j:Int),.str nm]
theorem qPa {t:D→qAj→Rs qAj}{b:qAj→Rs Fl}(p:Nat→Bool)(r:Nat→W)(J:qAj→Prop):∀ (xs:List Nat) (δ:qAj),J δ→
  (∀ x∈xs,∀ δ,J δ→∃ δ1,t (.int (x:Int)) δ=.ok δ1∧(p x=true→b δ1=.ok (.rt (r x)))∧(p x=false→∃ δ2,b δ1=.ok (.nx δ2)∧J δ2))→
  match xs.find? p with
  | some x=>qFh t b (xs.map fun (j:Nat)=>D.int (j:Int)) δ=.ok (.rt (r x))
  | none=>∃ δ',qFh t b (xs.map fun (j:Nat)=>D.int (j:Int)) δ=.ok (.nx δ')∧J δ'
 | [],δ,h0,_=>⟨δ,rfl,h0⟩
 | x::xs,δ,h0,hs=>by
  obtain ⟨δ1,e1,ht,hf⟩:=hs x (List.mem_cons_self ..) δ h0
  rw [List.find?_cons]
  cases e:p x with
  | true=>simp only [List.map_cons,qFh,e1,ht e]
  | false=>
   obtain ⟨δ2,e2,j2⟩:=hf e
   have ih:=qPa p r J xs δ2 j2 fun y hy=>hs y (List.mem_cons_of_mem _ hy)
   simp only [List.map_cons,qFh,e1,e2]
   exact ih
theorem qab {f:Bool}{nm:Str}{ss:List Str}:inW (.im (.str nm)) (.li f #[15])=.ok (.im (.bl (ss.any (· == nm)))):=by
 have h:fineDs 50 #[15]=true:=qEx 50 ss
 have e:qM9 (.str nm) #[15]=ss.any (· == nm):=by
  unfold qM9;rw [List.any_map];rfl
 show (if qA3 50 (D.str nm)=true∧fineDs 50 #[15]=true then Rs.ok (W.im (D.bl (qM9 (D.str nm) #[15]))) else Rs.no)=_
 rw [if_pos ⟨rfl,h⟩,e]
theorem qOv {ls:List Ld}{j:Nat}{l:Ld}(h:ls[j]?=some l)(nm:Str):has ls nm j=(nmS l.2).any (· == nm):=by
 unfold has nmAt;rw [h]
theorem qO9 {ls:List Ld}(h:WorldOk ls){i:Nat}(hi:i < ls.length)(nm:Str):qEr [.im #[2],.im #[27],.im (.str nm)]=.ok (.im (qIv nm (qCq ls i nm))):=by
 refine qAx ?_
 have el:=qQr h hi
 have hf:=qPa (t:=qFb 3) (b:=ifF (qAg (qAn inW (var 2) (qAs qCy 1 (qAc (qAn ixW (qAn ixW #[1] (var 3)) #[13]) qA2))) W.bool) (qB8 (toW (qAg (qAq (qBg (var 3)) (qAq (qBg (var 2)) qB4)) qBy))) qC8)
  (has ls nm) (fun j=>.im (.tup [.int (j:Int),.str nm])) (fun δ=>∃ x,δ=[.im #[2],.im #[27],.im (.str nm),x]) (qDk ls i).reverse [.im #[2],.im #[27],.im (.str nm),.un] ⟨_,rfl⟩ (by
  rintro j hj _ ⟨x,rfl⟩
  have hj:=qKb h i hi j (List.mem_reverse.mp hj)
  obtain ⟨l,hl,_⟩:=qQs hj
  have en:=qHl (h.ok j l hl).sh
  have ew:=ix_w hl
  have et:qAg (qAn inW (var 2) (qAs qCy 1 (qAc (qAn ixW (qAn ixW #[1] (var 3)) #[13]) qA2))) W.bool [.im #[2],.im #[27],.im (.str nm),.im (.int (j:Int))]=.ok (has ls nm j):=by
   rw [qOv hl]
   push_cast only [ew,ld1,en,qab]
  refine ⟨_,rfl,fun e=>?_,fun e=>⟨[.im #[2],.im #[27],.im (.str nm),.im (.int (j:Int))],?_,⟨_,rfl⟩⟩⟩
  ·rw [e] at et
   show ifF _ _ _ [.im #[2],.im #[27],.im (.str nm),.im (.int (j:Int))]=_
   simp only [ifF,et,okb,qCu]
   push_cast only [okb]
  ·rw [e] at et
   show ifF _ _ _ [.im #[2],.im #[27],.im (.str nm),.im (.int (j:Int))]=_
   simp only [ifF,et,okb,Bool.false_eq_true,qDa,qC8])
 have eg:qAg (qAs qGm 2 #[29]) W.walkN [.im #[2],.im #[27],.im (.str nm),.un]=.ok (qEo ls i):=by
  push_cast only [el]
 unfold qCq
 cases e:(qDk ls i).reverse.find? (has ls nm) with
 | some j=>
  rw [e] at hf
  refine qRm (δ:=[.im #[2],.im #[27],.im (.str nm),.un]) (w:=.im (qIv nm (some j))) ?_ rfl
  simp only [qH5,eg,okb]
  exact hf
 | none=>
  rw [e] at hf
  obtain ⟨δ',e',x,rfl⟩:=hf
  refine qAv (δ:=[.im #[2],.im #[27],.im (.str nm),.un]) (δ':=[.im #[2],.im #[27],.im (.str nm),x]) ?_ (qAw #[20] rfl)
  simp only [qH5,eg,okb]
  exact e'
theorem qWi {fl:List (Str×D)}(h:ShelfOk fl)(nm:Str):qOm [.im (shD fl),.im (.str nm)]=.ok (.li true ((fl.filter fun p=>p.1 == nm).map (·.2))):=by
 have hle:=h.le
 let q:D→Bool:=fun d=>match d with | .tup (_::.str n::_)=>n == nm | _=>false
 have hc:=qJ8 (δ:=[.im (shD fl),.im (.str nm)]) (t:=qAg (qAn eqW (qAn ixW #[1] #[13]) (var 2)) W.bool) (el:=qBg #[1]) (ds:=fl.map (·.2)) q id (by rw [List.length_map];omega) (by
  intro d hd
  obtain ⟨p,hp,rfl⟩:=List.mem_map.mp hd
  obtain ⟨k,r,e⟩:=(h.ok p hp).sh
  rw [e]
  exact ⟨by push_cast only [ix1],fun _=>rfl⟩)
 have e:((fl.map (·.2)).filter q).map id=(fl.filter fun p=>p.1 == nm).map (·.2):=by
  rw [List.map_id,List.filter_map]
  congr 1
  refine List.filter_congr fun p hp=>?_
  obtain ⟨k,r,e⟩:=(h.ok p hp).sh
  show q p.2=_
  rw [e]
 rw [e] at hc
 refine qAx (qAw (δ:=[.im (shD fl),.im (.str nm)]) ?_ rfl)
 simp only [qC2,qAg,var,List.getElem?_cons_zero,okb,W.walk,W.items,shD]
 exact hc
theorem ne_nil {ds:List D}(h:∀ d∈ds,qA3 49 d=true):neW (.li true ds) (.li true [])=.ok (.im (.bl (!ds.isEmpty))):=by
 have f:qA3 50 (D.lst ds)=true:=qDw 49 ds h
 show (if qA3 50 (D.lst ds)=true∧qA3 50 (D.lst [])=true then Rs.ok (W.im (D.bl (!eqD (.lst ds) (.lst [])))) else Rs.no)=_
 rw [if_pos ⟨f,rfl⟩]
 cases ds <;> rfl
theorem qd3 {f:Bool}{ds:List D}(h:∀ d∈ds,qA3 49 d=true):eqW (.li f ds) (.li true [])=.ok (.im (.bl ds.isEmpty)):=by
 have f:qA3 50 (D.lst ds)=true:=qDw 49 ds h
 show (if qA3 50 (D.lst ds)=true∧qA3 50 (D.lst [])=true then Rs.ok (W.im (D.bl (eqD (.lst ds) (.lst [])))) else Rs.no)=_
 rw [if_pos ⟨f,rfl⟩]
 cases ds <;> rfl
theorem qT2 {fl:List (Str×D)}{nm:Str}:(!((fl.filter fun p=>p.1 == nm).map (·.2)).isEmpty)=(nmS fl).any (· == nm):=by
 unfold nmS
 induction fl with
 | nil=>rfl
 | cons p fl ih=>
  rw [List.filter_cons,List.map_cons,List.any_cons]
  cases e:(p.1 == nm) with
  | true=>rfl
  | false=>exact ih
theorem qOo {ls:List Ld}(h:WorldOk ls){i:Nat}(hi:i < ls.length)(nm:Str):qDu [.im #[2],.im #[27],.im (.str nm)]=.ok (.im (qIv nm (qCq ls i nm))):=by
 refine qAx ?_
 have hle:=h.le
 have el:=qWj h hi
 have hll:(qEo ls i).length < 16777216:=by
  unfold qEo
  rw [List.length_map,List.length_reverse]
  have:∀ n k,(up ls n k).length≤n:=by
   intro n
   induction n with
   | zero=>intro k;exact Nat.le_refl _
   | succ n ih=>
    intro k;unfold up
    rw [List.length_cons]
    cases qJl ls k with
    | none=>exact Nat.succ_le_succ (Nat.zero_le _)
    | some p=>exact Nat.succ_le_succ (ih p)
  have:=this (i + 1) i
  show (up ls (i + 1) i).length < _
  omega
 let q:D→Bool:=fun d=>match d with | .int j=>has ls nm j.toNat | _=>false
 have hc:=qJ8 (δ:=[.im #[2],.im #[27],.im (.str nm),.un]) (t:=qAg (qAn neW (qAs qOm 2 (qAc (qAn ixW (qAn ixW (var 1) #[1]) #[13]) (qAc (var 3) qA2))) (qAg qB4 qBt)) W.bool) (el:=qBg #[1]) (ds:=qEo ls i) q id hll (by
  intro d hd
  obtain ⟨j,hj,rfl⟩:=List.mem_map.mp hd
  have hj:=qKb h i hi j (List.mem_reverse.mp hj)
  obtain ⟨l,hl,_⟩:=qQs hj
  have hs:=(h.ok j l hl).sh
  have en:=qWi hs nm
  have ew:=ix_w hl
  have hn:=ne_nil (ds:=(l.2.filter fun p=>p.1 == nm).map (·.2)) (by
   intro d hd
   obtain ⟨p,hp,rfl⟩:=List.mem_map.mp hd
   exact (hs.ok p (List.mem_filter.mp hp).1).fine)
  have hq:q (.int (j:Int)) = !((l.2.filter fun p=>p.1 == nm).map (·.2)).isEmpty:=by
   show has ls nm (j:Int).toNat=_
   rw [Int.toNat_natCast,qOv hl,qT2]
  rw [hq]
  exact ⟨by push_cast only [ew,ld1,en,hn],fun _=>rfl⟩)
 have ef:((qEo ls i).filter q).map id=((qDk ls i).reverse.filter (has ls nm)).map fun (j:Nat)=>D.int (j:Int):=by
  unfold qEo
  rw [List.map_id,List.filter_map]
  congr 1
 rw [ef] at hc
 refine qAv (δ:=[.im #[2],.im #[27],.im (.str nm),.un]) (δ':=[.im #[2],.im #[27],.im (.str nm),.own (((qDk ls i).reverse.filter (has ls nm)).map fun (j:Nat)=>D.int (j:Int))]) ?_ ?_
 ·simp only [qCk,qC2]
  have:qAg (qAs qIq 2 #[29]) W.walk [.im #[2],.im #[27],.im (.str nm),.un]=.ok (qEo ls i):=by push_cast only [el]
  rw [this,okb,hc]
  push_cast only [okb]
 have hh:qCq ls i nm=((qDk ls i).reverse.filter (has ls nm)).head?:=by
  unfold qCq;rw [List.head?_filter]
 rw [hh]
 generalize (qDk ls i).reverse.filter (has ls nm)=xs
 have he:=qd3 (f:=false) (ds:=xs.map fun (j:Nat)=>D.int (j:Int)) (by
  intro d hd;obtain ⟨j,_,rfl⟩:=List.mem_map.mp hd;rfl)
 refine qAp (b:=(xs.map fun (j:Nat)=>D.int (j:Int)).isEmpty) (by push_cast only [he]) (fun e=>?_) (fun e=>qBe ?_)
 ·cases xs with
  | nil=>exact qBl #[20] rfl
  | cons x xs=>cases e
 ·cases xs with
  | nil=>cases e
  | cons x xs=>
   have e0:ixW (.li false ((x::xs).map fun (j:Nat)=>D.int (j:Int))) (.im (.int 0))=.ok (.im (.int (x:Int))):=qHq rfl #[0] rfl
   exact qAw (by push_cast only [e0]) rfl
theorem qPi {α:Type}{t:qAj→Rs Bool}{el:qAj→Rs D}{δ:qAj}{u:α→D}{p:α→Bool}{f:α→D}:∀ (xs:List α),(∀ x∈xs,t (.im (u x)::δ)=.ok (p x)∧(p x=true→el (.im (u x)::δ)=.ok (f x)))→qF5 t el (xs.map u) δ=.ok ((xs.filter p).map f)
 | [],_=>rfl
 | x::xs,h=>by
  have ih:=qPi xs fun y hy=>h y (List.mem_cons_of_mem _ hy)
  obtain ⟨h1,h2⟩:=h x (List.mem_cons_self ..)
  rw [List.filter_cons,List.map_cons]
  unfold qF5
  rw [h1,PD.ok_bind]
  by_cases e:p x=true
  ·rw [if_pos e,if_pos e,h2 e,ih];rfl
  ·rw [if_neg e,if_neg e,ih]
theorem qPh {α:Type}{t:qAj→Rs Bool}{el:qAj→Rs D}{δ:qAj}{xs:List α}(u:α→D)(p:α→Bool)(f:α→D)(hl:xs.length < 16777216)(h:∀ x∈xs,t (.im (u x)::δ)=.ok (p x)∧(p x=true→el (.im (u x)::δ)=.ok (f x))) :
  qJ9 t el (xs.map u) δ=.ok (.li true ((xs.filter p).map f)):=by
 unfold qJ9;rw [if_pos (show _ < lim by rw [List.length_map];exact hl),qPi xs h];rfl
theorem qbo {i:Nat}{g:qAj→Rs W}{δ:qAj}{ds zs:List D}(h:δ[i]?=some (.own ds))(hg:g δ=.ok (.li true zs))(hl:ds.length + zs.length≤1000):qXo i g δ=.ok (.nx (δ.set i (.own (ds++zs)))):=by
 simp only [qXo,h,hg,okb]
 exact if_pos (by show _≤16777216;omega)
abbrev Pa:=Int×Str
def prL (i:Nat)(l:Ld):List Pa:=l.2.map fun p=>((i:Int),p.1)
def prs (ls:List Ld):Nat→List Pa
 | 0=>[]
 | k + 1=>prs ls k++(match ls[k]? with | some l=>prL k l | none=>[])
theorem prs_s {ls:List Ld}{k:Nat}{l:Ld}(h:ls[k]?=some l):prs ls (k + 1)=prs ls k++prL k l:=by
 rw [prs,h]
theorem qJk {ls:List Ld}(h:WorldOk ls):∀ k,(prs ls k).length≤4 * k
 | 0=>Nat.le_refl _
 | k + 1=>by
  have ih:=qJk h k
  rw [prs,List.length_append]
  cases e:ls[k]? with
  | none=>show _ + 0≤_;omega
  | some l=>
   have:=(h.ok k l e).sh.le
   show _ + (prL k l).length≤_
   unfold prL;rw [List.length_map];omega
theorem qVu {ls:List Ld}:∀ (k:Nat) (x:Pa),x∈prs ls k→∃ i:Nat,i < ls.length∧x.1=(i:Int)
 | 0,x,h=>nomatch h
 | k + 1,x,h=>by
  rw [prs] at h
  rcases List.mem_append.mp h with g | g
  ·exact qVu k x g
  ·cases e:ls[k]? with
   | none=>rw [e] at g;cases g
   | some l=>
    rw [e] at g
    obtain ⟨p,_,rfl⟩:=List.mem_map.mp g
    refine ⟨k,?_,rfl⟩
    rcases Nat.lt_or_ge k ls.length with z | z
    ·exact z
    ·rw [List.getElem?_eq_none z] at e;cases e
def isF (ls:List Ld)(x:Pa):Bool:=decide (qCq ls x.1.toNat x.2=some x.1.toNat)
theorem qbq {nm:Str}{o:Option Nat}{i:Nat}:eqW (.im (qIv nm o)) (.im (.tup [.int (i:Int),.str nm]))=.ok (.im (.bl (decide (o=some i)))):=by
 have f:qA3 50 (W.im (qIv nm o)).dat=true:=by cases o <;> rfl
 have e:eqD (qIv nm o) (.tup [.int (i:Int),.str nm])=decide (o=some i):=by
  cases o with
  | none=>rfl
  | some j=>
   simp only [qIv,eqD,eqDs,Bool.and_true,beq_self_eq_true]
   by_cases z:j=i
   ·subst z;simp
   ·have z1:¬ ((j:Int)=(i:Int)):=by omega
    have z2:¬ (some j=some i):=fun h=>z (Option.some.inj h)
    rw [decide_eq_false z2]
    exact beq_eq_false_iff_ne.mpr z1
 unfold eqW
 rw [if_pos ⟨f,rfl⟩]
 show Rs.ok (W.im (D.bl (eqD (qIv nm o) (.tup [.int (i:Int),.str nm]))))=_
 rw [e]
theorem qXs (x y:Pa):eqD (unP x) (unP y)=decide (x=y):=by
 obtain ⟨a,s⟩:=x
 obtain ⟨b,t⟩:=y
 simp only [unP,eqD,eqDs,Bool.and_true]
 by_cases z:a=b
 ·subst z
  by_cases w:s=t
  ·subst w;simp
  ·have:¬ ((a,s)=(a,t)):=fun h=>w (Prod.mk.inj h).2
   rw [decide_eq_false this,beq_self_eq_true,Bool.true_and]
   exact beq_eq_false_iff_ne.mpr w
 ·have:¬ ((a,s)=(b,t)):=fun h=>z (Prod.mk.inj h).1
  rw [decide_eq_false this,beq_eq_false_iff_ne.mpr z,Bool.false_and]
theorem qIt (n:Nat)(S:List Pa):fineDs (n + 1) (S.map unP)=true:=qDw _ _ fun d hd=>by
 obtain ⟨x,_,rfl⟩:=List.mem_map.mp hd
 rfl
theorem qOk {f:Bool}(S:List Pa)(x:Pa):qFf (.im (unP x)) (.li f (S.map unP))=.ok (.im (.bl (!decide (x∈S)))):=by
 have h:fineDs 50 (S.map unP)=true:=qIt 49 S
 have e:qM9 (unP x) (S.map unP)=decide (x∈S):=by
  unfold qM9
  rw [List.any_map]
  induction S with
  | nil=>rfl
  | cons y S ih=>
   rw [List.any_cons,ih (qIt 49 S)]
   show (eqD (unP y) (unP x) || _)=_
   rw [qXs]
   by_cases z:y=x
   ·subst z;simp
   ·simp [z,Ne.symm z]
 show (if qA3 50 (unP x)=true∧fineDs 50 (S.map unP)=true then Rs.ok (W.im (D.bl (!qM9 (unP x) (S.map unP)))) else Rs.no)=_
 rw [if_pos ⟨rfl,h⟩,e]
theorem qRf {f:Bool}{S:List Pa}(h:S.length < 64):qS3 [.li f (S.map unP)]=.ok (.li true ((qD8 S).map unP)):=by
 simp only [qS3,W.items,qK6]
 rw [if_pos h]
theorem qH1 {ls:List Ld}(h:WorldOk ls){x:Pa}(hx:∃ i:Nat,i < ls.length∧x.1=(i:Int)):qD1 [.im #[2],.im (unP x)]=.ok (.im (.bl (isF ls x))):=by
 obtain ⟨i,hi,e⟩:=hx
 obtain ⟨a,nm⟩:=x
 have e:a=(i:Int):=e
 subst e
 have ef:=qO9 h hi nm
 refine qAx (qAw (δ:=[.im #[2],.im (.tup [.int (i:Int),.str nm])]) ?_ rfl)
 unfold isF
 push_cast [ix0,ix1,ef,qbq,Int.toNat_natCast]
theorem qdk {fl:List (Str×D)}(h:ShelfOk fl){p:Str×D}(hp:p∈fl):ixW (.im p.2) (.im (.int 1))=.ok (.im (.str p.1)):=by
 obtain ⟨k,r,e⟩:=(h.ok p hp).sh
 rw [e];exact ix1
theorem qS4 {t:qAj→Rs Bool}{el:qAj→Rs D}{δ:qAj}{k:Nat}{l:Ld}(h:ShelfOk l.2)(q:Pa→Bool)(H:∀ p∈l.2,t (.im p.2::δ)=.ok (q ((k:Int),p.1))∧el (.im p.2::δ)=.ok (unP ((k:Int),p.1))) :
  qJ9 t el (l.2.map (·.2)) δ=.ok (.li true (((prL k l).filter q).map unP)):=by
 have hle:=h.le
 rw [qPh (xs:=l.2) (·.2) (fun p=>q ((k:Int),p.1)) (fun p=>unP ((k:Int),p.1)) #[0] fun p hp=>⟨(H p hp).1,fun _=>(H p hp).2⟩]
 unfold prL
 rw [List.filter_map,List.map_map];rfl
theorem qOp {ls:List Ld}(h:WorldOk ls):qFx [.im #[2]]=.ok (.li true ((qD8 ((prs ls ls.length).filter (isF ls))).map unP)):=by
 refine qAx ?_
 have hle:=h.le
 refine qAv (δ:=[.im (.tup (ls.map ldD)),.un,.un,.un]) #[20] ?_
 let J:Nat→qAj→Prop:=fun k δ=>∃ x y,δ=[.im (.tup (ls.map ldD)),.own (((prs ls k).filter (isF ls)).map unP),x,y]
 refine qCm (Q1:=fun δ=>J ls.length δ) ?_ ?_
 ·refine qFp (ds:=qF4 (ls.map ldD)) J #[20] ⟨_,_,rfl⟩ ?_ (fun δ' hj=>⟨_,rfl,by rw [qSr,List.length_map] at hj;exact hj⟩)
  rintro k d _ hd ⟨x,y,rfl⟩
  obtain ⟨z,hz,rfl⟩:=qQ1 hd
  rw [List.getElem?_map] at hz
  obtain ⟨l,hl,rfl⟩:=Option.map_eq_some_iff.mp hz
  have hs:=(h.ok k l hl).sh
  have hsl:=hs.le
  have hk:k < ls.length:=by
   rcases Nat.lt_or_ge k ls.length with g | g
   ·exact g
   ·rw [List.getElem?_eq_none g] at hl;cases hl
  have hpl:=qJk h k
  have hfl:((prs ls k).filter (isF ls)).length≤(prs ls k).length:=List.length_filter_le ..
  have hfl2:((prL k l).filter (isF ls)).length≤4:=by
   have:((prL k l).filter (isF ls)).length≤(prL k l).length:=List.length_filter_le ..
   unfold prL at this ⊢;rw [List.length_map] at this;omega
  refine ⟨[.im (.tup (ls.map ldD)),.own (((prs ls k).filter (isF ls)).map unP),.im (.int (k:Int)),.im (ldD l)],rfl,?_⟩
  refine ⟨_,qbo (ds:=((prs ls k).filter (isF ls)).map unP) (zs:=((prL k l).filter (isF ls)).map unP) rfl ?_ ?_,_,rfl,.im (.int (k:Int)),.im (ldD l),?_⟩
  ·simp only [qC2]
   have:qAg (qAn ixW (var 3) #[13]) W.walk [.im (.tup (ls.map ldD)),.own (((prs ls k).filter (isF ls)).map unP),.im (.int (k:Int)),.im (ldD l)]=.ok (l.2.map (·.2)):=by
    push_cast only [ld1,shD]
   rw [this,okb]
   refine qS4 hs (isF ls) fun p hp=>?_
   have ei:=qdk hs hp
   have ef:=qOo h hk p.1
   unfold wdD at ef
   refine ⟨?_,by push_cast only [ei]⟩
   unfold isF
   push_cast [ei,ef,qbq,Int.toNat_natCast]
  ·rw [List.length_map,List.length_map];omega
  ·rw [prs_s hl,List.filter_append,List.map_append];rfl
 ·rintro _ ⟨x,y,rfl⟩
  have hpl:=qJk h ls.length
  have hfl:((prs ls ls.length).filter (isF ls)).length≤(prs ls ls.length).length:=List.length_filter_le ..
  exact qAw (by push_cast only [qRf (f:=false) (show ((prs ls ls.length).filter (isF ls)).length < 64 by omega)]) rfl
theorem qUo {ls:List Ld}{k:Nat}{l:Ld}(hl:ls[k]?=some l){x:Pa}(hx:x∈prL k l):∀ n,k < n→x∈prs ls n
 | 0,h=>absurd h (Nat.not_lt_zero _)
 | n + 1,h=>by
  rw [prs]
  rcases Nat.lt_or_ge k n with g | g
  ·exact List.mem_append.mpr (.inl (qUo hl hx n g))
  ·have:n=k:=by omega
   subst this
   rw [hl];exact List.mem_append.mpr (.inr hx)
theorem qUc (ls:List Ld)(i:Nat):i∈qDk ls i:=by
 unfold qDk up;exact List.mem_cons_self ..
theorem qX0 {ls:List Ld}(h:WorldOk ls):∀ (i j:Nat),j∈qDk ls i→∃ pre,qDk ls i=pre++qDk ls j:=by
 intro i
 induction i using Nat.strongRecOn with
 | _ i ih=>
  intro j hj
  cases e:qJl ls i with
  | none=>
   rw [qE9 e] at hj
   have:j=i:=by simpa using hj
   subst this;exact ⟨[],rfl⟩
  | some p=>
   have hp:=qK4 h e
   rw [qD6 h e] at hj ⊢
   rcases List.mem_cons.mp hj with z | z
   ·subst z;exact ⟨[],by rw [qD6 h e];rfl⟩
   ·obtain ⟨pre,q⟩:=ih p hp j z
    exact ⟨i::pre,by rw [q];rfl⟩
theorem qG2 {ls:List Ld}{i j:Nat}{nm:Str}(e:qCq ls i nm=some j):j∈qDk ls i∧has ls nm j=true:=by
 unfold qCq at e
 exact ⟨List.mem_reverse.mp (List.mem_of_find?_eq_some e),List.find?_some e⟩
theorem qT1 {ls:List Ld}(h:WorldOk ls){i j:Nat}{nm:Str}(e:qCq ls i nm=some j):qCq ls j nm=some j:=by
 obtain ⟨m,hh⟩:=qG2 e
 obtain ⟨pre,q⟩:=qX0 h i j m
 unfold qCq at e ⊢
 rw [q,List.reverse_append,List.find?_append] at e
 cases z:(qDk ls j).reverse.find? (has ls nm) with
 | some x=>rw [z] at e;exact e
 | none=>
  have:=List.find?_eq_none.mp z j (List.mem_reverse.mpr (qUc ls j))
  exact absurd hh this
theorem qds {ls:List Ld}{j:Nat}{nm:Str}(hj:j < ls.length)(e:has ls nm j=true):((j:Int),nm)∈prs ls ls.length:=by
 obtain ⟨l,hl,_⟩:=qQs hj
 rw [qOv hl] at e
 obtain ⟨x,hx,q⟩:=List.any_eq_true.mp e
 have q:x=nm:=by simpa using q
 subst q
 obtain ⟨p,hp,rfl⟩:=List.mem_map.mp hx
 exact qUo hl (List.mem_map.mpr ⟨p,hp,rfl⟩) _ hj
def fK:D→Str
 | .tup (.str k::_)=>k
 | _=>Str.empty
def fA:D→Option Str
 | .tup [_,_,.str a,_,_]=>some a
 | _=>none
def fF:D→List Str
 | .tup [_,_,_,.tup fs,_]=>(qNg fs).getD []
 | _=>[]
def qbm (fl:List (Str×D))(nm:Str):D:=match fl.find? (fun p=>p.1 == nm) with
 | some p=>p.2
 | none=>.non
def qA9 (ls:List Ld)(x:Pa):D:=match ls[x.1.toNat]? with
 | some l=>qbm l.2 x.2
 | none=>.non
abbrev cC:Str:=Str.ofString "class"
abbrev cF:Str:=Str.ofString "face"
def ups (d:D):List (Str×Str):=(match fA d with | some a=>[(a,cC)] | none=>[])++(fF d).map fun s=>(s,cF)
def upD (p:Str×Str):D:=.tup [.str p.1,.str p.2]
theorem qSj {nm:Str}:∀ {fl:List (Str×D)} {p:Str×D},fl.find? (fun p=>p.1 == nm)=some p→∃ k,((nmS fl).map D.str).findIdx? (fun d'=>eqD d' (.str nm))=some k∧fl[k]?=some p∧k < fl.length
 | [],p,h=>by cases h
 | q::fl,p,h=>by
  rw [List.find?_cons] at h
  show ∃ k,(D.str q.1::(nmS fl).map D.str).findIdx? _=some k∧_
  rw [List.findIdx?_cons]
  have e:eqD (D.str q.1) (D.str nm)=(q.1 == nm):=by simp only [eqD]
  rw [e]
  cases z:(q.1 == nm) with
  | true=>rw [z] at h;cases h;exact ⟨0,rfl,rfl,Nat.succ_pos _⟩
  | false=>
   rw [z] at h
   obtain ⟨k,h1,h2,h3⟩:=qSj h
   exact ⟨k + 1,by rw [if_neg Bool.false_ne_true,h1];rfl,h2,Nat.succ_lt_succ h3⟩
theorem qR9 {fl:List (Str×D)}{nm:Str}(h:(nmS fl).any (· == nm)=true):∃ p,fl.find? (fun p=>p.1 == nm)=some p∧p.1=nm∧p∈fl:=by
 cases z:fl.find? (fun p=>p.1 == nm) with
 | some p=>exact ⟨p,rfl,by simpa using List.find?_some z,List.mem_of_find?_eq_some z⟩
 | none=>
  obtain ⟨y,hy,e⟩:=List.any_eq_true.mp h
  obtain ⟨p,hp,rfl⟩:=List.mem_map.mp hy
  exact absurd e (List.find?_eq_none.mp z p hp)
structure Cls (ls:List Ld) (x:Pa):Prop where
 nat:x.1=((x.1.toNat:Nat):Int)
 lt:x.1.toNat < ls.length
 own:qCq ls x.1.toNat x.2=some x.1.toNat
theorem Cls.has {ls:List Ld}{x:Pa}(c:Cls ls x):has ls x.2 x.1.toNat=true:=(qG2 c.own).2
theorem qPl {ls:List Ld}(h:WorldOk ls){i j:Nat}(hi:i < ls.length){nm:Str}(e:qCq ls i nm=some j):Cls ls ((j:Int),nm):=
 ⟨by rw [Int.toNat_natCast],by rw [Int.toNat_natCast];exact qKb h i hi j (qG2 e).1,by rw [Int.toNat_natCast];exact qT1 h e⟩
theorem Cls.file {ls:List Ld}(h:WorldOk ls){x:Pa}(c:Cls ls x):∃ (l:Ld) (p:Str×D),ls[x.1.toNat]?=some l∧l.2.find? (fun p=>p.1 == x.2)=some p∧qA9 ls x=p.2∧FileOk p.2 x.2:=by
 obtain ⟨l,hl,_⟩:=qQs c.lt
 have hh:=c.has
 rw [qOv hl] at hh
 obtain ⟨p,h1,h2,h3⟩:=qR9 hh
 refine ⟨l,p,hl,h1,?_,h2 ▸ (h.ok _ l hl).sh.ok p h3⟩
 unfold qA9 qbm
 rw [hl];simp only [h1]
theorem qa4 {x:Pa}:ixW (.im (unP x)) (.im (.int 0))=.ok (.im (.int x.1)):=ix0
theorem unP1 {x:Pa}:ixW (.im (unP x)) (.im (.int 1))=.ok (.im (.str x.2)):=ix1
theorem ix_wc {ls:List Ld}{x:Pa}(c:Cls ls x){l:Ld}(hl:ls[x.1.toNat]?=some l):ixW (.im #[2]) (.im (.int x.1))=.ok (.im (ldD l)):=by
 have:=ix_w hl
 rw [←c.nat] at this;exact this
theorem qEe {ls:List Ld}(h:WorldOk ls){x:Pa}(c:Cls ls x):qD4 [.im #[2],.im (unP x)]=.ok (.im #[16]):=by
 obtain ⟨l,p,hl,hf,hp,_⟩:=c.file h
 have hs:=(h.ok _ l hl).sh
 have hsl:=hs.le
 obtain ⟨k,k1,k2,k3⟩:=qSj hf
 refine qAx ?_
 refine qAv (δ:=[.im #[2],.im (unP x),.un]) (by push_cast only [ix_wc c hl,qa4,ld1]) ?_
 have hn:=qHl hs
 have hi:idxW ((nmS l.2).map D.str) (.str x.2)=.ok (.im (.int (k:Nat))):=by
  unfold idxW
  rw [if_pos ⟨rfl,qEx _ _,by rw [List.length_map];unfold nmS;rw [List.length_map];omega⟩,k1]
 have hx:ixW (.im (shD l.2)) (.im (.int (k:Nat)))=.ok (.im p.2):=qHq rfl #[0] (by rw [Int.toNat_natCast,List.getElem?_map,k2];rfl)
 refine qAw (w:=.im p.2) ?_ (by rw [hp])
 push_cast only [qWy,hn,unP1,hi,hx]
theorem qJq {d:D}{n:Str}(h:FileOk d n):qDb [.im d]=.ok (.li true ((ups d).map upD)):=by
 obtain ⟨k,a,fs,rs,rfl,ha,hl,_,_,_⟩:=h.full
 refine qAx ?_
 have e1:fF #[48]=fs:=by
  simp only [fF,qF9,Option.getD_some]
 have hc:=fun δ=>qE0 (δ:=.im #[48]::δ) (el:=qAg (qAq (qBg #[1]) (qAq (cst (.str "face")) qB4)) qBy) (ds:=fs.map D.str) (fun d=>.tup [d,.str "face"]) (by rw [List.length_map];omega) (by
  intro d hd
  obtain ⟨s,hs,rfl⟩:=List.mem_map.mp hd
  push_cast only [okb])
 have e2:(fs.map D.str).map (fun d=>D.tup [d,.str "face"])=fs.map fun s=>upD (s,cF):=by rw [List.map_map];rfl
 refine qAv (δ:=[.im #[48],.un]) (δ':=[.im #[48],.own (fs.map fun s=>upD (s,cF))]) (by
  simp only [qCk,qC2]
  push_cast only [ix3,hc,e2]) ?_
 have eu:∀ L:List (Str×Str),(match fA #[48] with | some a=>[(a,cC)] | none=>[])=L→(ups #[48]).map upD=L.map upD++fs.map fun s=>upD (s,cF):=by
  intro L e
  unfold ups
  rw [e1,e,List.map_append,List.map_map];rfl
 have go:∀ w,ifW (qAg (qAn isW (qAn ixW #[1] #[23]) #[21]) W.bool) (qP1 1) (qAn qCp (qAg (qAq (qAg (qAq (qBg (qAn ixW #[1] #[23])) (qAq (cst (.str "class")) qB4)) qBy) qB4) qBt) (var 1)) [.im #[48],.own (fs.map fun s=>upD (s,cF))]=.ok w→w=.li true ((ups #[48]).map upD)→Run (qB8 (ifW (qAg (qAn isW (qAn ixW #[1] #[23]) #[21]) W.bool) (qP1 1) (qAn qCp (qAg (qAq (qAg (qAq (qBg (qAn ixW #[1] #[23])) (qAq (cst (.str "class")) qB4)) qBy) qB4) qBt) (var 1)))) [.im #[48],.own (fs.map fun s=>upD (s,cF))] (fun f=>f=.rt (.li true ((ups #[48]).map upD))):=fun w e1 e2=>qAw e1 (by rw [e2])
 cases ha with
 | cls=>exact go _ (by push_cast only [ix2]) (by rw [eu [] rfl];rfl)
 | face=>exact go _ (by push_cast only [ix2]) (by rw [eu [] rfl];rfl)
 | @above s hs=>
  have hal:[D.tup [.str s,.str "class"]].length + (fs.map fun s=>upD (s,cF)).length≤16777216:=by rw [List.length_map];show 1 + _≤_;omega
  exact go _ (by push_cast only [ix2,qEm hal]) (by rw [eu [(s,cC)] rfl];rfl)
theorem fA_str {d:D}{n:Str}(h:FileOk d n):ixW (.im d) (.im (.int 2))=.ok (.im (match fA d with | some a=>.str a | none=>.non)):=by
 obtain ⟨k,a,fs,rs,rfl,ha,hl,_,_,_⟩:=h.full
 cases ha <;> exact ix2
theorem qXn {d:D}{n:Str}(h:FileOk d n):ixW (.im d) (.im (.int 0))=.ok (.im (.str (fK d))):=by
 obtain ⟨k,a,fs,rs,rfl,ha,hl,_,_,_⟩:=h.full
 exact ix0
def opD:Option Pa→D
 | some x=>unP x
 | none=>.non
theorem qMu {ls:List Ld}(h:WorldOk ls){x:Pa}(c:Cls ls x)(nm:Str):qEr [.im #[2],.im (.int x.1),.im (.str nm)]=.ok (.im (opD (Option.map (fun (j:Nat)=>((j:Int),nm)) (qCq ls x.1.toNat nm)))):=by
 have:=qO9 h c.lt nm
 rw [←c.nat] at this
 rw [this]
 cases qCq ls x.1.toNat nm <;> rfl
theorem qWx {ls:List Ld}(h:WorldOk ls){x:Pa}(c:Cls ls x):WordS x.2:=by
 obtain ⟨l,p,hl,hf,hp,hok⟩:=c.file h
 exact hok.wd
theorem qD5 {ls:List Ld}(h:WorldOk ls){x:Pa}(c:Cls ls x):qBn [.im #[2],.im (unP x)]=.ok (.im (unP x)):=by
 have it:=qB0 (ds:=[.int x.1,.str x.2]) (lo:=2) (hi:=2) (by show (2:Int)≤((2:Nat):Int);omega) (by show ((2:Nat):Int)≤2;omega)
 have ln:qIs [.im #[2]]=.ok (.im (.int ls.length)):=by
  show Rs.ok (W.im (D.int ((ls.map ldD).length)))=_
  rw [List.length_map]
 have h0:=c.nat
 have h1:=c.lt
 have nu:=qDd (i:=x.1) (lo:=0) (hi:=(ls.length:Int) - 1) #[0] #[0]
 have fo:=qH1 h (x:=x) ⟨x.1.toNat,c.lt,c.nat⟩
 have ef:isF ls x=true:=by unfold isF;exact decide_eq_true c.own
 rw [ef] at fo
 have fo':qD1 [.im (.tup (ls.map ldD)),.im (unP x)]=.ok Tr:=fo
 have it':qBs [.im (unP x),.im (.int 2),.im (.int 2)]=.ok Tr:=it
 have ic:qD3 [.im #[2],.im (unP x)]=.ok Tr:=by
  refine qAx ?_
  refine qAp (b:=false) (δ:=[.im (.tup (ls.map ldD)),.im (unP x)]) ?_ #[14] (fun _=>qBe (qAw (w:=Tr) ?_ rfl))
  ·push_cast [it',qa4,List.length_map,nu,Bool.false_eq_true]
  ·push_cast [unP1,qC1 (qWx h c),fo']
 have ci:qE8 [.im #[2],.im (unP x)]=.ok (.im (unP x)):=by
  refine qAx ?_
  refine qAp (b:=false) (δ:=[.im #[2],.im (unP x)]) (by push_cast [ic]) #[14] (fun _=>qBe (qAw #[20] rfl))
 refine qAx (qAw (δ:=[.im #[2],.im (unP x)]) (w:=.im (unP x)) ?_ rfl)
 push_cast [qKa h,ci]
def St (ls:List Ld)(x z:Pa):Prop:=∃ p∈ups #[16],∃ j:Nat,qCq ls x.1.toNat p.1=some j∧z=((j:Int),p.1)
inductive Good (ls:List Ld):Pa→Prop
 | mk (x:Pa) (h1:∀ p∈ups (qA9 ls x),∃ j:Nat,qCq ls x.1.toNat p.1=some j∧fK (qA9 ls ((j:Int),p.1))=p.2) (h2:∀ z,St ls x z→Good ls z):Good ls x
inductive Ab (ls:List Ld):Pa→Pa→Prop
 | one {x z:Pa} (h:St ls x z):Ab ls x z
 | more {x y z:Pa} (h:St ls x y) (r:Ab ls y z):Ab ls x z
theorem Ab.snoc {ls:List Ld}{x y z:Pa}(h:Ab ls x y)(s:St ls y z):Ab ls x z:=by
 induction h with
 | one h=>exact .more h (.one s)
 | more h _ ih=>exact .more h (ih s)
theorem qG0 {ls:List Ld}{x:Pa}(g:Good ls x):¬ Ab ls x x:=by
 induction g with
 | mk x h1 h2 ih=>
  intro a
  cases a with
  | one s=>exact ih x s (.one s)
  | more s r=>exact ih _ s (r.snoc s)
theorem Good.up {ls:List Ld}{x z:Pa}(g:Good ls x)(s:St ls x z):Good ls z:=by cases g with | mk _ h1 h2=>exact h2 z s
theorem Good.ab {ls:List Ld}{x z:Pa}(a:Ab ls x z):Good ls x→Good ls z:=by
 induction a with
 | one s=>exact fun g=>g.up s
 | more s _ ih=>exact fun g=>ih (g.up s)
theorem st_cls {ls:List Ld}(h:WorldOk ls){x z:Pa}(c:Cls ls x)(s:St ls x z):Cls ls z:=by
 obtain ⟨p,hp,j,hj,rfl⟩:=s
 exact qPl h c.lt hj
theorem qMq {α:Type}[DecidableEq α]:∀ {l m:List α},l.Nodup→(∀ x∈l,x∈m)→l.length≤m.length
 | [],m,_,_=>Nat.zero_le _
 | x::l,m,hn,hs=>by
  have hx:=hs x (List.mem_cons_self ..)
  have hn':=List.nodup_cons.mp hn
  have:l.length≤(m.erase x).length:=qMq hn'.2 fun y hy=>by
   have hne:y≠x:=fun e=>hn'.1 (e ▸ hy)
   exact (List.mem_erase_of_ne hne).mpr (hs y (List.mem_cons_of_mem _ hy))
  rw [List.length_erase_of_mem hx] at this
  have:0 < m.length:=List.length_pos_of_mem hx
  simp only [List.length_cons];omega
theorem qXy {ls:List Ld}{x:Pa}(c:Cls ls x):x∈prs ls ls.length:=by
 have:=qds c.lt c.has
 rw [←c.nat] at this;exact this
theorem few {ls:List Ld}(h:WorldOk ls){bl:List Pa}(hn:bl.Nodup)(hc:∀ b∈bl,Cls ls b):bl.length≤16:=by
 have:=qMq hn fun x hx=>qXy (hc x hx)
 have:=qJk h ls.length
 have:=h.le
 omega
def kC (x:Pa):List Key:=[.inl x.1,.inr x.2]
theorem qQu (x:Pa):qdh (unP x)=some (kC x):=rfl
theorem qbj {x y:Pa}(e:kC x=kC y):x=y:=by
 unfold kC at e
 simp only [List.cons.injEq,Sum.inl.injEq,Sum.inr.injEq,and_true] at e
 exact Prod.ext e.1 e.2
structure Snd (ls:List Ld) (ks:KsT):Prop where
 ok:∀ kv∈ks,∃ x,kv.1=kC x∧Cls ls x∧Good ls x
 nd:(ks.map (·.1)).Nodup
theorem Snd.good {ls:List Ld}{ks:KsT}(s:Snd ls ks){x:Pa}(h:(qF8 ks (kC x)).isSome=true):Good ls x:=by
 unfold qF8 at h
 rw [Option.isSome_map] at h
 obtain ⟨kv,hkv⟩:=Option.isSome_iff_exists.mp h
 have e0:=List.find?_some hkv
 have e:kv.1=kC x:=of_decide_eq_true e0
 obtain ⟨y,h1,_,h2⟩:=s.ok kv (List.mem_of_find?_eq_some hkv)
 rw [qbj (e.symm.trans h1)];exact h2
theorem Snd.len {ls:List Ld}(h:WorldOk ls){ks:KsT}(s:Snd ls ks):ks.length≤16:=by
 have h1:(ks.map (·.1)).length≤((prs ls ls.length).map kC).length:=qMq s.nd fun k hk=>by
  obtain ⟨kv,hkv,rfl⟩:=List.mem_map.mp hk
  obtain ⟨x,e,c,_⟩:=s.ok kv hkv
  rw [e];exact List.mem_map.mpr ⟨x,qXy c,rfl⟩
 rw [List.length_map,List.length_map] at h1
 have:=qJk h ls.length
 have:=h.le
 omega
theorem Snd.put {ls:List Ld}{ks:KsT}(s:Snd ls ks){x:Pa}(c:Cls ls x)(g:Good ls x)(d:D):Snd ls (qHi ks (kC x) d):=by
 unfold qHi
 split
 ·refine ⟨fun kv hkv=>?_,?_⟩
  ·obtain ⟨q,hq,rfl⟩:=List.mem_map.mp hkv
   obtain ⟨y,e,r⟩:=s.ok q hq
   by_cases z:q.1=kC x
   ·rw [if_pos z];exact ⟨y,e,r⟩
   ·rw [if_neg z];exact ⟨y,e,r⟩
  ·have:(ks.map fun kv=>if kv.1=kC x then (kv.1,d) else kv).map (·.1)=ks.map (·.1):=by
    rw [List.map_map]
    refine List.map_congr_left fun q _=>?_
    show (if q.1=kC x then (q.1,d) else q).1=q.1
    split <;> rfl
   rw [this];exact s.nd
 ·rename_i ha
  refine ⟨fun kv hkv=>?_,?_⟩
  ·rcases List.mem_append.mp hkv with z | z
   ·exact s.ok kv z
   ·have:kv=(kC x,d):=by simpa using z
    subst this;exact ⟨x,rfl,c,g⟩
  ·rw [List.map_append]
   refine List.nodup_append.mpr ⟨s.nd,by simp,fun k hk k' hk' e=>?_⟩
   have:k'=kC x:=by simpa using hk'
   subst this;subst e
   obtain ⟨kv,hkv,e2⟩:=List.mem_map.mp hk
   exact ha (List.any_eq_true.mpr ⟨kv,hkv,decide_eq_true e2⟩)
theorem qE3 {N:List Str}{h:qAj→Rs Fl}{ws:List W}{ks ks':KsT}{d:D}{n:Nat}(r:Run h (qEk N ws ks) fun f=>∃ δ,f=.rl d δ∧δ[n]?=some (.dtt ks')):qbh N h n ws ks=.ok (d,ks'):=by
 obtain ⟨f,hf,δ,rfl,e⟩:=r
 show (h _>>=qd0 n)=_
 rw [hf]
 show qd0 n (.rl d δ)=_
 simp only [qd0,e]
theorem qRo {g:qAj→Rs D}{δ:qAj}{Q:Fl→Prop}{d:D}(e:g δ=.ok d)(q:Q (.rl d δ)):Run (qTj g) δ Q:=⟨_,by simp only [qTj,e,PD.ok_bind],q⟩
theorem qRn {g:qAj→Rs (D×KsT)}{δ:qAj}{Q:Fl→Prop}{j:Nat}{r:D×KsT}(e:g δ=.ok r)(q:Q (.rl r.1 (δ.set j (.dtt r.2)))):Run (retJ j g) δ Q:=⟨_,by simp only [retJ,e,PD.ok_bind],q⟩
theorem qFo {g:qAj→Rs D}{k:qAj→Rs Fl}{δ:qAj}{Q:Fl→Prop}{d:D}(e:g δ=.ok d)(q:Q (.rl d δ)):Run (qBd (qTj g) k) δ Q:=⟨_,by simp only [qBd,qTj,e,PD.ok_bind],q⟩
abbrev mF (M:List W→KsT→Rs (D×KsT)):List W→KsT→Rs (D×KsT):=qbh ["world","loader","name","kind","below","sound","thing"] (qCe M) 5
theorem qR7 {f:Bool}(S:List Pa)(x:Pa):inW (.im (unP x)) (.li f (S.map unP))=.ok (.im (.bl (decide (x∈S)))):=by
 have h:fineDs 50 (S.map unP)=true:=qIt 49 S
 have e:qM9 (unP x) (S.map unP)=decide (x∈S):=by
  unfold qM9
  rw [List.any_map]
  clear h
  induction S with
  | nil=>rfl
  | cons y S ih=>
   rw [List.any_cons,ih]
   show (eqD (unP y) (unP x) || _)=_
   rw [qXs]
   by_cases z:y=x
   ·subst z;simp
   ·simp [z,Ne.symm z]
 show (if qA3 50 (unP x)=true∧fineDs 50 (S.map unP)=true then Rs.ok (W.im (D.bl (qM9 (unP x) (S.map unP)))) else Rs.no)=_
 rw [if_pos ⟨rfl,h⟩,e]
section
variable {ls:List Ld}{M:List W→KsT→Rs (D×KsT)}{x:Pa}{nm kd:Str}{bl:List Pa}{ks:KsT}{f:Bool}
theorem qdw (h:WorldOk ls)(c:Cls ls x)(e:qCq ls x.1.toNat nm=none):mF M [.im #[2],.im (.int x.1),.im (.str nm),.im (.str kd),.li f (bl.map unP)] ks=.ok (.tup [.str "lacks",.str nm],ks):=by
 refine qE3 ?_
 have ef:=qMu h c nm
 rw [e] at ef
 refine qAv (δ:=[.im #[2],.im (.int x.1),.im (.str nm),.im (.str kd),.rd (bl.map unP),.dtt ks,.un]) (by push_cast only [ef]) ?_
 refine qAp (b:=true) #[20] (fun _=>qFo #[20] ⟨_,rfl,rfl⟩) #[14]
theorem qdx (h:WorldOk ls)(c:Cls ls x){j:Nat}(e:qCq ls x.1.toNat nm=some j)(ek:fK (qA9 ls ((j:Int),nm))≠kd):mF M [.im #[2],.im (.int x.1),.im (.str nm),.im (.str kd),.li f (bl.map unP)] ks=.ok (.tup [.str "kind",.str nm],ks):=by
 refine qE3 ?_
 have ef:=qMu h c nm
 rw [e] at ef
 have c2:=qPl h c.lt e
 obtain ⟨l,p,hl,hf,hp,hok⟩:=c2.file h
 have e0:=qXn hok
 rw [←hp] at e0
 refine qAv (δ:=[.im #[2],.im (.int x.1),.im (.str nm),.im (.str kd),.rd (bl.map unP),.dtt ks,.un]) (δ':=[.im #[2],.im (.int x.1),.im (.str nm),.im (.str kd),.rd (bl.map unP),.dtt ks,.im (unP ((j:Int),nm))]) (by push_cast only [ef]) ?_
 refine qAp (b:=false) #[20] #[14] (fun _=>qBe ?_)
 refine qAp (b:=true) (by push_cast only [qEe h c2,e0,decide_eq_false ek]) (fun _=>qFo #[20] ⟨_,rfl,rfl⟩) #[14]
theorem qdy (h:WorldOk ls)(c:Cls ls x){j:Nat}(e:qCq ls x.1.toNat nm=some j)(ek:fK (qA9 ls ((j:Int),nm))=kd):Run (qBd (ifF (qAg (qAn inW (var 6) (var 4)) W.bool) (qTj (qAg (qAq (cst (.str "ring")) (qAq (qBg (var 2)) qB4)) qBy)) qC8)
  (retJ 5 (ifJ (inJ 5 (qBg (var 6))) 5 (cst .non) (qKq M 3 5 (qAc #[1] (qAc (var 6) (qAc (var 4) qA2)))))))
  [.im #[2],.im (.int x.1),.im (.str nm),.im (.str kd),.rd (bl.map unP),.dtt ks,.im (unP ((j:Int),nm))] Q→Run (qCe M) (qEk ["world","loader","name","kind","below","sound","thing"] [.im #[2],.im (.int x.1),.im (.str nm),.im (.str kd),.li f (bl.map unP)] ks) Q:=by
 intro r
 have ef:=qMu h c nm
 rw [e] at ef
 have c2:=qPl h c.lt e
 obtain ⟨l,p,hl,hf,hp,hok⟩:=c2.file h
 have e0:=qXn hok
 rw [←hp,ek] at e0
 refine qAv (δ:=[.im #[2],.im (.int x.1),.im (.str nm),.im (.str kd),.rd (bl.map unP),.dtt ks,.un]) (δ':=[.im #[2],.im (.int x.1),.im (.str nm),.im (.str kd),.rd (bl.map unP),.dtt ks,.im (unP ((j:Int),nm))]) (by push_cast only [ef]) ?_
 refine qAp (b:=false) #[20] #[14] (fun _=>qBe ?_)
 refine qAp (b:=false) (by push_cast only [qEe h c2,e0,decide_true]) #[14] (fun _=>qBe r)
theorem qdu (h:WorldOk ls)(c:Cls ls x){j:Nat}(e:qCq ls x.1.toNat nm=some j)(ek:fK (qA9 ls ((j:Int),nm))=kd)(hm:((j:Int),nm)∈bl):mF M [.im #[2],.im (.int x.1),.im (.str nm),.im (.str kd),.li f (bl.map unP)] ks=.ok (.tup [.str "ring",.str nm],ks):=by
 refine qE3 (qdy h c e ek ?_)
 refine qAp (b:=true) (by push_cast only [qR7,decide_eq_true hm]) (fun _=>qFo #[20] ⟨_,rfl,rfl⟩) #[14]
theorem qaf (h:WorldOk ls)(c:Cls ls x){j:Nat}(e:qCq ls x.1.toNat nm=some j)(ek:fK (qA9 ls ((j:Int),nm))=kd)(hm:((j:Int),nm)∉bl)(hs:(qF8 ks (kC ((j:Int),nm))).isSome=true):mF M [.im #[2],.im (.int x.1),.im (.str nm),.im (.str kd),.li f (bl.map unP)] ks=.ok (.non,ks):=by
 refine qE3 (qdy h c e ek ?_)
 refine qAp (b:=false) (by push_cast only [qR7,decide_eq_false hm]) #[14] (fun _=>qBe ?_)
 refine qRn (r:=(.non,ks)) ?_ ⟨_,rfl,rfl⟩
 simp only [ifJ,List.getElem?_cons_succ,List.getElem?_cons_zero,inJ,qBg,var,PD.ok_bind,W.toD,qQu,hs,qCu,cst]
theorem fn_go (h:WorldOk ls)(c:Cls ls x){j:Nat}(e:qCq ls x.1.toNat nm=some j)(ek:fK (qA9 ls ((j:Int),nm))=kd)(hm:((j:Int),nm)∉bl)(hs:(qF8 ks (kC ((j:Int),nm))).isSome=false){r:D×KsT}
  (hM:M [.im #[2],.im (unP ((j:Int),nm)),.li false (bl.map unP)] ks=.ok r):mF M [.im #[2],.im (.int x.1),.im (.str nm),.im (.str kd),.li f (bl.map unP)] ks=.ok r:=by
 refine qE3 (qdy h c e ek ?_)
 refine qAp (b:=false) (by push_cast only [qR7,decide_eq_false hm]) #[14] (fun _=>qBe ?_)
 refine qRn (r:=r) ?_ ⟨_,rfl,rfl⟩
 simp only [ifJ,List.getElem?_cons_succ,List.getElem?_cons_zero,inJ,qBg,var,PD.ok_bind,W.toD,qQu,hs,qDa,Bool.false_eq_true,qKq,qAc,qA2,List.length_cons,List.length_nil,qCu,hM]
end
theorem qSh {t:D→qAj→Rs qAj}{b:qAj→Rs Fl}{Qr:Fl→Prop}(hq:∀ f,Qr f→(∃ d δ,f=.rl d δ)∨∃ w,f=.rt w):∀ (ds:List D) (J:Nat→qAj→Prop) (δ:qAj),J 0 δ→
  (∀ (i:Nat) (d:D) (δ:qAj),ds[i]?=some d→J i δ→∃ δ1,t d δ=.ok δ1∧Run b δ1 fun f=>(∃ δ2,f=.nx δ2∧J (i + 1) δ2)∨Qr f)→∃ f,qFh t b ds δ=.ok f∧((∃ δ',f=.nx δ'∧J ds.length δ')∨Qr f)
 | [],J,δ,h0,_=>⟨_,rfl,.inl ⟨δ,rfl,h0⟩⟩
 | d::ds,J,δ,h0,hs=>by
  obtain ⟨δ1,e1,f,e2,r⟩:=hs 0 d δ rfl h0
  rcases r with ⟨δ2,rfl,j⟩ | r
  ·obtain ⟨f,e3,j'⟩:=qSh hq ds (fun i=>J (i + 1)) δ2 j fun i d' δ h hj=>hs (i + 1) d' δ h hj
   exact ⟨f,by simp only [qFh,e1,e2,e3],j'⟩
  ·rcases hq f r with ⟨d',δ',rfl⟩ | ⟨w,rfl⟩
   ·exact ⟨_,by simp only [qFh,e1,e2],.inr r⟩
   ·exact ⟨_,by simp only [qFh,e1,e2],.inr r⟩
theorem qK0 {gi:qAj→Rs (List D)}{t:D→qAj→Rs qAj}{b k:qAj→Rs Fl}{δ:qAj}{ds:List D}{Q:Fl→Prop}(Qr:Fl→Prop)(J:Nat→qAj→Prop)(hq:∀ f,Qr f→(∃ d δ,f=.rl d δ)∨∃ w,f=.rt w)(e:gi δ=.ok ds)(h0:J 0 δ)
  (hs:∀ (i:Nat) (d:D) (δ:qAj),ds[i]?=some d→J i δ→∃ δ1,t d δ=.ok δ1∧Run b δ1 fun f=>(∃ δ2,f=.nx δ2∧J (i + 1) δ2)∨Qr f) (h1:∀ f,Qr f→Q f) (h2:∀ δ',J ds.length δ'→Run k δ' Q):Run (qBd (qH5 gi t b) k) δ Q:=by
 obtain ⟨f,e1,r⟩:=qSh hq ds J δ h0 hs
 have ef:qH5 gi t b δ=.ok f:=by simp only [qH5,e,PD.ok_bind,e1]
 rcases r with ⟨δ',rfl,j⟩ | r
 ·exact qAv ef (h2 δ' j)
 ·rcases hq f r with ⟨d',δ',rfl⟩ | ⟨w,rfl⟩
  ·exact ⟨_,by simp only [qBd,ef],h1 _ r⟩
  ·exact ⟨_,by simp only [qBd,ef],h1 _ r⟩
abbrev Two (d:D):Prop:=∃ a b:Str,d=.tup [.str a,.str b]
theorem qSm {ls:List Ld}(h:WorldOk ls):∀ (n:Nat) (x:Pa) (bl:List Pa) (ks:KsT) (f:Bool),Cls ls x→bl.Nodup→(∀ b∈bl,Cls ls b)→x∉bl→17≤n + bl.length→Snd ls ks→
  ∃ d ks',qBf n [.im #[2],.im (unP x),.li f (bl.map unP)] ks=.ok (d,ks')∧Snd ls ks'∧(d=.non→Good ls x)∧(d=.non∨Two d)∧((∀ b∈bl,Ab ls b x)→Good ls x→d=.non)
 | 0,x,bl,ks,f,c,hn,hc,hx,hl,hs=>by
  have:=few h hn hc
  omega
 | n + 1,x,bl,ks,f,c,hn,hc,hx,hl,hs=>by
  have hfew:=few h hn hc
  have ih:=qSm h n
  obtain ⟨l,p,hl',hf,hp,hok⟩:=c.file h
  rw [←hp] at hok
  suffices H:Run (qDe (mF (qBf n))) (qEk ["world","thing","below","sound","name","kind","why"] [.im #[2],.im (unP x),.li f (bl.map unP)] ks) fun fl=>∃ d ks' δ,fl=.rl d δ∧δ[3]?=some (.dtt ks')∧Snd ls ks'∧(d=.non→Good ls x)∧(d=.non∨Two d)∧((∀ b∈bl,Ab ls b x)→Good ls x→d=.non) by
   obtain ⟨fl,e,d,ks',δ,rfl,e3,r⟩:=H
   exact ⟨d,ks',qE3 ⟨_,e,δ,rfl,e3⟩,r⟩
  let E:KsT→Sl→Sl→Sl→qAj:=fun k s4 s5 s6=>[.im #[2],.im (unP x),.rd (bl.map unP),.dtt k,s4,s5,s6]
  let Qr:Fl→Prop:=fun fl=>∃ d ks' δ,fl=.rl d δ∧δ[3]?=some (.dtt ks')∧Snd ls ks'∧Two d∧¬ ((∀ b∈bl,Ab ls b x)∧Good ls x)
  let J:Nat→qAj→Prop:=fun i δ=>∃ k s4 s5 s6,δ=E k s4 s5 s6∧Snd ls k∧∀ q∈(ups #[16]).take i,∃ j:Nat,qCq ls x.1.toNat q.1=some j∧fK (qA9 ls ((j:Int),q.1))=q.2∧Good ls ((j:Int),q.1)
  refine qK0 (ds:=(ups #[16]).map upD) Qr J (fun fl ⟨d,k,δ,e,_⟩=>.inl ⟨d,δ,e⟩) ?_ ⟨ks,_,_,_,rfl,hs,fun q hq=>by cases hq⟩ ?_ ?_ ?_
  ·have e0:qAg (qAs qDb 1 (qAc (qAs qD4 2 #[29]) qA2)) W.walkN (E ks .un .un .un)=.ok ((ups #[16]).map upD):=by
    push_cast only [E,qEe h c,qJq hok]
   exact e0
  ·rintro i d _ hd ⟨k,s4,s5,s6,rfl,hk,hall⟩
   rw [List.getElem?_map] at hd
   obtain ⟨q,hq,rfl⟩:=Option.map_eq_some_iff.mp hd
   have hqm:q∈ups #[16]:=List.mem_of_getElem? hq
   refine ⟨E k (.im (.str q.1)) (.im (.str q.2)) s6,rfl,?_⟩
   have hal:(bl.map unP).length + [unP x].length≤16777216:=by rw [List.length_map];show _ + 1≤_;omega
   have eb:bl.map unP++[unP x]=(bl++[x]).map unP:=by rw [List.map_append];rfl
   have go:∀ (r:D×KsT),mF (qBf n) [.im #[2],.im (.int x.1),.im (.str q.1),.im (.str q.2),.li true ((bl++[x]).map unP)] k=.ok r→qcb 6 3 (qKq (mF (qBf n)) 5 3 #[62]) (E k (.im (.str q.1)) (.im (.str q.2)) s6)=.ok (.nx (E r.2 (.im (.str q.1)) (.im (.str q.2)) (.im r.1))):=by
    intro r hr
    rw [←eb] at hr
    simp only [qcb,qKq]
    push_cast only [E,qa4,qEm hal,hr]
   have bad:∀ (r:D×KsT),mF (qBf n) [.im #[2],.im (.int x.1),.im (.str q.1),.im (.str q.2),.li true ((bl++[x]).map unP)] k=.ok r→Snd ls r.2→Two r.1→¬ ((∀ b∈bl,Ab ls b x)∧Good ls x)→
     Run (qBd (qcb 6 3 (qKq (mF (qBf n)) 5 3 #[62]))
      (ifF (qAg (qAn qDj (var 6) #[21]) W.bool) (qTj (qBg (var 6))) qC8)) (E k (.im (.str q.1)) (.im (.str q.2)) s6) fun f=>(∃ δ2,f=.nx δ2∧J (i + 1) δ2)∨Qr f:=by
    intro r hr h1 h2 h3
    obtain ⟨a,b,e⟩:=h2
    refine qAv (go r hr) (qDz (b:=true) (by rw [e];push_cast only [E]) (fun _=>qRo (d:=r.1) #[34] (.inr ⟨r.1,r.2,_,rfl,rfl,h1,⟨a,b,e⟩,h3⟩)) #[14])
   have good:∀ (r:D×KsT),mF (qBf n) [.im #[2],.im (.int x.1),.im (.str q.1),.im (.str q.2),.li true ((bl++[x]).map unP)] k=.ok r→Snd ls r.2→r.1=.non→(∃ j:Nat,qCq ls x.1.toNat q.1=some j∧fK (qA9 ls ((j:Int),q.1))=q.2∧Good ls ((j:Int),q.1))→
     Run (qBd (qcb 6 3 (qKq (mF (qBf n)) 5 3 #[62]))
      (ifF (qAg (qAn qDj (var 6) #[21]) W.bool) (qTj (qBg (var 6))) qC8)) (E k (.im (.str q.1)) (.im (.str q.2)) s6) fun f=>(∃ δ2,f=.nx δ2∧J (i + 1) δ2)∨Qr f:=by
    intro r hr h1 h2 h3
    refine qAv (go r hr) (qDz (b:=false) (by rw [h2];push_cast only [E]) #[14] (fun _=>⟨_,rfl,.inl ⟨_,rfl,r.2,_,_,_,rfl,h1,fun q' hq'=>?_⟩⟩))
    rw [List.take_succ,hq] at hq'
    rcases List.mem_append.mp hq' with z | z
    ·exact hall q' z
    ·have:q'=q:=by simpa using z
     subst this;exact h3
   cases e:qCq ls x.1.toNat q.1 with
   | none=>
    refine bad _ (qdw h c e) hk ⟨_,_,rfl⟩ fun ⟨_,g⟩=>?_
    cases g with
    | mk _ g1 g2=>obtain ⟨j,hj,_⟩:=g1 q hqm;rw [e] at hj;cases hj
   | some j=>
    have sz:St ls x ((j:Int),q.1):=⟨q,hqm,j,e,rfl⟩
    have c2:=st_cls h c sz
    by_cases ek:fK (qA9 ls ((j:Int),q.1))=q.2
    ·by_cases hm:((j:Int),q.1)∈bl++[x]
     ·refine bad _ (qdu h c e ek hm) hk ⟨_,_,rfl⟩ fun ⟨ga,g⟩=>?_
      rcases List.mem_append.mp hm with z | z
      ·exact qG0 (g.up sz) ((ga _ z).snoc sz)
      ·have z:((j:Int),q.1)=x:=by simpa using z
       rw [z] at sz
       exact qG0 g (.one sz)
     ·cases hv:(qF8 k (kC ((j:Int),q.1))).isSome with
      | true=>exact good _ (qaf h c e ek hm hv) hk rfl ⟨j,e,ek,hk.good hv⟩
      | false=>
       have hn2:(bl++[x]).Nodup:=List.nodup_append.mpr ⟨hn,by simp,fun a ha b hb e9=>by
        have:b=x:=by simpa using hb
        exact hx (this ▸ e9 ▸ ha)⟩
       obtain ⟨d,ks',e1,e2,e3,e4,e5⟩:=ih ((j:Int),q.1) (bl++[x]) k false c2 hn2 (fun b hb=>by
        rcases List.mem_append.mp hb with z | z
        ·exact hc b z
        ·have:b=x:=by simpa using z
         subst this;exact c) hm (by rw [List.length_append];show 17≤n + (bl.length + 1);omega) hk
       have em:=fn_go (f:=true) h c e ek hm hv e1
       rcases e4 with z | z
       ·exact good _ em e2 z ⟨j,e,ek,e3 z⟩
       ·refine bad _ em e2 z fun ⟨ga,g⟩=>?_
        have:=e5 (fun b hb=>by
         rcases List.mem_append.mp hb with y | y
         ·exact (ga b y).snoc sz
         ·have:b=x:=by simpa using y
          subst this;exact .one sz) (g.up sz)
        obtain ⟨a,b,w⟩:=z
        have w:d=_:=w
        rw [this] at w;cases w
    ·refine bad _ (qdx h c e ek) hk ⟨_,_,rfl⟩ fun ⟨_,g⟩=>?_
     cases g with
     | mk _ g1 g2=>
      obtain ⟨j',hj,hk'⟩:=g1 q hqm
      rw [e] at hj;cases hj;exact ek hk'
  ·rintro fl ⟨d,k,δ,e1,e2,e3,e4,e5⟩
   refine ⟨d,k,δ,e1,e2,e3,fun z=>?_,.inr e4,fun ga g=>(e5 ⟨ga,g⟩).elim⟩
   obtain ⟨a,b,w⟩:=e4
   rw [z] at w;cases w
  ·rintro _ ⟨k,s4,s5,s6,rfl,hk,hall⟩
   rw [List.length_map,List.take_length] at hall
   have g:Good ls x:=.mk x (fun q hq=>let ⟨j,a,b,_⟩:=hall q hq;⟨j,a,b⟩) fun z ⟨q,hq,j,e,ez⟩=>by
    obtain ⟨j',a,b,g⟩:=hall q hq
    rw [e] at a;cases a;rw [ez];exact g
   have hkl:=hk.len h
   refine qAv (δ':=E (qHi k (kC x) (.bl true)) s4 s5 s6) ?_ (qRo (d:=.non) #[20] ⟨.non,_,_,rfl,rfl,hk.put c g _,fun _=>g,.inl rfl,fun _ _=>rfl⟩)
   simp only [qYc,E,List.getElem?_cons_succ,List.getElem?_cons_zero,cst,qBg,var,PD.ok_bind,W.toD,qQu]
   rw [if_pos (show k.length < lim from (show k.length < 16777216 by omega))];rfl
def kv (z:Pa):List Key×D:=(kC z,.bl true)
theorem qX5 (S:List Pa)(z:Pa):((S.map kv).any fun q=>decide (q.1=kC z))=decide (z∈S):=by
 induction S with
 | nil=>rfl
 | cons s S ih=>
  rw [List.map_cons,List.any_cons,ih]
  by_cases e:z=s
  ·subst e;simp [kv]
  ·have:kC s≠kC z:=fun q=>e (qbj q).symm
   simp [kv,this,e]
theorem val_kv (S:List Pa)(z:Pa):(qF8 (S.map kv) (kC z)).isSome=decide (z∈S):=by
 rw [←qX5]
 unfold qF8
 rw [Option.isSome_map]
 induction S.map kv with
 | nil=>rfl
 | cons q r ih=>
  rw [List.find?_cons,List.any_cons]
  cases decide (q.1=kC z) with
  | true=>rfl
  | false=>exact ih
theorem qbc {S:List Pa}{z:Pa}(h:z∉S):qHi (S.map kv) (kC z) (.bl true)=(S++[z]).map kv:=by
 unfold qHi
 rw [qX5,decide_eq_false h,if_neg Bool.false_ne_true,List.map_append]
 rfl
theorem qcs {S:List Pa}{z:Pa}(h:z∈S):qHi (S.map kv) (kC z) (.bl true)=S.map kv:=by
 unfold qHi
 rw [qX5,decide_eq_true h,if_pos rfl,List.map_map]
 apply List.map_congr_left
 intro s _
 show (if (kv s).1=kC z then ((kv s).1,D.bl true) else kv s)=kv s
 split <;> rfl
inductive Rch (nx:Pa→List Pa) (x:Pa):Pa→Prop
 | here:Rch nx x x
 | on {y z:Pa} (r:Rch nx x y) (h:z∈nx y):Rch nx x z
section
variable {f:Addr}{vw:V}{gl:qAj→Rs W}{dw:D}{x0:Pa}{nx:Pa→List Pa}{P:Pa→Prop}
abbrev FR (x0:Pa)(f:Addr)(vw:V)(dw:D)(S Wt:List Pa)(a b:Sl):qAj:=[.im (unP x0),.im (.clo f vw dw),.dtt (S.map kv),.own (Wt.map unP),a,b]
abbrev bI:qAj→Rs Fl:=ifF (qHk (inJ 2 (qBg (var 5)))) (qBd (qYc 2 (cst (.bl true)) (qBg (var 5))) (qKr 3 (qBg (var 5)))) qC8
theorem qdo (few:∀ l:List Pa,l.Nodup→(∀ z∈l,P z)→l.length≤16)(a:Sl):∀ (zs S Wt:List Pa) (b:Sl),S.Nodup→(∀ z∈S,P z)→(∀ z∈zs,P z)→Wt.length≤S.length→
  ∃ (N:List Pa) (b':Sl),qFh (qFb 5) bI (zs.map unP) (FR x0 f vw dw S Wt a b)=.ok (.nx (FR x0 f vw dw (S++N) (Wt++N) a b'))∧(S++N).Nodup∧(∀ z∈N,z∈zs)∧∀ z∈zs,z∈S++N
 | [],S,Wt,b,hn,_,_,_=>⟨[],b,by simp [qFh],by simpa using hn,by simp,by simp⟩
 | z::zs,S,Wt,b,hn,hS,hz,hW=>by
  have l1:=few S hn hS
  have e1:qFb 5 (unP z) (FR x0 f vw dw S Wt a b)=.ok (FR x0 f vw dw S Wt a (.im (unP z))):=rfl
  have e2:inJ 2 (qBg (var 5)) (FR x0 f vw dw S Wt a (.im (unP z)))=.ok (decide (z∈S)):=by
   show Rs.ok (qF8 (S.map kv) (kC z)).isSome=_
   rw [val_kv]
  by_cases h:z∈S
  ·obtain ⟨N,b',q1,q2,q3,q4⟩:=qdo few a zs S Wt (.im (unP z)) hn hS (fun y hy=>hz y (List.mem_cons_of_mem _ hy)) hW
   refine ⟨N,b',?_,q2,fun y hy=>List.mem_cons_of_mem _ (q3 y hy),fun y hy=>?_⟩
   ·have e3:bI (FR x0 f vw dw S Wt a (.im (unP z)))=.ok (.nx (FR x0 f vw dw S Wt a (.im (unP z)))):=by
     simp only [ifF,qHk,e2,decide_eq_true h,okb]
     exact rfl
    rw [List.map_cons]
    unfold qFh
    simp only [e1,e3]
    exact q1
   ·rcases List.mem_cons.mp hy with rfl | hy
    ·exact List.mem_append_left _ h
    ·exact q4 y hy
  ·have hn':(S++[z]).Nodup:=by
    rw [List.nodup_append]
    exact ⟨hn,by simp,fun y hy w hw e=>by rw [List.mem_singleton.mp hw] at e;subst e;exact h hy⟩
   obtain ⟨N,b',q1,q2,q3,q4⟩:=qdo few a zs (S++[z]) (Wt++[z]) (.im (unP z)) hn' (fun y hy=>by
    rcases List.mem_append.mp hy with hy | hy
    ·exact hS y hy
    ·rw [List.mem_singleton.mp hy];exact hz z (List.mem_cons_self ..)) (fun y hy=>hz y (List.mem_cons_of_mem _ hy)) (by simp only [List.length_append,List.length_singleton];omega)
   refine ⟨z::N,b',?_,by rw [List.append_cons];exact q2,fun y hy=>?_,fun y hy=>?_⟩
   ·have e3:qYc 2 (cst (.bl true)) (qBg (var 5)) (FR x0 f vw dw S Wt a (.im (unP z)))=.ok (.nx (FR x0 f vw dw (S++[z]) Wt a (.im (unP z)))):=by
     show (if (S.map kv).length < lim then Rs.ok (Fl.nx ((FR x0 f vw dw S Wt a (.im (unP z))).set 2 (.dtt (qHi (S.map kv) (kC z) (.bl true))))) else Rs.no)=_
     rw [if_pos (show (S.map kv).length < lim by show _ < 16777216;rw [List.length_map];omega),qbc h]
     rfl
    have e4:qKr 3 (qBg (var 5)) (FR x0 f vw dw (S++[z]) Wt a (.im (unP z)))=.ok (.nx (FR x0 f vw dw (S++[z]) (Wt++[z]) a (.im (unP z)))):=by
     have:=qG7 (i:=3) (gd:=qBg (var 5)) (δ:=FR x0 f vw dw (S++[z]) Wt a (.im (unP z))) (ds:=Wt.map unP) (d:=unP z) rfl rfl (by rw [List.length_map];omega)
     rw [this]
     simp only [FR,List.map_append,List.map_cons,List.map_nil]
     rfl
    have e5:bI (FR x0 f vw dw S Wt a (.im (unP z)))=.ok (.nx (FR x0 f vw dw (S++[z]) (Wt++[z]) a (.im (unP z)))):=by
     simp only [ifF,qHk,e2,decide_eq_false h,okb,qBd,e3,Bool.not_false,if_true]
     exact e4
    rw [List.map_cons]
    unfold qFh
    simp only [e1,e5]
    show qFh (qFb 5) bI (zs.map unP) (FR x0 f vw dw (S++[z]) (Wt++[z]) a (.im (unP z)))=_
    rw [q1,←List.append_cons,←List.append_cons]
   ·rcases List.mem_cons.mp hy with rfl | hy
    ·exact List.mem_cons_self ..
    ·exact List.mem_cons_of_mem _ (q3 y hy)
   ·rw [List.append_cons]
    rcases List.mem_cons.mp hy with rfl | hy
    ·exact List.mem_append_left _ (List.mem_append_right _ (List.mem_cons_self ..))
    ·exact q4 y hy
abbrev bW (f:Addr)(vw:V)(gl:qAj→Rs W):qAj→Rs Fl:=qBd (popF 4 3) (qH5 (qAg (qeb 1 f vw gl (var 4)) W.walkN) (qFb 5) bI)
theorem qJc (few:∀ l:List Pa,l.Nodup→(∀ z∈l,P z)→l.length≤16)(hgl:∀ y,P y→gl [.im (unP y),.im dw]=.ok (.li true ((nx y).map unP)))(hnx:∀ y,P y→∀ z∈nx y,P z) :
  ∀ (n:Nat) (S Wt:List Pa) (a b:Sl),S.Nodup→(∀ z∈S,P z)→(∀ z∈Wt,z∈S)→Wt.length≤S.length→(∀ z∈S,Rch nx x0 z)→(∀ y∈S,y∉Wt→∀ z∈nx y,z∈S)→(16 - S.length) + Wt.length < n→
  ∃ (S':List Pa) (a' b':Sl),qCj (qAg (var 3) W.tru) (bW f vw gl) n (FR x0 f vw dw S Wt a b)=.ok (.nx (FR x0 f vw dw S' [] a' b'))∧S'.Nodup∧(∀ z∈S',P z)∧(∀ z∈S,z∈S')∧(∀ z∈S',Rch nx x0 z)∧∀ y∈S',∀ z∈nx y,z∈S'
 | 0,_,_,_,_,_,_,_,_,_,_,h=>absurd h #[0]
 | n + 1,S,Wt,a,b,hn,hS,hW,hl,hr,hc,hm=>by
  rcases List.eq_nil_or_concat Wt with e | ⟨W1,y,e⟩
  ·subst e
   exact ⟨S,a,b,qL0 (by rfl),hn,hS,fun _ h=>h,hr,fun y hy=>hc y hy #[6]⟩
  ·rw [List.concat_eq_append] at e
   subst e
   have l1:=few S hn hS
   have yS:y∈S:=hW y #[6]
   have l2:(W1++[y]).length=W1.length + 1:=by simp
   obtain ⟨N,b',q1,q2,q3,q4⟩:=qdo (x0:=x0) (f:=f) (vw:=vw) (dw:=dw) few (.im (unP y)) (nx y) S W1 b hn hS (hnx y (hS y yS)) #[0]
   have P2:∀ z∈S++N,P z:=fun z hz=>by
    rcases List.mem_append.mp hz with h | h
    ·exact hS z h
    ·exact hnx y (hS y yS) z (q3 z h)
   obtain ⟨S',a',b'',w1,w2,w3,w4,w5,w6⟩:=qJc few hgl hnx n (S++N) (W1++N) (.im (unP y)) b' q2 P2 (fun z hz=>by
    rcases List.mem_append.mp hz with h | h
    ·exact List.mem_append_left _ (hW z (List.mem_append_left _ h))
    ·exact List.mem_append_right _ h) (by simp only [List.length_append];omega) (fun z hz=>by
    rcases List.mem_append.mp hz with h | h
    ·exact hr z h
    ·exact .on (hr y yS) (q3 z h)) (fun u hu hnu z hz=>by
    by_cases e:u=y
    ·subst e;exact q4 z hz
    ·have uS:u∈S:=by
      rcases List.mem_append.mp hu with h | h
      ·exact h
      ·exact absurd (List.mem_append_right _ h) hnu
     refine List.mem_append_left _ (hc u uS (fun h=>?_) z hz)
     rcases List.mem_append.mp h with h | h
     ·exact hnu (List.mem_append_left _ h)
     ·exact e (List.mem_singleton.mp h)) (by
    have l3:=few _ q2 P2
    simp only [List.length_append] at l3 ⊢
    omega)
   refine ⟨S',a',b'',?_,w2,w3,fun z hz=>w4 z (List.mem_append_left _ hz),w5,w6⟩
   have t1:qAg (var 3) W.tru (FR x0 f vw dw S (W1++[y]) a b)=.ok true:=by
    show Rs.ok (!((W1++[y]).map unP).isEmpty)=_
    rw [List.map_append]
    cases W1 <;> rfl
   refine qLz t1 (δ2:=FR x0 f vw dw (S++N) (W1++N) (.im (unP y)) b') ?_ w1
   have p1:popF 4 3 (FR x0 f vw dw S (W1++[y]) a b)=.ok (.nx (FR x0 f vw dw S W1 (.im (unP y)) b)):=by
    show (match ((W1++[y]).map unP).getLast? with
     | some d=>Rs.ok (Fl.nx (((FR x0 f vw dw S (W1++[y]) a b).set 3 (.own ((W1++[y]).map unP).dropLast)).set 4 (.im d)))
     | none=>Rs.no)=_
    rw [List.map_append,List.map_cons,List.map_nil,List.getLast?_concat,List.dropLast_concat]
    rfl
   have c1:qAg (qeb 1 f vw gl (var 4)) W.walkN (FR x0 f vw dw S W1 (.im (unP y)) b)=.ok ((nx y).map unP):=by
    have:qeb 1 f vw gl (var 4) (FR x0 f vw dw S W1 (.im (unP y)) b)=.ok (.li true ((nx y).map unP)):=by
     show (if f=f∧vw=vw then (Rs.ok (W.im (unP y))>>=fun w=>gl [w.slot,.im dw]) else Rs.no)=_
     rw [if_pos ⟨rfl,rfl⟩,PD.ok_bind]
     exact hgl y (hS y yS)
    simp only [qAg,this,okb]
    exact rfl
   show qBd (popF 4 3) (qH5 (qAg (qeb 1 f vw gl (var 4)) W.walkN) (qFb 5) bI) (FR x0 f vw dw S (W1++[y]) a b)=_
   simp only [qBd,p1,qH5,c1,okb]
   exact q1
end
theorem qQk {gl:qAj→Rs W}{dw:D}{x0:Pa}{nx:Pa→List Pa}{P:Pa→Prop}(few:∀ l:List Pa,l.Nodup→(∀ z∈l,P z)→l.length≤16)(hgl:∀ y,P y→gl [.im (unP y),.im dw]=.ok (.li true ((nx y).map unP)))(hnx:∀ y,P y→∀ z∈nx y,P z)(h0:P x0) :
  ∃ R:List Pa,R.Nodup∧(∀ z∈R,P z)∧(∀ z,z∈R ↔ Rch nx x0 z)∧qKp (fun f vw=>qD0 f vw gl [.im (unP x0),.im (.clo f vw dw)])=.ok (.li true ((qD8 R).map unP)):=by
 have one:∀ f vw,∃ R:List Pa,R.Nodup∧(∀ z∈R,P z)∧(∀ z,z∈R ↔ Rch nx x0 z)∧qD0 f vw gl [.im (unP x0),.im (.clo f vw dw)]=.ok (.li true ((qD8 R).map unP)):=by
  intro f vw
  obtain ⟨S',a',b',w1,w2,w3,w4,w5,w6⟩:=qJc (f:=f) (vw:=vw) (dw:=dw) (x0:=x0) (nx:=nx) (gl:=gl) few hgl hnx 1000 [x0] [x0] .un .un #[6] (fun z hz=>by rw [List.mem_singleton.mp hz];exact h0) (fun z hz=>hz) #[10] (fun z hz=>by rw [List.mem_singleton.mp hz];exact .here) (fun y hy hn=>absurd hy hn) #[6]
  refine ⟨S',w2,w3,fun z=>⟨w5 z,fun r=>?_⟩,?_⟩
  ·induction r with
   | here=>exact w4 _ #[6]
   | on _ h ih=>exact w6 _ ih _ h
  ·refine qAx ?_
   refine qAv (δ:=[.im (unP x0),.im (.clo f vw dw),.un,.un,.un,.un]) (δ':=[.im (unP x0),.im (.clo f vw dw),.dtt ([x0].map kv),.un,.un,.un]) rfl ?_
   refine qAv (δ':=FR x0 f vw dw [x0] [x0] .un .un) #[20] ?_
   refine qAv w1 ?_
   refine qAw (w:=.li true ((qD8 S').map unP)) ?_ rfl
   have e:qDr ((S'.map kv).map (·.1))=some S':=by
    rw [List.map_map]
    exact qHj S'
   have l:=few S' w2 w3
   show (match qDr ((S'.map kv).map (·.1)) with
    | some ps=>if ps.length < 64 then Rs.ok (W.li true ((qD8 ps).map unP)) else Rs.no
    | none=>Rs.no)=_
   rw [e]
   exact if_pos #[0]
 obtain ⟨R,r1,r2,r3,r4⟩:=one 0 .non
 refine ⟨R,r1,r2,r3,qax fun f vw=>?_⟩
 obtain ⟨R',s1,s2,s3,s4⟩:=one f vw
 rw [s4]
 have hp:R'.Perm R:=(List.perm_ext_iff_of_nodup s1 r1).mpr fun z=>(s3 z).trans (r3 z).symm
 rw [qIk ((qE2 R').trans hp) (qL7 R')]
theorem qGs {ls:List Ld}(h:WorldOk ls){x:Pa}(c:Cls ls x):qDi [.im #[2],.im (unP x)]=.ok (.im #[16]):=by
 obtain ⟨l,p,hl,hf,hp,_⟩:=c.file h
 have hs:=(h.ok _ l hl).sh
 have ho:=qWi hs x.2
 have hx:ixW (.li true ((l.2.filter fun p=>p.1 == x.2).map (·.2))) (.im (.int 0))=.ok (.im p.2):=by
  refine qHq rfl #[0] ?_
  show ((l.2.filter fun p=>p.1 == x.2).map (·.2))[0]?=some p.2
  rw [List.getElem?_map,←List.head?_eq_getElem?,List.head?_filter,hf]
  rfl
 exact qAx (qAw (δ:=[.im #[2],.im (unP x)]) (w:=.im #[16]) (by rw [hp];push_cast only [ix_wc c hl,qa4,unP1,ld1,ho,hx]) rfl)
theorem qTv {ls:List Ld}(h:WorldOk ls){x:Pa}(c:Cls ls x):qJt [.im #[2],.im (unP x)]=.ok (.li true ((ups #[16]).map upD)):=by
 obtain ⟨l,p,hl,hf,hp,hok⟩:=c.file h
 have hfile:=qGs h c
 rw [←hp] at hok
 obtain ⟨k,a,fs,rs,e0,ha,hlf,_,_,_⟩:=hok.full
 rw [e0] at hfile ⊢
 have e1:fF (.tup [.str k,.str x.2,a,.tup (fs.map D.str),.tup rs])=fs:=by
  simp only [fF,qF9,Option.getD_some]
 have hc:=fun δ=>qE0 (δ:=δ) (el:=qAg (qAq (qBg #[1]) (qAq (cst (.str "face")) qB4)) qBy) (ds:=fs.map D.str) (fun d=>.tup [d,.str "face"]) (by rw [List.length_map];omega) (by
  intro d hd
  obtain ⟨s,hs,rfl⟩:=List.mem_map.mp hd
  push_cast only [okb])
 have e2:(fs.map D.str).map (fun d=>D.tup [d,.str "face"])=fs.map fun s=>upD (s,cF):=by rw [List.map_map];rfl
 refine qAx ?_
 refine qAv (δ:=[.im #[2],.im (unP x),.un,.un]) (δ':=[.im #[2],.im (unP x),.im (.tup [.str k,.str x.2,a,.tup (fs.map D.str),.tup rs]),.un]) (by push_cast only [hfile]) ?_
 refine qAv (δ':=[.im #[2],.im (unP x),.im (.tup [.str k,.str x.2,a,.tup (fs.map D.str),.tup rs]),.own (fs.map fun s=>upD (s,cF))]) (by
  simp only [qCk,qC2]
  push_cast only [ix3,hc,e2]) ?_
 have s0:slW (.li true [D.tup [a,.str "class"]]) none (some 0)=.ok (.li true []):=rfl
 have s1:slW (.li true [D.tup [a,.str "class"]]) none (some 1)=.ok (.li true [D.tup [a,.str "class"]]):=rfl
 have hal0:([]:List D).length + (fs.map fun s=>upD (s,cF)).length≤16777216:=by rw [List.length_map];show 0 + _≤_;omega
 have hal:[D.tup [a,.str "class"]].length + (fs.map fun s=>upD (s,cF)).length≤16777216:=by rw [List.length_map];show 1 + _≤_;omega
 cases ha with
 | cls=>
  refine qAw (w:=.li true ([]++fs.map fun s=>upD (s,cF))) (by push_cast only [ix2,s0,qEm hal0]) ?_
  have eu:ups (.tup [.str cC,.str x.2,.non,.tup (fs.map D.str),.tup rs])=[]++fs.map (fun s=>(s,cF)):=by unfold ups;rw [e1];rfl
  rw [eu,List.map_append,List.map_map];rfl
 | face=>
  refine qAw (w:=.li true ([]++fs.map fun s=>upD (s,cF))) (by push_cast only [ix2,s0,qEm hal0]) ?_
  have eu:ups (.tup [.str cF,.str x.2,.non,.tup (fs.map D.str),.tup rs])=[]++fs.map (fun s=>(s,cF)):=by unfold ups;rw [e1];rfl
  rw [eu,List.map_append,List.map_map];rfl
 | @above s hs=>
  refine qAw (w:=.li true ([D.tup [.str s,.str "class"]]++fs.map fun s=>upD (s,cF))) (by push_cast only [ix2,s1,qEm hal]) ?_
  have eu:ups (.tup [.str cC,.str x.2,.str s,.tup (fs.map D.str),.tup rs])=[(s,cC)]++fs.map (fun s=>(s,cF)):=by unfold ups;rw [e1];rfl
  rw [eu,List.map_append,List.map_map];rfl
theorem qWn {ls:List Ld}(h:WorldOk ls){x:Pa}(c:Cls ls x)(nm:Str):qDu [.im #[2],.im (.int x.1),.im (.str nm)]=.ok (.im (opD (Option.map (fun (j:Nat)=>((j:Int),nm)) (qCq ls x.1.toNat nm)))):=by
 have:=qOo h c.lt nm
 rw [←c.nat] at this
 rw [this]
 cases qCq ls x.1.toNat nm <;> rfl
theorem qXa {ls:List Ld}(h:WorldOk ls):∀ (n:Nat) (x:Pa) (bl:List Pa) (f:Bool),Cls ls x→bl.Nodup→(∀ b∈bl,Cls ls b)→x∉bl→17≤n + bl.length→
  ∃ d,qDt n [.im #[2],.im (unP x),.li f (bl.map unP)]=.ok (.im d)∧(d=.non→Good ls x)∧(d=.non∨Two d)∧((∀ b∈bl,Ab ls b x)→Good ls x→d=.non)
 | 0,x,bl,f,c,hn,hc,hx,hl=>by
  have:=few h hn hc
  omega
 | n + 1,x,bl,f,c,hn,hc,hx,hl=>by
  have hfew:=few h hn hc
  have ih:=qXa h n
  suffices H:Run (qGz (qDt n)) [.im #[2],.im (unP x),.rd (bl.map unP),.un,.un,.un,.un] fun fl=>∃ d,fl=.rt (.im d)∧(d=.non→Good ls x)∧(d=.non∨Two d)∧((∀ b∈bl,Ab ls b x)→Good ls x→d=.non) by
   obtain ⟨fl,e,d,rfl,r⟩:=H
   refine ⟨d,?_,r⟩
   show mir _ (qGz (qDt n)) _=_
   unfold mir
   rw [show frame ["_law_world_here","_law_thing","_law_path","_law_name","_law_kind","_law_other","_law_why"] [.im #[2],.im (unP x),.li f (bl.map unP)]=[.im #[2],.im (unP x),.rd (bl.map unP),.un,.un,.un,.un] from rfl,e]
   rfl
  let E:Sl→Sl→Sl→Sl→qAj:=fun a b c d=>[.im #[2],.im (unP x),.rd (bl.map unP),a,b,c,d]
  let Qr:Fl→Prop:=fun fl=>∃ d,fl=.rt (.im d)∧Two d∧¬ ((∀ b∈bl,Ab ls b x)∧Good ls x)
  let J:Nat→qAj→Prop:=fun i δ=>∃ a b c d,δ=E a b c d∧∀ q∈(ups #[16]).take i,∃ j:Nat,qCq ls x.1.toNat q.1=some j∧fK (qA9 ls ((j:Int),q.1))=q.2∧Good ls ((j:Int),q.1)
  refine qK0 (ds:=(ups #[16]).map upD) Qr J (fun fl ⟨d,e,_⟩=>.inr ⟨_,e⟩) (by push_cast only [qTv h c]) ⟨_,_,_,_,rfl,fun q hq=>by cases hq⟩ ?_ ?_ ?_
  ·rintro i d _ hd ⟨a,b,c',d',rfl,hall⟩
   rw [List.getElem?_map] at hd
   obtain ⟨q,hq,rfl⟩:=Option.map_eq_some_iff.mp hd
   have hqm:q∈ups #[16]:=List.mem_of_getElem? hq
   refine ⟨E (.im (.str q.1)) (.im (.str q.2)) c' d',rfl,?_⟩
   have hal:(bl.map unP).length + [unP x].length≤16777216:=by rw [List.length_map];show _ + 1≤_;omega
   have eb:bl.map unP++[unP x]=(bl++[x]).map unP:=by rw [List.map_append];rfl
   have fl:=qWn h c q.1
   cases e:qCq ls x.1.toNat q.1 with
   | none=>
    rw [e] at fl
    refine qAv (δ':=E (.im (.str q.1)) (.im (.str q.2)) (.im .non) d') (by push_cast only [E,qa4,fl,opD,Option.map_none]) ?_
    refine qAp (b:=true) #[34] (fun _=>qBl (w:=.im (.tup [.str "lacks",.str q.1])) #[34] (.inr ⟨_,rfl,⟨_,_,rfl⟩,fun ⟨_,g⟩=>?_⟩)) #[14]
    cases g with
    | mk _ g1 g2=>
     obtain ⟨j',hj,_⟩:=g1 q hqm
     rw [e] at hj;cases hj
   | some j=>
    rw [e] at fl
    have cz:Cls ls ((j:Int),q.1):=qPl h c.lt e
    have sz:St ls x ((j:Int),q.1):=⟨q,hqm,j,e,rfl⟩
    refine qAv (δ':=E (.im (.str q.1)) (.im (.str q.2)) (.im (unP ((j:Int),q.1))) d') (by push_cast only [E,qa4,fl,opD,Option.map_some]) ?_
    refine qAp (b:=false) (by push_cast only [E,unP]) #[14] (fun _=>qBe ?_)
    obtain ⟨l2,p2,_,_,hp2,hok2⟩:=cz.file h
    rw [←hp2] at hok2
    have fk:=qXn hok2
    by_cases ek:fK (qA9 ls ((j:Int),q.1))=q.2
    ·refine qAp (b:=false) (by push_cast only [E,qGs h cz,fk,ek,decide_true]) #[14] (fun _=>qBe ?_)
     have hin:=qR7 (f:=true) (bl++[x]) ((j:Int),q.1)
     rw [←eb] at hin
     by_cases hm:((j:Int),q.1)∈bl++[x]
     ·refine qAp (b:=true) (by push_cast only [E,qEm hal,hin,decide_eq_true hm]) (fun _=>qBl (w:=.im (.tup [.str "ring",.str q.1])) #[34] (.inr ⟨_,rfl,⟨_,_,rfl⟩,fun ⟨ga,g⟩=>?_⟩)) #[14]
      rcases List.mem_append.mp hm with z | z
      ·exact qG0 (g.up sz) ((ga _ z).snoc sz)
      ·have:((j:Int),q.1)=x:=by simpa using z
       rw [this] at sz
       exact qG0 g (.one sz)
     ·refine qAp (b:=false) (by push_cast only [E,qEm hal,hin,decide_eq_false hm]) #[14] (fun _=>qBe ?_)
      have hx2:x∉bl:=hx
      have nd2:(bl++[x]).Nodup:=by
       rw [List.nodup_append]
       exact ⟨hn,by simp,fun y hy w hw e=>by rw [List.mem_singleton.mp hw] at e;subst e;exact hx hy⟩
      obtain ⟨d2,e1,e3,e4,e5⟩:=ih ((j:Int),q.1) (bl++[x]) true cz nd2 (fun b hb=>by
       rcases List.mem_append.mp hb with z | z
       ·exact hc b z
       ·have:b=x:=by simpa using z
        subst this;exact c) hm (by rw [List.length_append];show 17≤n + (bl.length + 1);omega)
      rw [←eb] at e1
      refine qAv (δ':=E (.im (.str q.1)) (.im (.str q.2)) (.im (unP ((j:Int),q.1))) (.im d2)) (by push_cast only [E,qEm hal,e1]) ?_
      rcases e4 with z | ⟨z1,z2,z⟩
      ·subst z
       refine qDz (b:=false) #[34] #[14] (fun _=>⟨_,rfl,.inl ⟨_,rfl,_,_,_,_,rfl,fun q' hq'=>?_⟩⟩)
       rw [List.take_succ,hq] at hq'
       rcases List.mem_append.mp hq' with w | w
       ·exact hall q' w
       ·have:q'=q:=by simpa using w
        subst this
        exact ⟨j,e,ek,e3 rfl⟩
      ·subst z
       refine qDz (b:=true) #[34] (fun _=>qAw (w:=.im (.tup [.str z1,.str z2])) #[34] (.inr ⟨_,rfl,⟨_,_,rfl⟩,fun ⟨ga,g⟩=>?_⟩)) #[14]
       have:=e5 (fun b hb=>by
        rcases List.mem_append.mp hb with y | y
        ·exact (ga b y).snoc sz
        ·have:b=x:=by simpa using y
         subst this;exact .one sz) (g.up sz)
       cases this
    ·refine qAp (b:=true) (by push_cast only [E,qGs h cz,fk,decide_eq_false ek]) (fun _=>qBl (w:=.im (.tup [.str "kind",.str q.1])) #[34] (.inr ⟨_,rfl,⟨_,_,rfl⟩,fun ⟨_,g⟩=>?_⟩)) #[14]
     cases g with
     | mk _ g1 g2=>
      obtain ⟨j',hj,hk'⟩:=g1 q hqm
      rw [e] at hj;cases hj;exact ek hk'
  ·rintro fl ⟨d,e1,e4,e5⟩
   refine ⟨d,e1,fun z=>?_,.inr e4,fun ga g=>(e5 ⟨ga,g⟩).elim⟩
   obtain ⟨a,b,w⟩:=e4
   rw [z] at w;cases w
  ·rintro _ ⟨a,b,c',d',rfl,hall⟩
   rw [List.length_map,List.take_length] at hall
   have g:Good ls x:=.mk x (fun q hq=>let ⟨j,a,b,_⟩:=hall q hq;⟨j,a,b⟩) fun z ⟨q,hq,j,e,ez⟩=>by
    obtain ⟨j',a,b,g⟩:=hall q hq
    rw [e] at a;cases a;rw [ez];exact g
   exact qAw (w:=.im .non) #[34] ⟨.non,rfl,fun _=>g,.inl rfl,fun _ _=>rfl⟩
theorem qag {ls:List Ld}(h:WorldOk ls){x:Pa}(c:Cls ls x):∃ d,qDt 20 [.im #[2],.im (unP x),.li true []]=.ok (.im d)∧(d=.non ↔ Good ls x)∧(d=.non∨Two d):=by
 obtain ⟨d,e1,e2,e3,e4⟩:=qXa h 20 x [] true c List.nodup_nil (fun b hb=>nomatch hb) (fun hb=>nomatch hb) #[4]
 exact ⟨d,e1,⟨e2,fun g=>e4 (fun b hb=>nomatch hb) g⟩,e3⟩
theorem qNn {h k:qAj→Rs Fl}{δ δ':qAj}(e:h δ=.ok (.nx δ')):qBd h k δ=k δ':=by simp only [qBd,e]
theorem qIm {N:List Str}{h:qAj→Rs Fl}{ws:List W}{x:XD}(r:h (frame N ws)=.ex x):mir N h ws=.ex x:=by
 show (h _>>=fin)=_;rw [r];rfl
theorem seq_ex {h k:qAj→Rs Fl}{δ:qAj}{x:XD}(e:h δ=.ex x):qBd h k δ=.ex x:=by
 simp only [qBd,e]
def qBh:D→Option Str
 | .tup [.str k,.str n]=>if k=Str.ofString "need" then some n else none
 | .tup [.str k,_,.str n,_]=>if k=Str.ofString "read" then some n else none
 | _=>none
def nmD:Option Str→D
 | some n=>.str n
 | none=>.non
theorem qa9 {f:Str}{n:Int}:qBh (.tup [.str "put",.str f,.int n])=none:=rfl
theorem qVa {f n o:Str}:qBh (.tup [.str "read",.str f,.str n,.str o])=some n:=by unfold qBh;exact if_pos rfl
theorem qQj {n:Str}:qBh (.tup [.str "need",.str n])=some n:=by unfold qBh;exact if_pos rfl
theorem qVb {n:Str}:qBh (.tup [.str "note",.str n])=none:=by unfold qBh;exact if_neg #[19]
theorem qVc {n:Str}:qBh (.tup [.str "fail",.str n])=none:=by unfold qBh;exact if_neg #[19]
theorem k1:decide (Str.ofString "put"=Str.ofString "need")=false:=by decide +kernel
theorem k2:decide (Str.ofString "put"=Str.ofString "read")=false:=by decide +kernel
theorem k3:decide (Str.ofString "read"=Str.ofString "need")=false:=by decide +kernel
theorem k4:decide (Str.ofString "read"=Str.ofString "read")=true:=by decide +kernel
theorem k5:decide (Str.ofString "need"=Str.ofString "need")=true:=by decide +kernel
theorem k6:decide (Str.ofString "note"=Str.ofString "need")=false:=by decide +kernel
theorem k7:decide (Str.ofString "note"=Str.ofString "read")=false:=by decide +kernel
theorem k8:decide (Str.ofString "fail"=Str.ofString "need")=false:=by decide +kernel
theorem k9:decide (Str.ofString "fail"=Str.ofString "read")=false:=by decide +kernel
theorem k10:decide (Str.ofString "need"=Str.ofString "read")=false:=by decide +kernel
theorem qJr {r:D}(h:RowF r):qCt [.im r]=.ok (.im (nmD (qBh r))):=by
 refine qAx ?_
 cases h with
 | put _ _ _=>
  rw [qa9]
  exact qAp (b:=false) (by push_cast only [ix0,k1]) #[14] (fun _=>qBe (qAw (w:=.im .non) (by push_cast only [ix0,k2,Bool.false_eq_true]) rfl))
 | read _ _ _=>
  rw [qVa]
  exact qAp (b:=false) (by push_cast only [ix0,k3]) #[14] (fun _=>qBe (qAw (by push_cast only [ix0,ix2,k4]) rfl))
 | need _=>
  rw [qQj]
  exact qAp (b:=true) (by push_cast only [ix0,k5]) (fun _=>qBl (by push_cast only [ix1]) rfl) #[14]
 | note _=>
  rw [qVb]
  exact qAp (b:=false) (by push_cast only [ix0,k6]) #[14] (fun _=>qBe (qAw (w:=.im .non) (by push_cast only [ix0,k7,Bool.false_eq_true]) rfl))
 | fail _=>
  rw [qVc]
  exact qAp (b:=false) (by push_cast only [ix0,k8]) #[14] (fun _=>qBe (qAw (w:=.im .non) (by push_cast only [ix0,k9,Bool.false_eq_true]) rfl))
def fR:D→List D
 | .tup [_,_,_,_,.tup rs]=>rs
 | _=>[]
def qDl (d:D):List D:=(match fA d with | some a=>[D.tup [.str "need",.str a]] | none=>[])++fR d
theorem qPd {d:D}{n:Str}(h:FileOk d n):(fR d).length≤5∧(∀ r∈fR d,RowF r)∧∀ a,fA d=some a→WordS a:=by
 obtain ⟨k,a,fs,rs,rfl,ha,_,_,hl,hr⟩:=h.full
 refine ⟨hl,fun r hm=>(hr r hm).fm,fun s e=>?_⟩
 cases ha with
 | cls=>cases e
 | face=>cases e
 | above hs=>cases e;exact hs
theorem qYn {d:D}{n:Str}(h:FileOk d n):(qDl d).length≤6∧∀ r∈qDl d,RowF r:=by
 obtain ⟨h1,h2,h3⟩:=qPd h
 unfold qDl
 cases e:fA d with
 | none=>exact ⟨by rw [List.nil_append];omega,fun r hr=>h2 r hr⟩
 | some a=>
  refine ⟨by rw [List.length_append];show 1 + _≤_;omega,fun r hr=>?_⟩
  rcases List.mem_append.mp hr with z | z
  ·have:r=D.tup [.str "need",.str a]:=by simpa using z
   subst this;exact .need (h3 a e)
  ·exact h2 r z
theorem qNi {ls:List Ld}(h:WorldOk ls){x:Pa}(c:Cls ls x):qE7 [.im #[2],.im (unP x)]=.ok (.li true (qDl #[16])):=by
 obtain ⟨l,p,hl,hf,hp,hok⟩:=c.file h
 have hfile:=qEe h c
 rw [←hp] at hok
 obtain ⟨k,a,fs,rs,e0,ha,hlf,_,hlr,_⟩:=hok.full
 rw [e0] at hfile ⊢
 refine qAx ?_
 refine qAv (δ:=[.im #[2],.im (unP x),.un,.un]) (δ':=[.im #[2],.im (unP x),.im (.tup [.str k,.str x.2,a,.tup (fs.map D.str),.tup rs]),.un]) (by push_cast only [hfile]) ?_
 have el:lstA [.im (.tup rs)]=.ok (.li true rs):=rfl
 refine qAv (δ':=[.im #[2],.im (unP x),.im (.tup [.str k,.str x.2,a,.tup (fs.map D.str),.tup rs]),.own rs]) (by push_cast only [ix4,el]) ?_
 cases ha with
 | cls=>exact qAw (w:=.li true rs) (by push_cast only [ix2]) rfl
 | face=>exact qAw (w:=.li true rs) (by push_cast only [ix2]) rfl
 | @above s hs=>
  have hal:[D.tup [.str "need",.str s]].length + rs.length≤16777216:=by show 1 + _≤_;omega
  exact qAw (w:=.li true ([D.tup [.str "need",.str s]]++rs)) (by push_cast only [ix2,qEm hal]) rfl
def qYh (S:List Pa)(z:Pa):List Pa:=if z∈S then S else S++[z]
theorem qei {S:List Pa}{z:Pa}(h:S.Nodup):(qYh S z).Nodup:=by
 unfold qYh
 split
 ·exact h
 ·rename_i hm
  rw [List.nodup_append]
  exact ⟨h,by simp,fun y hy w hw e=>by rw [List.mem_singleton.mp hw] at e;subst e;exact hm hy⟩
theorem qZy {S:List Pa}{z y:Pa}:y∈qYh S z ↔ y∈S∨y=z:=by
 unfold qYh
 split
 ·rename_i hm
  exact ⟨.inl,fun h=>h.elim id fun e=>e ▸ hm⟩
 ·rw [List.mem_append,List.mem_singleton]
def toN (ls:List Ld)(x:Pa)(n:Str):Option Pa:=Option.map (fun (j:Nat)=>((j:Int),n)) (qCq ls x.1.toNat n)
def qL6 (ls:List Ld)(x:Pa)(S:List Pa)(n:Str):List Pa:=match toN ls x n with
 | some z=>qYh S z
 | none=>S
def qKi (ls:List Ld)(x:Pa)(S:List Pa)(r:D):List Pa:=match qBh r with
 | some n=>qL6 ls x S n
 | none=>S
def qee (ls:List Ld)(x:Pa):List Pa:=(qDl #[16]).foldl (qKi ls x) []
theorem qb3 {ls:List Ld}(h:WorldOk ls){x z:Pa}(c:Cls ls x){n:Str}(e:toN ls x n=some z):Cls ls z:=by
 obtain ⟨j,hj,rfl⟩:=Option.map_eq_some_iff.mp e
 exact qPl h c.lt hj
structure SOk (ls:List Ld) (S:List Pa):Prop where
 nd:S.Nodup
 ok:∀ z∈S,Cls ls z
theorem SOk.n {ls:List Ld}(h:WorldOk ls){x:Pa}(c:Cls ls x){S:List Pa}(s:SOk ls S)(n:Str):SOk ls (qL6 ls x S n):=by
 unfold qL6
 cases e:toN ls x n with
 | none=>exact s
 | some z=>exact ⟨qei s.nd,fun y hy=>(qZy.mp hy).elim (s.ok y) fun q=>q ▸ qb3 h c e⟩
theorem SOk.r {ls:List Ld}(h:WorldOk ls){x:Pa}(c:Cls ls x){S:List Pa}(s:SOk ls S)(r:D):SOk ls (qKi ls x S r):=by
 unfold qKi
 cases qBh r with
 | none=>exact s
 | some n=>exact s.n h c n
theorem SOk.fold {ls:List Ld}(h:WorldOk ls){x:Pa}(c:Cls ls x):∀ (rs:List D) {S:List Pa},SOk ls S→SOk ls (rs.foldl (qKi ls x) S)
 | [],_,s=>s
 | r::rs,_,s=>SOk.fold h c rs (s.r h c r)
theorem qed {ls:List Ld}(h:WorldOk ls){x:Pa}(c:Cls ls x):SOk ls (qee ls x):=SOk.fold h c _ ⟨List.nodup_nil,fun z hz=>nomatch hz⟩
theorem qY8 {ls:List Ld}(h:WorldOk ls){S:List Pa}(s:SOk ls S)(z:Pa){a b c d:Sl}{w0 w1:Sl}:qYc 2 (cst (.bl true)) (qBg (var 5)) [w0,w1,.dtt (S.map kv),a,b,.im (unP z)]=.ok (.nx [w0,w1,.dtt ((qYh S z).map kv),a,b,.im (unP z)]):=by
 have l1:=few h s.nd s.ok
 show (if (S.map kv).length < lim then Rs.ok (Fl.nx [w0,w1,.dtt (qHi (S.map kv) (kC z) (.bl true)),a,b,.im (unP z)]) else Rs.no)=_
 rw [if_pos (show (S.map kv).length < lim by show _ < 16777216;rw [List.length_map];omega)]
 unfold qYh
 split
 ·rename_i hm;rw [qcs hm]
 ·rename_i hm;rw [qbc hm]
theorem qdt {ls:List Ld}(h:WorldOk ls){x:Pa}(c:Cls ls x)(n:Str):qEr [.im #[2],.im (.int x.1),.im (.str n)]=.ok (.im (opD (toN ls x n))):=qMu h c n
abbrev bA:qAj→Rs Fl:=qBd (qCk 4 (qAs qCt 1 (qAc (var 3) qA2)))
  (qBd (qCk 5 (ifW (qAg (qAn isW (var 4) #[21]) W.bool) #[21] (qAs qEr 3 (qAc #[1] (qAc (qAn ixW (var 1) #[7]) (qAc (var 4) qA2))))))
  (ifF (qAg (qAn qDj (var 5) #[21]) W.bool) (qYc 2 (cst (.bl true)) (qBg (var 5))) qC8))
theorem qX4 {ls:List Ld}(h:WorldOk ls){x:Pa}(c:Cls ls x):∀ (rs:List D) (S:List Pa) (a b e:Sl),(∀ r∈rs,RowF r)→SOk ls S→
  ∃ a' b' e',qFh (qFb 3) bA rs [.im #[2],.im (unP x),.dtt (S.map kv),a,b,e]=.ok (.nx [.im #[2],.im (unP x),.dtt ((rs.foldl (qKi ls x) S).map kv),a',b',e'])
 | [],S,a,b,e,_,_=>⟨a,b,e,rfl⟩
 | r::rs,S,a,b,e,hr,s=>by
  have hn:=qJr (hr r (List.mem_cons_self ..))
  obtain ⟨a',b',e',q⟩:=qX4 h c rs (qKi ls x S r) (.im r) (.im (nmD (qBh r))) (.im (match qBh r with | some n=>opD (toN ls x n) | none=>.non)) (fun r' h'=>hr r' (List.mem_cons_of_mem _ h')) (s.r h c r)
  refine ⟨a',b',e',?_⟩
  have e0:qFb 3 r [.im #[2],.im (unP x),.dtt (S.map kv),a,b,e]=.ok [.im #[2],.im (unP x),.dtt (S.map kv),.im r,b,e]:=rfl
  have e1:qCk 4 (qAs qCt 1 (qAc (var 3) qA2)) [.im #[2],.im (unP x),.dtt (S.map kv),.im r,b,e]=.ok (.nx [.im #[2],.im (unP x),.dtt (S.map kv),.im r,.im (nmD (qBh r)),e]):=by push_cast only [hn]
  have e2:bA [.im #[2],.im (unP x),.dtt (S.map kv),.im r,b,e]=.ok (.nx [.im #[2],.im (unP x),.dtt ((qKi ls x S r).map kv),.im r,.im (nmD (qBh r)),.im (match qBh r with | some n=>opD (toN ls x n) | none=>.non)]):=by
   unfold bA
   rw [qNn e1]
   unfold qKi
   cases qBh r with
   | none=>
    rw [qNn (δ':=[.im #[2],.im (unP x),.dtt (S.map kv),.im r,.im .non,.im .non]) (by push_cast only [nmD])]
    simp only [ifF]
    push_cast only [nmD]
   | some n=>
    have hf:=qdt h c n
    rw [qNn (δ':=[.im #[2],.im (unP x),.dtt (S.map kv),.im r,.im (.str n),.im (opD (toN ls x n))]) (by push_cast only [nmD,qa4,hf])]
    unfold qL6
    simp only [ifF]
    cases toN ls x n with
    | none=>push_cast only [opD]
    | some z=>
     have hz:=qY8 h s z (a:=.im r) (b:=.im (.str n)) (c:=.un) (d:=.un) (w0:=.im #[2]) (w1:=.im (unP x))
     have hb:qAg (qAn qDj (var 5) #[21]) W.bool [.im #[2],.im (unP x),.dtt (S.map kv),.im r,.im (.str n),.im (unP z)]=.ok true:=by push_cast only [unP]
     show (qAg (qAn qDj (var 5) #[21]) W.bool [.im #[2],.im (unP x),.dtt (S.map kv),.im r,.im (.str n),.im (unP z)]>>=_)=_
     rw [hb,PD.ok_bind,if_pos rfl]
     exact hz
  unfold qFh
  simp only [e0,e2]
  exact q
theorem qXc {ls:List Ld}(h:WorldOk ls){x:Pa}(c:Cls ls x):∃ d,qQp [.im #[2],.im (unP x)]=.ok (.im d)∧(d=.non ↔ Good ls x)∧(d=.non∨Two d):=by
 obtain ⟨d,ks',e1,e2,e3,e4,e5⟩:=qSm h 20 x [] [] true c List.nodup_nil (fun b hb=>nomatch hb) (fun hb=>nomatch hb) #[4] ⟨fun kv hkv=>(nomatch hkv),List.nodup_nil⟩
 have e1':qBf 20 [.im #[2],.im (unP x),.li true []] []=.ok (d,ks'):=e1
 refine ⟨d,?_,⟨e3,fun g=>e5 (fun b hb=>nomatch hb) g⟩,e4⟩
 refine qAx (qAw (δ:=[.im #[2],.im (unP x)]) (w:=.im d) ?_ rfl)
 simp only [toW,qec]
 push_cast only [e1']
open Classical in
def arr (ls:List Ld)(x:Pa):List Pa:=if Good ls x then qee ls x else []
theorem qbx {ls:List Ld}(h:WorldOk ls){x:Pa}(c:Cls ls x):SOk ls (arr ls x):=by
 unfold arr
 split
 ·exact qed h c
 ·exact ⟨List.nodup_nil,fun z hz=>nomatch hz⟩
theorem qE1 {ls:List Ld}(h:WorldOk ls){x:Pa}(c:Cls ls x):qDc [.im #[2],.im (unP x)]=.ok (.li true ((arr ls x).map unP)):=by
 obtain ⟨d,e1,e2,e3⟩:=qXc h c
 obtain ⟨l,p,hl,hf,hp,hok⟩:=c.file h
 rw [←hp] at hok
 obtain ⟨s1,s2⟩:=qYn hok
 refine qAx ?_
 rcases e3 with rfl | ⟨a,b,rfl⟩
 ·refine qAp (b:=false) (δ:=[.im #[2],.im (unP x),.un,.un,.un,.un]) (by push_cast only [e1]) #[14] (fun _=>qBe ?_)
  refine qAv (δ':=[.im #[2],.im (unP x),.dtt (([]:List Pa).map kv),.un,.un,.un]) rfl ?_
  obtain ⟨a',b',e',q⟩:=qX4 h c (qDl #[16]) [] .un .un .un s2 ⟨List.nodup_nil,fun z hz=>nomatch hz⟩
  refine qAv (δ':=[.im #[2],.im (unP x),.dtt ((qee ls x).map kv),a',b',e']) ?_ ?_
  ·have eg:qAg (qAs qE7 2 #[29]) W.walkN [.im #[2],.im (unP x),.dtt (([]:List Pa).map kv),.un,.un,.un]=.ok (qDl #[16]):=by push_cast only [qNi h c]
   simp only [qH5,eg,okb]
   exact q
  ·refine qAw (w:=.li true ((arr ls x).map unP)) ?_ rfl
   unfold arr
   rw [if_pos (e2.mp rfl)]
   show (match qDr (((qee ls x).map kv).map (·.1)) with
    | some ps=>Rs.ok (W.li true (ps.map unP))
    | none=>Rs.no)=_
   rw [show qDr (((qee ls x).map kv).map (·.1))=some (qee ls x) by rw [List.map_map];exact qHj _]
 ·refine qAp (b:=true) (δ:=[.im #[2],.im (unP x),.un,.un,.un,.un]) (by push_cast only [e1]) (fun _=>qBl (w:=.li true []) #[20] ?_) #[14]
  unfold arr
  rw [if_neg fun g=>by have:=e2.mpr g;cases this];rfl
theorem qHs {ls:List Ld}{x:Pa}:∀ (rs:List D) (S:List Pa),rs.foldl (qKi ls x) S=(rs.filterMap qBh).foldl (qL6 ls x) S
 | [],S=>rfl
 | r::rs,S=>by
  rw [List.foldl_cons,List.filterMap_cons]
  unfold qKi
  cases qBh r with
  | none=>exact qHs rs S
  | some n=>rw [List.foldl_cons];exact qHs rs _
theorem fR_str {d:D}{n:Str}(h:FileOk d n):ixW (.im d) (.im (.int 4))=.ok (.im (.tup (fR d))):=by
 obtain ⟨k,a,fs,rs,rfl,ha,_,_,hl,hr⟩:=h.full
 exact ix4
theorem qW0 {k:Str}:inW (.im (.str k)) (.im (.tup [.str "need",.str "read"]))=.ok (.im (.bl (decide (Str.ofString "need"=k) || decide (Str.ofString "read"=k)))):=qWz
abbrev bR:qAj→Rs Fl:=ifF (qAg (qAn inW (qAn ixW (var 4) #[7]) (toW (qAg (qAq (cst (.str "need")) (qAq (cst (.str "read")) qB4)) qBy))) W.bool) (qKr 3 (qBg #[64])) qC8
theorem q1:(decide (Str.ofString "need"=Str.ofString "put") || decide (Str.ofString "read"=Str.ofString "put"))=false:=by decide +kernel
theorem q2:(decide (Str.ofString "need"=Str.ofString "read") || decide (Str.ofString "read"=Str.ofString "read"))=true:=by decide +kernel
theorem q3:(decide (Str.ofString "need"=Str.ofString "need") || decide (Str.ofString "read"=Str.ofString "need"))=true:=by decide +kernel
theorem q4:(decide (Str.ofString "need"=Str.ofString "note") || decide (Str.ofString "read"=Str.ofString "note"))=false:=by decide +kernel
theorem q5:(decide (Str.ofString "need"=Str.ofString "fail") || decide (Str.ofString "read"=Str.ofString "fail"))=false:=by decide +kernel
theorem qZ0 {r:D}(hr:RowF r){w0 w1 w2 a b c:Sl}{acc:List Str}(hl:acc.length≤100):bR [w0,w1,w2,.own (acc.map D.str),.im r,a,b,c]=.ok (.nx [w0,w1,w2,.own ((acc++(qBh r).toList).map D.str),.im r,a,b,c]):=by
 unfold bR
 simp only [ifF]
 have l2:(acc.map D.str).length < 1000:=by rw [List.length_map];omega
 have ap:∀ (r:D) (n:Str),qBg #[64] [w0,w1,w2,.own (acc.map D.str),.im r,a,b,c]=.ok (.str n)→
   qKr 3 (qBg #[64]) [w0,w1,w2,.own (acc.map D.str),.im r,a,b,c]=.ok (.nx [w0,w1,w2,.own ((acc++[n]).map D.str),.im r,a,b,c]):=fun r n e=>by
  rw [qG7 (i:=3) (ds:=acc.map D.str) (d:=.str n) rfl e #[0],List.map_append];rfl
 cases hr with
 | put _ _ _=>
  rw [qa9]
  push_cast only [ix0,qW0,q1,Bool.false_eq_true,Option.toList,List.append_nil]
 | @read f n o _ _ _=>
  have:=ap (.tup [.str "read",.str f,.str n,.str o]) n (by push_cast only [ix0,k4,ix2])
  rw [qVa]
  push_cast [ix0,qW0,q2]
  exact this
 | @need n _=>
  have:=ap (.tup [.str "need",.str n]) n (by push_cast only [ix0,k10,ix1])
  rw [qQj]
  push_cast [ix0,qW0,q3]
  exact this
 | note _=>
  rw [qVb]
  push_cast only [ix0,qW0,q4,Bool.false_eq_true,Option.toList,List.append_nil]
 | fail _=>
  rw [qVc]
  push_cast only [ix0,qW0,q5,Bool.false_eq_true,Option.toList,List.append_nil]
theorem qOn {w0 w1 w2 a b c:Sl}:∀ (rs:List D) (acc:List Str) (s4:Sl),(∀ r∈rs,RowF r)→acc.length + rs.length≤100→
  ∃ s4',qFh (qFb 4) bR rs [w0,w1,w2,.own (acc.map D.str),s4,a,b,c]=.ok (.nx [w0,w1,w2,.own ((acc++rs.filterMap qBh).map D.str),s4',a,b,c])
 | [],acc,s4,_,_=>⟨s4,by simp [qFh]⟩
 | r::rs,acc,s4,hr,hl=>by
  rw [List.length_cons] at hl
  have e0:qFb 4 r [w0,w1,w2,.own (acc.map D.str),s4,a,b,c]=.ok [w0,w1,w2,.own (acc.map D.str),.im r,a,b,c]:=rfl
  have e1:=qZ0 (hr r (List.mem_cons_self ..)) (w0:=w0) (w1:=w1) (w2:=w2) (a:=a) (b:=b) (c:=c) (acc:=acc) #[0]
  have ht:(qBh r).toList.length≤1:=by cases qBh r <;> simp
  obtain ⟨s4',q⟩:=qOn rs (acc++(qBh r).toList) (.im r) (fun r' h'=>hr r' (List.mem_cons_of_mem _ h')) (by rw [List.length_append];omega)
  refine ⟨s4',?_⟩
  unfold qFh
  simp only [e0,e1]
  rw [q,List.filterMap_cons]
  cases qBh r with
  | none=>simp only [Option.toList,List.append_nil]
  | some n=>simp only [Option.toList,List.append_assoc,List.cons_append,List.nil_append]
abbrev bN:qAj→Rs Fl:=qBd (qCk 7 (qAs qDu 3 (qAc #[1] (qAc (qAn ixW (var 1) #[7]) (qAc (var 6) qA2)))))
  (ifF (qUg (qAg (qAn qDj (var 7) #[21]) W.bool) (qAg (qAn qFf (var 7) (var 5)) W.bool)) (qKr 5 (qBg (var 7))) qC8)
theorem qLd {ls:List Ld}(h:WorldOk ls){x:Pa}(c:Cls ls x){w2 w3 w4:Sl}:∀ (ns:List Str) (S:List Pa) (a b:Sl),SOk ls S→
  ∃ a' b',qFh (qFb 6) bN (ns.map D.str) [.im #[2],.im (unP x),w2,w3,w4,.own (S.map unP),a,b]=.ok (.nx [.im #[2],.im (unP x),w2,w3,w4,.own ((ns.foldl (qL6 ls x) S).map unP),a',b'])
 | [],S,a,b,_=>⟨a,b,rfl⟩
 | n::ns,S,a,b,s=>by
  have hf:=qWn h c n
  have hf:qDu [.im #[2],.im (.int x.1),.im (.str n)]=.ok (.im (opD (toN ls x n))):=hf
  obtain ⟨a',b',q⟩:=qLd h c (w2:=w2) (w3:=w3) (w4:=w4) ns (qL6 ls x S n) (.im (.str n)) (.im (opD (toN ls x n))) (s.n h c n)
  refine ⟨a',b',?_⟩
  have e0:qFb 6 (.str n) [.im #[2],.im (unP x),w2,w3,w4,.own (S.map unP),a,b]=.ok [.im #[2],.im (unP x),w2,w3,w4,.own (S.map unP),.im (.str n),b]:=rfl
  have e2:bN [.im #[2],.im (unP x),w2,w3,w4,.own (S.map unP),.im (.str n),b]=.ok (.nx [.im #[2],.im (unP x),w2,w3,w4,.own ((qL6 ls x S n).map unP),.im (.str n),.im (opD (toN ls x n))]):=by
   unfold bN
   rw [qNn (δ':=[.im #[2],.im (unP x),w2,w3,w4,.own (S.map unP),.im (.str n),.im (opD (toN ls x n))]) (by push_cast only [qa4,hf])]
   unfold qL6
   simp only [ifF]
   cases toN ls x n with
   | none=>push_cast only [opD,Bool.false_eq_true]
   | some z=>
    have l1:=few h s.nd s.ok
    have hb:qAg (qAn qDj (var 7) #[21]) W.bool [.im #[2],.im (unP x),w2,w3,w4,.own (S.map unP),.im (.str n),.im (unP z)]=.ok true:=by push_cast only [unP]
    have hn:=qOk (f:=false) S z
    have hb2:qAg (qAn qFf (var 7) (var 5)) W.bool [.im #[2],.im (unP x),w2,w3,w4,.own (S.map unP),.im (.str n),.im (unP z)]=.ok (!decide (z∈S)):=by push_cast only [hn]
    show (qUg _ _ [.im #[2],.im (unP x),w2,w3,w4,.own (S.map unP),.im (.str n),.im (unP z)]>>=_)=_
    simp only [qUg,hb,hb2,okb,if_true]
    show _=Rs.ok (Fl.nx [.im #[2],.im (unP x),w2,w3,w4,.own ((qYh S z).map unP),.im (.str n),.im (unP z)])
    by_cases hm:z∈S
    ·unfold qYh
     rw [if_pos hm]
     simp only [decide_eq_true hm,Bool.not_true,Bool.false_eq_true,if_false]
     exact rfl
    ·unfold qYh
     rw [if_neg hm]
     simp only [decide_eq_false hm,Bool.not_false,if_true]
     rw [qG7 (i:=5) (ds:=S.map unP) (d:=unP z) rfl rfl (by rw [List.length_map];omega),List.map_append];rfl
  rw [List.map_cons]
  unfold qFh
  simp only [e0,e2]
  exact q
theorem qJv {ls:List Ld}(h:WorldOk ls){x:Pa}(c:Cls ls x):qC0 [.im #[2],.im (unP x)]=.ok (.li true ((arr ls x).map unP)):=by
 obtain ⟨d,e1,e2,e3⟩:=qag h c
 obtain ⟨l,p,hl,hf,hp,hok⟩:=c.file h
 rw [←hp] at hok
 obtain ⟨r1,r2,r3⟩:=qPd hok
 have ea:=fA_str hok
 have er:=fR_str hok
 refine qAx ?_
 rcases e3 with rfl | ⟨a,b,rfl⟩
 ·refine qAp (b:=false) (δ:=[.im #[2],.im (unP x),.un,.un,.un,.un,.un,.un]) (by push_cast only [e1]) #[14] (fun _=>qBe ?_)
  refine qAv (δ':=[.im #[2],.im (unP x),.im #[16],.un,.un,.un,.un,.un]) (by push_cast only [qGs h c]) ?_
  refine qAv (δ':=[.im #[2],.im (unP x),.im #[16],.own ((fA #[16]).toList.map D.str),.un,.un,.un,.un]) ?_ ?_
  ·cases e:fA #[16] with
   | none=>
    rw [e] at ea
    have ea:ixW (.im #[16]) (.im (.int 2))=.ok (.im .non):=ea
    have s0:slW (.li true [D.non]) none (some 0)=.ok (.li true []):=rfl
    push_cast only [ea,s0]
   | some s=>
    rw [e] at ea
    have ea:ixW (.im #[16]) (.im (.int 2))=.ok (.im (.str s)):=ea
    have s1:slW (.li true [D.str s]) none (some 1)=.ok (.li true [D.str s]):=rfl
    push_cast only [ea,s1]
  have ht:(fA #[16]).toList.length≤1:=by cases fA #[16] <;> simp
  obtain ⟨s4',q⟩:=qOn (w0:=.im #[2]) (w1:=.im (unP x)) (w2:=.im #[16]) (a:=.un) (b:=.un) (c:=.un) (fR #[16]) (fA #[16]).toList .un r2 #[0]
  have en:(fA #[16]).toList++(fR #[16]).filterMap qBh=(qDl #[16]).filterMap qBh:=by
   unfold qDl
   cases fA #[16] with
   | none=>rfl
   | some s=>rw [List.filterMap_append,List.filterMap_cons,qQj];rfl
  rw [en] at q
  refine qAv (δ':=[.im #[2],.im (unP x),.im #[16],.own (((qDl #[16]).filterMap qBh).map D.str),s4',.un,.un,.un]) ?_ ?_
  ·have eg:qAg (qAn ixW (var 2) #[39]) W.walkN [.im #[2],.im (unP x),.im #[16],.own ((fA #[16]).toList.map D.str),.un,.un,.un,.un]=.ok (fR #[16]):=by push_cast only [er]
   simp only [qH5,eg,okb]
   exact q
  refine qAv (δ':=[.im #[2],.im (unP x),.im #[16],.own (((qDl #[16]).filterMap qBh).map D.str),s4',.own (([]:List Pa).map unP),.un,.un]) #[20] ?_
  obtain ⟨a',b',q2⟩:=qLd h c (w2:=.im #[16]) (w3:=.im (.lst (((qDl #[16]).filterMap qBh).map D.str))) (w4:=s4') ((qDl #[16]).filterMap qBh) [] .un .un ⟨List.nodup_nil,fun z hz=>nomatch hz⟩
  rw [←qHs] at q2
  refine qAv (δ':=[.im #[2],.im (unP x),.im #[16],.im (.lst (((qDl #[16]).filterMap qBh).map D.str)),s4',.own ((qee ls x).map unP),a',b']) q2 ?_
  refine qAw (w:=.li true ((arr ls x).map unP)) ?_ rfl
  unfold arr
  rw [if_pos (e2.mp rfl)]
  push_cast only [okb]
 ·refine qAp (b:=true) (δ:=[.im #[2],.im (unP x),.un,.un,.un,.un,.un,.un]) (by push_cast only [e1]) (fun _=>qBl (w:=.li true []) #[20] ?_) #[14]
  unfold arr
  rw [if_neg fun g=>by have:=e2.mpr g;cases this];rfl
abbrev tW:qAj→Rs Bool:=qAg (qAn ltW (var 3) (qAg (qAc (var 2) qA2) qIs)) W.bool
abbrev bL:qAj→Rs Fl:=qBd (qXo 2 (qC2 (qAg (qAs qC0 2 (qAc #[1] (qAc (qAn ixW (var 2) (var 3)) qA2))) W.walk) (qAg (qAn qFf #[1] (var 3)) W.bool) (qBg #[1])))
  (qCk 3 (qAn qCp (var 3) #[13]))
theorem qH0 {ls:List Ld}(h:WorldOk ls){st:Pa→Prop}(s1:Sl)(hst:∀ y,st y→∀ z∈arr ls y,st z):∀ (n:Nat) (S:List Pa) (at_:Nat),SOk ls S→at_≤S.length→(∀ z∈S,st z)→(∀ y∈S.take at_,∀ z∈arr ls y,z∈S)→17≤n + at_→
  ∃ (S':List Pa),qCj tW bL n [.im #[2],s1,.own (S.map unP),.im (.int (at_:Nat))]=.ok (.nx [.im #[2],s1,.own (S'.map unP),.im (.int (S'.length:Nat))])∧SOk ls S'∧(∀ z∈S,z∈S')∧(∀ z∈S',st z)∧∀ y∈S',∀ z∈arr ls y,z∈S'
 | 0,S,at_,s,hl,_,_,hn=>by
  have:=few h s.nd s.ok
  omega
 | n + 1,S,at_,s,hl,hs,hc,hn=>by
  have l1:=few h s.nd s.ok
  rcases Nat.lt_or_ge at_ S.length with g | g
  ·obtain ⟨y,hy⟩:∃ y,S[at_]?=some y:=⟨_,List.getElem?_eq_getElem g⟩
   have yS:y∈S:=List.mem_of_getElem? hy
   have hN:∀ z,z∈(arr ls y).filter (fun z=>!decide (z∈S))→z∈arr ls y∧z∉S:=fun z hz=>by
    obtain ⟨p,q⟩:=List.mem_filter.mp hz
    exact ⟨p,by simpa using q⟩
   have ao:=qbx h (s.ok y yS)
   have s':SOk ls (S++(arr ls y).filter (fun z=>!decide (z∈S))):=by
    refine ⟨?_,fun z hz=>?_⟩
    ·rw [List.nodup_append]
     exact ⟨s.nd,ao.nd.filter _,fun u hu w hw e=>(hN w hw).2 (e ▸ hu)⟩
    ·rcases List.mem_append.mp hz with z1 | z1
     ·exact s.ok z z1
     ·exact ao.ok z (hN z z1).1
   have l2:=few h s'.nd s'.ok
   obtain ⟨S',w1,w2,w3,w4,w5⟩:=qH0 h s1 hst n (S++(arr ls y).filter (fun z=>!decide (z∈S))) (at_ + 1) s' (by rw [List.length_append];omega) (fun z hz=>by
    rcases List.mem_append.mp hz with z1 | z1
    ·exact hs z z1
    ·exact hst y (hs y yS) z (hN z z1).1) (fun u hu z hz=>by
    rw [List.take_append_of_le_length #[0],List.take_succ,hy] at hu
    rcases List.mem_append.mp hu with u1 | u1
    ·exact List.mem_append_left _ (hc u u1 z hz)
    ·have:u=y:=by simpa using u1
     subst this
     by_cases zS:z∈S
     ·exact List.mem_append_left _ zS
     ·exact List.mem_append_right _ (List.mem_filter.mpr ⟨hz,by simp [zS]⟩)) (by omega)
   refine ⟨S',?_,w2,fun z hz=>w3 z (List.mem_append_left _ hz),w4,w5⟩
   have t1:tW [.im #[2],s1,.own (S.map unP),.im (.int (at_:Nat))]=.ok true:=by
    have:decide (((at_:Nat):Int) < ((S.length:Nat):Int))=true:=decide_eq_true #[0]
    push_cast [tW,List.length_map,this]
   refine qLz t1 (δ2:=[.im #[2],s1,.own ((S++(arr ls y).filter (fun z=>!decide (z∈S))).map unP),.im (.int ((at_ + 1:Nat)))]) ?_ w1
   have hx:ixW (.li false (S.map unP)) (.im (.int (at_:Nat)))=.ok (.im (unP y)):=qHq rfl #[0] (by rw [Int.toNat_natCast,List.getElem?_map,hy];rfl)
   have eg:qAg (qAs qC0 2 (qAc #[1] (qAc (qAn ixW (var 2) (var 3)) qA2))) W.walk [.im #[2],s1,.own (S.map unP),.im (.int (at_:Nat))]=.ok ((arr ls y).map unP):=by
    push_cast only [hx,qJv h (s.ok y yS)]
   have hc2:=qPh (δ:=[.im #[2],s1,.own (S.map unP),.im (.int (at_:Nat))]) (t:=qAg (qAn qFf #[1] (var 3)) W.bool) (el:=qBg #[1]) (xs:=arr ls y) unP (fun z=>!decide (z∈S)) unP (by have:=few h ao.nd ao.ok;omega) (fun z hz=>⟨by push_cast only [qOk],fun _=>by push_cast only [okb]⟩)
   have ee:qXo 2 (qC2 (qAg (qAs qC0 2 (qAc #[1] (qAc (qAn ixW (var 2) (var 3)) qA2))) W.walk) (qAg (qAn qFf #[1] (var 3)) W.bool) (qBg #[1])) [.im #[2],s1,.own (S.map unP),.im (.int (at_:Nat))]=.ok (.nx [.im #[2],s1,.own ((S++(arr ls y).filter (fun z=>!decide (z∈S))).map unP),.im (.int (at_:Nat))]):=by
    rw [qbo (i:=2) (ds:=S.map unP) (zs:=((arr ls y).filter (fun z=>!decide (z∈S))).map unP) rfl (by simp only [qC2,eg,okb,hc2]) (by rw [List.length_map,List.length_map];rw [List.length_append] at l2;omega),List.map_append];rfl
   unfold bL
   rw [qNn ee]
   push_cast only [okb]
  ·have e:at_=S.length:=by omega
   subst e
   rw [List.take_length] at hc
   refine ⟨S,qL0 ?_,s,fun z hz=>hz,hs,hc⟩
   have:decide (((S.length:Nat):Int) < ((S.length:Nat):Int))=false:=decide_eq_false #[0]
   push_cast [tW,List.length_map,this]
theorem qTt {ls:List Ld}(h:WorldOk ls){S:List Pa}(s:SOk ls S){f:Bool}:∃ R,SOk ls R∧(∀ z,z∈R ↔ ∃ x∈S,Rch (arr ls) x z)∧qGq [.im #[2],.li f (S.map unP)]=.ok (.li true (R.map unP)):=by
 obtain ⟨R,w1,w2,w3,w4,w5⟩:=qH0 h (st:=fun z=>∃ x∈S,Rch (arr ls) x z) (.rd (S.map unP)) (fun y ⟨x,hx,r⟩ z hz=>⟨x,hx,.on r hz⟩) 1000 S 0 s (Nat.zero_le _) (fun z hz=>⟨z,hz,.here⟩) (fun y hy=>nomatch hy) #[0]
 refine ⟨R,w2,fun z=>⟨w4 z,?_⟩,?_⟩
 ·rintro ⟨x,hx,r⟩
  induction r with
  | here=>exact w3 _ hx
  | on _ hz ih=>exact w5 _ ih _ hz
 ·refine qAx ?_
  refine qAv (δ:=[.im #[2],.rd (S.map unP),.un,.un]) (δ':=[.im #[2],.rd (S.map unP),.own (S.map unP),.un]) rfl ?_
  refine qAv (δ':=[.im #[2],.rd (S.map unP),.own (S.map unP),.im (.int ((0:Nat)))]) #[20] ?_
  refine qAv w1 ?_
  exact qAw (w:=.li true (R.map unP)) #[20] rfl
theorem qUe {ls:List Ld}(h:WorldOk ls){x:Pa}(c:Cls ls x):qGo [.im #[2],.im (unP x)]=.ok (.li true ((arr ls x).map unP)):=
 qAx (qAw (δ:=[.im #[2],.im (unP x)]) (by push_cast only [qD5 h c,qE1 h c]) rfl)
theorem qTp {ls:List Ld}(h:WorldOk ls){x:Pa}(c:Cls ls x):∃ R,R.Nodup∧(∀ z,z∈R ↔ Rch (arr ls) x z)∧qGl [.im #[2],.im (unP x)]=.ok (.li true ((qD8 R).map unP)):=by
 obtain ⟨R,r1,r2,r3,r4⟩:=qQk (gl:=qEw) (dw:=wdD ls) (x0:=x) (nx:=arr ls) (P:=Cls ls) (fun l hl hP=>few h hl hP)
  (fun y hy=>by unfold qEw;push_cast only [qE1 h hy]) (fun y hy z hz=>(qbx h hy).ok z hz) c
 refine ⟨R,r1,r3,qAx (qAw (w:=.li true ((qD8 R).map unP)) ?_ rfl)⟩
 have e:qAs qBn 2 #[29] [.im #[2],.im (unP x)]=.ok (.im (unP x)):=by push_cast only [qD5 h c]
 show (qAs qBn 2 #[29] [.im #[2],.im (unP x)]>>=fun w=>(qKp fun f vw=>qD0 f vw qEw [w,.im (.clo f vw #[2])]).nox)=_
 rw [e,PD.ok_bind,r4];rfl
abbrev exC:XD:=⟨0,.str "NoClass"⟩
abbrev ref2:D:=.tup [.str "refused",.int 2]
theorem which2:qEt "NoClass"=.ok (.im ref2):=by kernel_rfl
theorem qSx {m:List W→Rs W}{us:List W}(h:m us=.ex exC):qM2 ["NoClass"] m qEt us=.ok (.im ref2):=by
 unfold qM2;rw [h];exact (if_pos (show exC.nm∈[Str.ofString "NoClass"] from List.mem_cons_self ..)).trans which2
abbrev qep (ls:List Ld)(d:D):Prop:=qD3 [.im #[2],.im d]=.ok (.im (.bl false))
theorem qQ5 {ls:List Ld}{d:D}(h:qBs [.im d,.im (.int 2),.im (.int 2)]=.ok (.im (.bl false))):qep ls d:=by
 refine qAx ?_
 exact qAp (b:=true) (δ:=[.im #[2],.im d]) (by push_cast [h]) (fun _=>qBl #[20] rfl) #[14]
theorem two_t {a b:D}:qBs [.im (.tup [a,b]),.im (.int 2),.im (.int 2)]=.ok Tr:=qB0 (ds:=[a,b]) (lo:=2) (hi:=2) (by show (2:Int)≤((2:Nat):Int);omega) (by show ((2:Nat):Int)≤2;omega)
theorem qX3 {ls:List Ld}{a b:D}(h:qCd [.im a,.im (.int 0),.im (.int ((ls.length:Int) - 1))]=.ok (.im (.bl false))):qep ls (.tup [a,b]):=by
 refine qAx ?_
 exact qAp (b:=true) (δ:=[.im (.tup (ls.map ldD)),.im (.tup [a,b])]) (by push_cast [two_t,ix0,List.length_map,h,Bool.false_eq_true]) (fun _=>qBl #[20] rfl) #[14]
theorem qdc {i lo hi:Int}(h:¬ (lo≤i∧i≤hi)):qCd [.im (.int i),.im (.int lo),.im (.int hi)]=.ok (.im (.bl false)):=by
 refine qAx ?_
 refine qAp (b:=false) (δ:=[.im (.int i),.im (.int lo),.im (.int hi)]) rfl #[14] (fun _=>qBe ?_)
 refine qAw (w:=.im (.bl false)) ?_ rfl
 by_cases a:lo≤i
 ·have b:¬ i≤hi:=fun z=>h ⟨a,z⟩
  simp only [qEl,var,okb,List.getElem?_cons_zero,List.getElem?_cons_succ,leW,W.bool,decide_eq_true a,decide_eq_false b,qCu]
 ·simp only [qEl,var,okb,List.getElem?_cons_zero,List.getElem?_cons_succ,leW,W.bool,decide_eq_false a,Bool.false_eq_true,qDa]
theorem w_z:WordS (Str.ofString "zzzzz"):=qIa _ #[19]
theorem bad_z {ls:List Ld}(h:WorldOk ls)(hz:∀ (i:Nat) (l:Ld),ls[i]?=some l→∀ p∈l.2,p.1≠Str.ofString "zzzzz"):qep ls (.tup [.int 0,.str "zzzzz"]):=by
 have h0:=h.pos
 have nu:=qDd (i:=0) (lo:=0) (hi:=(ls.length:Int) - 1) #[0] #[0]
 have fo:=qH1 h (x:=((0:Int),Str.ofString "zzzzz")) ⟨0,h0,rfl⟩
 have ef:isF ls ((0:Int),Str.ofString "zzzzz")=false:=by
  unfold isF
  refine decide_eq_false fun e=>?_
  have hh:=(qG2 e).2
  obtain ⟨l,hl,_⟩:=qQs (ls:=ls) (i:=0) h0
  have hh:has ls (Str.ofString "zzzzz") 0=true:=hh
  rw [qOv hl] at hh
  obtain ⟨p,_,h2,h3⟩:=qR9 hh
  exact hz 0 l hl p h3 h2
 rw [ef] at fo
 have fo':qD1 [.im (.tup (ls.map ldD)),.im (.tup [.int 0,.str "zzzzz"])]=.ok (.im (.bl false)):=fo
 refine qAx ?_
 refine qAp (b:=false) (δ:=[.im (.tup (ls.map ldD)),.im (.tup [.int 0,.str "zzzzz"])]) ?_ #[14] (fun _=>qBe (qAw (w:=.im (.bl false)) ?_ rfl))
 ·push_cast [two_t,ix0,List.length_map,nu,Bool.false_eq_true]
 ·push_cast [ix1,qC1 w_z,fo']
theorem qbu {ls:List Ld}(h:WorldOk ls){d:D}(b:qep ls d):qBn [.im #[2],.im d]=.ex exC:=by
 have ci:qE8 [.im #[2],.im d]=.ex exC:=by
  refine qIm (seq_ex ?_)
  have:qHk (qAg (qAs (fun ws=>(qD3 ws).nox) 2 #[29]) W.tru) [.im #[2],.im d]=.ok true:=by push_cast [b]
  show ifF _ _ _ [.im #[2],.im d]=_
  simp only [ifF,this,okb,qCu]
 refine qIm ?_
 show (qAs _ _ _ [.im #[2],.im d]>>=_)=_
 push_cast [qKa h,ci,ex_bind]
theorem qUf {ls:List Ld}(h:WorldOk ls){d:D}(b:qep ls d):qCo [.im #[2],.im d]=.ok (.im ref2):=by
 refine qSx (m:=qGo) (us:=[.im #[2],.im d]) (qIm ?_)
 show (qAs _ _ _ [.im #[2],.im d]>>=_)=_
 push_cast [qbu h b,ex_bind]
theorem qTq {ls:List Ld}(h:WorldOk ls){d:D}(b:qep ls d):qCn [.im #[2],.im d]=.ok (.im ref2):=by
 refine qSx (m:=qGl) (us:=[.im #[2],.im d]) (qIm ?_)
 have e:qAs qBn 2 #[29] [.im #[2],.im d]=.ex exC:=by push_cast [qbu h b]
 show ((qAs qBn 2 #[29] [.im #[2],.im d]>>=fun w=>(qKp fun f vw=>qD0 f vw qEw [w,.im (.clo f vw #[2])]).nox)>>=_)=_
 rw [e];rfl
theorem qdd {w1 w2:W}(h:w1.dat=w2.dat)(f:qA3 50 w1.dat=true):neW w1 w2=.ok (.im (.bl false)):=by
 unfold neW
 rw [←h,if_pos ⟨f,f⟩,qIu 50 _ f];rfl
theorem qd4 {w1 w2:W}(h:w1.dat=w2.dat)(f:qA3 50 w1.dat=true):eqW w1 w2=.ok (.im (.bl true)):=by
 unfold eqW
 rw [←h,if_pos ⟨f,f⟩,qIu 50 _ f]
theorem ne_li {f g:Bool}(S:List Pa):neW (.li f (S.map unP)) (.li g (S.map unP))=.ok (.im (.bl false)):=qdd rfl (show qA3 50 (D.lst (S.map unP))=true from qIt 48 S)
theorem law_true (ns:List Int)(_:ns.length≤63):m_law [.im #[31]]=.ok (.im (.bl true)):=by
 refine qAx ?_
 obtain ⟨ss,es,hN⟩:=qV9 (ns:=ns) (at_:=20) #[0]
 obtain ⟨ls,ew,h,hnm⟩:=qUj (ns:=ns) (at_:=100) (f:=false) #[0] hN (many:=3) (lg:=4) #[0] #[0] #[0] #[0]
 have hle:=h.le
 have ec:=qOp h
 refine qAv (δ:=[.im #[31],.un,.un,.un,.un]) (by push_cast only [es]) ?_
 refine qAv (by push_cast only [ew]) ?_
 let So:=qD8 ((prs ls ls.length).filter (isF ls))
 have hcl:∀ x∈So,Cls ls x:=fun x hx=>by
  have hx:=(qE2 _).mem_iff.mp hx
  obtain ⟨h1,h2⟩:=List.mem_filter.mp hx
  obtain ⟨i,hi,e⟩:=qVu _ _ h1
  have e2:x.1.toNat=i:=by rw [e,Int.toNat_natCast]
  exact ⟨by rw [e2];exact e,by rw [e2];exact hi,by unfold isF at h2;exact of_decide_eq_true h2⟩
 let E:Sl→Sl→qAj:=fun a b=>[.im #[31],.own #[15],.im #[2],a,b]
 refine qCm (Q1:=fun δ=>∃ a,δ=E a .un) ?_ ?_
 ·refine qFp (ds:=So.map unP) (fun _ δ=>∃ a,δ=E a .un) (by push_cast only [ec]) ⟨_,rfl⟩ ?_ (fun δ' hj=>⟨_,rfl,hj⟩)
  rintro i d _ hd ⟨a,rfl⟩
  obtain ⟨x,hx,rfl⟩:=List.mem_map.mp (List.mem_of_getElem? hd)
  have c:=hcl x hx
  refine ⟨E (.im (unP x)) .un,rfl,?_⟩
  refine qAp (b:=false) (by push_cast only [E,qUe h c,qJv h c,ne_li]) #[14] (fun _=>qBe ?_)
  obtain ⟨R,r1,r2,r3⟩:=qTp h c
  obtain ⟨R',s1,s2,s3⟩:=qTt h (S:=[x]) (f:=true) ⟨by simp,fun z hz=>by rw [List.mem_singleton.mp hz];exact c⟩
  have s3:qGq [.im #[2],.li true [unP x]]=.ok (.li true (R'.map unP)):=s3
  have hRR:qD8 R=qD8 R':=by
   have hp:R.Perm R':=(List.perm_ext_iff_of_nodup r1 s1.nd).mpr fun z=>(r2 z).trans ⟨fun r=>(s2 z).mpr ⟨x,by simp,r⟩,fun q=>by
    obtain ⟨y,hy,r⟩:=(s2 z).mp q
    rw [List.mem_singleton.mp hy] at r;exact r⟩
   exact qIk ((qE2 R).trans hp) (qL7 R)
  have l2:=few h s1.nd s1.ok
  have so:=qRf (f:=true) (S:=R') #[0]
  rw [hRR] at r3
  exact qDz (b:=false) (by push_cast only [E,r3,s3,so,ne_li]) #[14] (fun _=>⟨_,rfl,_,rfl,_,rfl⟩)
 ·rintro _ ⟨a,rfl⟩
  obtain ⟨nm,hm,e0⟩:=qGu (f:=false) (ss:=ss) (j:=0) #[0] (by have:=hN.pos;omega)
  have q0:=qBc (ns:=ns) (k:=0) (many:=6) #[0] #[0]
  have m0:=qP3 (ns:=ns) (k:=0) (many:=6) #[0]
  have m1:=qGk (ns:=ns) (k:=0) (many:=6) #[0]
  generalize mx ns 0 6=j at q0 m0 m1
  have hz:∀ (i:Nat) (l:Ld),ls[i]?=some l→∀ p∈l.2,p.1≠Str.ofString "zzzzz":=fun i l e p hp q=>hN.n5 p.1 (hnm i l e p hp) (by rw [q];decide +kernel)
  have hx:∃ d,ixW (.li true [.non,.tup [.int 0,.str "zzzzz"],.tup [.int 9,.str nm],.tup [.bl true,.str nm],.lst [.int 0,.str nm],.str nm]) (.im (.int j))=.ok (.im d)∧qep ls d:=by
   have:j=0∨j=1∨j=2∨j=3∨j=4∨j=5:=by omega
   rcases this with rfl | rfl | rfl | rfl | rfl | rfl
   ·exact ⟨_,rfl,qQ5 rfl⟩
   ·exact ⟨_,rfl,bad_z h hz⟩
   ·exact ⟨_,rfl,qX3 (qdc #[0])⟩
   ·exact ⟨_,rfl,qX3 rfl⟩
   ·exact ⟨_,rfl,qQ5 rfl⟩
   ·exact ⟨_,rfl,qQ5 rfl⟩
  obtain ⟨d,e1,bd⟩:=hx
  refine qAv (δ':=E a (.im d)) (by push_cast only [E,e0,q0,e1]) ?_
  have r2:eqW (.im ref2) (.im ref2)=.ok Tr:=qd4 rfl rfl
  refine qAw (w:=Tr) ?_ rfl
  push_cast only [E,qUf h bd,qTq h bd,r2]
end T08
namespace PD
open PySem PySem.Spec PyProof.Rows L2
theorem tab_mk {w:World}{K:PySem.W.Frag}{h:Heap}{mg:Str→Option Value}{x:Str}{d:Addr}{es:Array DictEntry}{n:Nat}{t:List (Str×Int)}(X:K.In h)(G:h.Ns mainGlobals mg)
  (a:PySem.W.nsIn K mainGlobals x=some (some (.ref d))) (l:K.lookup d=some ⟨.type "dict",none,.dict es n,#[]⟩) (kl:PySem.W.KeysLit w.params es.toList) (sy:(d == sysModules)=false) (tb:qa1 es.toList t):qek w K mg x t:=⟨d,es,n,PySem.W.mg_of X G a,l,kl,sy,tb⟩
theorem str_mk {K:PySem.W.Frag}{h:Heap}{mg:Str→Option Value}{x z:Str}{t:Tok}(X:K.In h)(G:h.Ns mainGlobals mg)(a:PySem.W.nsIn K mainGlobals x=some (some (.str z t))):∃ t,mg x=some (.str z t):=⟨t,PySem.W.mg_of X G a⟩
end PD
open PySem PySem.W PyProof.Rows
set_option hygiene false
local macro_rules | `(tactic| and_intros) => `(tactic| (refine' PD.has_mk KX G ?a ?l ?c ?k; (case a => k_is); (case l => k_is); (case c => k_is); (case k => k_is)))
local macro_rules | `(tactic| subst_eqs) => `(tactic| (refine PySem.W.mg_none_of KX G ?_; k_is))
local macro_rules | `(tactic| nofun) => `(tactic| exact ⟨by kernel_rfl, by kernel_rfl, by kernel_rfl, by kernel_rfl, by kernel_rfl, by kernel_rfl, by kernel_rfl, by kernel_rfl⟩)
theorem PySem.Challenge.cw_loaders_k08_arrows_holds : PySem.Challenge.rw_loaders_k08_arrows.Holds := by
 refine hd08 ?_
 k_fill
 refine PD.law_mk (l:=PySem.Challenge.rw_loaders_k08_arrows) (m:=T08.m_law) (k:=49) (x:="_law_script") rfl rfl ⟨rfl,by decide,by decide⟩ T08.law_true (fun w h Y=>PySem.W.km_in_of Y) (fun w=>by kernel_rfl) ?F
 case F=>
  intro w mg fa h KX G hmg
  have T:T08.Txt w (hd08.heap_39 w.params) mg:=by
   clear hmg
   constructor
   case b_ValueError=>subst_eqs
   case b_all=>subst_eqs
   case b_bool=>subst_eqs
   case b_enumerate=>subst_eqs
   case b_int=>subst_eqs
   case b_isinstance=>subst_eqs
   case b_len=>subst_eqs
   case b_list=>subst_eqs
   case b_range=>subst_eqs
   case b_reversed=>subst_eqs
   case b_set=>subst_eqs
   case b_sorted=>subst_eqs
   case b_str=>subst_eqs
   case b_tuple=>subst_eqs
   case g_LETTERS=>
    refine' PD.str_mk KX G ?a
    (case a=>k_is)
   case g_WORDS_BEHIND=>
    refine' PD.tab_mk KX G ?a ?l ?kl ?sy ?tb
    (case a=>k_is)
    (case l=>k_is)
    (case kl=>exact ⟨⟨_,_,rfl,rfl⟩,⟨_,_,rfl,rfl⟩,⟨_,_,rfl,rfl⟩,⟨_,_,rfl,rfl⟩,trivial⟩)
    (case sy=>decide)
    (case tb=>exact ⟨_,_,_,rfl,⟨_,rfl⟩,⟨_,rfl⟩,⟨_,_,_,rfl,⟨_,rfl⟩,⟨_,rfl⟩,⟨_,_,_,rfl,⟨_,rfl⟩,⟨_,rfl⟩,⟨_,_,_,rfl,⟨_,rfl⟩,⟨_,rfl⟩,rfl⟩⟩⟩⟩)
   case t_is_number=>and_intros
   case t_is_tuple=>and_intros
   case t_is_word=>and_intros
   case t_are_words=>and_intros
   case t_are_unlike=>and_intros
   case t_is_row=>and_intros
   case t_fits_above=>and_intros
   case t_are_faces=>and_intros
   case t_are_rows=>and_intros
   case t_is_file=>and_intros
   case t_names_on=>and_intros
   case t_is_shelf=>and_intros
   case t_is_loader=>and_intros
   case t_checked=>and_intros
   case t_line_to=>and_intros
   case t_found=>and_intros
   case t_is_found=>and_intros
   case t_is_class=>and_intros
   case t_class_in=>and_intros
   case t_checked_class=>and_intros
   case t_file_of=>and_intros
   case t_reached=>and_intros
   case t_names_above=>and_intros
   case t_fault_of_name=>and_intros
   case t_fault_above=>and_intros
   case t_fault=>and_intros
   case t_steps_of=>and_intros
   case t_name_needed=>and_intros
   case t_arrows_from=>and_intros
   case t_arrows=>and_intros
   case t_needed=>
    refine PD.hasL_mk KX G ?zl (by kernel_rfl)
    case zl=>
     refine' PD.has_mk KX G ?a ?l ?c ?k
     (case a=>k_is)
     (case l=>k_is)
     (case c=>k_is)
     (case k=>k_is)
   case t_L_cell_at=>and_intros
   case t_L_mixed=>and_intros
   case t_L_word=>and_intros
   case t_L_names=>and_intros
   case t_L_row=>and_intros
   case t_L_file=>and_intros
   case t_L_world=>and_intros
   case t_L_line=>and_intros
   case t_L_on=>and_intros
   case t_L_find=>and_intros
   case t_L_file_of=>and_intros
   case t_L_classes=>and_intros
   case t_L_above=>and_intros
   case t_L_flaw=>and_intros
   case t_L_arrows=>and_intros
   case t_L_reach=>and_intros
   case t_L_which=>and_intros
   case t_L_told=>and_intros
   case t_law=>and_intros
   case c_NoClass=>
    refine' PD.raise_mk KX G ?a ?q
    (case a=>k_is)
    (case q=>k_exc)
   case e_NoClass=>
    refine' PD.is_mk KX G ?zzeNoClassa ?zzeNoClasst
    (case zzeNoClassa=>k_is)
    case zzeNoClasst=>
     refine' PD.tabE_cons ?zzeNoClass0n ?zzeNoClass0k ?zzeNoClass0q ?zzeNoClass0r
     (case zzeNoClass0n=>k_is)
     (case zzeNoClass0k=>nofun)
     (case zzeNoClass0q=>kernel_rfl)
     exact PD.tabE_nil
   case e_NoFile=>
    refine' PD.is_mk KX G ?zzeNoFilea ?zzeNoFilet
    (case zzeNoFilea=>k_is)
    case zzeNoFilet=>
     refine' PD.tabE_cons ?zzeNoFile0n ?zzeNoFile0k ?zzeNoFile0q ?zzeNoFile0r
     (case zzeNoFile0n=>k_is)
     (case zzeNoFile0k=>nofun)
     (case zzeNoFile0q=>kernel_rfl)
     exact PD.tabE_nil
   case e_NoHand=>
    refine' PD.is_mk KX G ?zzeNoHanda ?zzeNoHandt
    (case zzeNoHanda=>k_is)
    case zzeNoHandt=>
     refine' PD.tabE_cons ?zzeNoHand0n ?zzeNoHand0k ?zzeNoHand0q ?zzeNoHand0r
     (case zzeNoHand0n=>k_is)
     (case zzeNoHand0k=>nofun)
     (case zzeNoHand0q=>kernel_rfl)
     exact PD.tabE_nil
   case e_NoLoader=>
    refine' PD.is_mk KX G ?zzeNoLoadera ?zzeNoLoadert
    (case zzeNoLoadera=>k_is)
    case zzeNoLoadert=>
     refine' PD.tabE_cons ?zzeNoLoader0n ?zzeNoLoader0k ?zzeNoLoader0q ?zzeNoLoader0r
     (case zzeNoLoader0n=>k_is)
     (case zzeNoLoader0k=>nofun)
     (case zzeNoLoader0q=>kernel_rfl)
     exact PD.tabE_nil
   case e_NoNeeds=>
    refine' PD.is_mk KX G ?zzeNoNeedsa ?zzeNoNeedst
    (case zzeNoNeedsa=>k_is)
    case zzeNoNeedst=>
     refine' PD.tabE_cons ?zzeNoNeeds0n ?zzeNoNeeds0k ?zzeNoNeeds0q ?zzeNoNeeds0r
     (case zzeNoNeeds0n=>k_is)
     (case zzeNoNeeds0k=>nofun)
     (case zzeNoNeeds0q=>kernel_rfl)
     exact PD.tabE_nil
   case e_NoOrder=>
    refine' PD.is_mk KX G ?zzeNoOrdera ?zzeNoOrdert
    (case zzeNoOrdera=>k_is)
    case zzeNoOrdert=>
     refine' PD.tabE_cons ?zzeNoOrder0n ?zzeNoOrder0k ?zzeNoOrder0q ?zzeNoOrder0r
     (case zzeNoOrder0n=>k_is)
     (case zzeNoOrder0k=>nofun)
     (case zzeNoOrder0q=>kernel_rfl)
     exact PD.tabE_nil
   case e_NoText=>
    refine' PD.is_mk KX G ?zzeNoTexta ?zzeNoTextt
    (case zzeNoTexta=>k_is)
    case zzeNoTextt=>
     refine' PD.tabE_cons ?zzeNoText0n ?zzeNoText0k ?zzeNoText0q ?zzeNoText0r
     (case zzeNoText0n=>k_is)
     (case zzeNoText0k=>nofun)
     (case zzeNoText0q=>kernel_rfl)
     exact PD.tabE_nil
   case e_NoWorld=>
    refine' PD.is_mk KX G ?zzeNoWorlda ?zzeNoWorldt
    (case zzeNoWorlda=>k_is)
    case zzeNoWorldt=>
     refine' PD.tabE_cons ?zzeNoWorld0n ?zzeNoWorld0k ?zzeNoWorld0q ?zzeNoWorld0r
     (case zzeNoWorld0n=>k_is)
     (case zzeNoWorld0k=>nofun)
     (case zzeNoWorld0q=>kernel_rfl)
     exact PD.tabE_nil
   case e_NotLinked=>
    refine' PD.is_mk KX G ?zzeNotLinkeda ?zzeNotLinkedt
    (case zzeNotLinkeda=>k_is)
    case zzeNotLinkedt=>
     refine' PD.tabE_cons ?zzeNotLinked0n ?zzeNotLinked0k ?zzeNotLinked0q ?zzeNotLinked0r
     (case zzeNotLinked0n=>k_is)
     (case zzeNotLinked0k=>nofun)
     (case zzeNotLinked0q=>kernel_rfl)
     exact PD.tabE_nil
   case e_TooMany=>
    refine' PD.is_mk KX G ?zzeTooManya ?zzeTooManyt
    (case zzeTooManya=>k_is)
    case zzeTooManyt=>
     refine' PD.tabE_cons ?zzeTooMany0n ?zzeTooMany0k ?zzeTooMany0q ?zzeTooMany0r
     (case zzeTooMany0n=>k_is)
     (case zzeTooMany0k=>nofun)
     (case zzeTooMany0q=>kernel_rfl)
     exact PD.tabE_nil
   case e_ValueError=>
    refine' PD.tabE_cons ?zzeValueError0n ?zzeValueError0k ?zzeValueError0q ?zzeValueError0r
    (case zzeValueError0n=>k_is)
    (case zzeValueError0k=>nofun)
    (case zzeValueError0q=>kernel_rfl)
    exact PD.tabE_nil
   case k_LoadError=>
    refine' PD.catch_mk KX G ?zzkLoadErrora ?zzkLoadErrort
    (case zzkLoadErrora=>k_is)
    case zzkLoadErrort=>
     refine' PD.catch_cons ?zzkLoadError0n ?zzkLoadError0q ?zzkLoadError0r
     (case zzkLoadError0n=>k_is)
     (case zzkLoadError0q=>kernel_rfl)
     exact PD.catch_nil
  exact PD.ok_of_fnD (base:=h) T.t_law hmg (fun f fd F base=>T08.ok_law T F) (fun _ _ _ _ _ _ u=>rfl)
end
