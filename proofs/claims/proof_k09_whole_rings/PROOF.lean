import PyProof.Rows.All
import Wide.All
import OpenK.AllK
import Wide.FinOn
import Lean
import PyProof.EqAt
import PyProof.EqKinds
import PyProof.TupleCall
import PyProof.CompFree
import PyProof.StrWalks
import PyProof.EnumMake
import PyProof.Draws
import PyProof.Rows.SetFrom
import PyProof.WalksMore
import PyProof.DictKinds
import KE.KRevIter
import KE.KSortTup
import PyProof.ListMulAny
import PyProof.FactsAll.tuple
import KE.KDictList
import PyProof.ZipIter
import PyProof.NeKinds
import KE.KIsAll
import PyProof.ConsumeWalk
import PyProof.StationsW
import PyProof.PassesOwn
import OpenK.KOwn
import KE.KTryMore
import PyProof.ExcAttrAll.ValueError
import PyProof.Rows.FStr
import PyProof.FString
import PySem.Challenge.RW_loaders_k09_whole_rings
set_option Elab.async false
set_option linter.all false
set_option maxRecDepth 100000
set_option maxHeartbeats 0
set_option hygiene false
local macro_rules
| `(#[0])=>`((by omega))
| `(#[6])=>`((hr.mono (by decide)))
| `(#[4])=>`((PXd.w qAh))
| `(#[11])=>`((toW (cst (.int 0))))
| `(#[60])=>`((s.heap.push { cls:=.type "set",dict:=none,data:=.set #[] 0 (.fresh 0 0 led) }))
| `(#[9])=>`((toW (cst (.int 1))))
| `(#[18])=>`((by push_cast only [okb]))
| `(#[15])=>`((fun _ _=>rfl))
| `(#[12])=>`((model X.prog X.w))
| `(#[14])=>`((fun h=>nomatch h))
| `(#[19])=>`((by decide +kernel))
| `(#[8])=>`((Nat.le_refl _))
| `(#[25])=>`((x == ("__debug__":Str)))
| `(#[64])=>`((FW x0 f vw dw S ws (.im (.lst (p.map unP))) (.im (unP z))))
| `(#[72])=>`((qBy X M s3 (upd H2 l (.lst [])) s3.heap.objs.size fp x x2 scope cl))
| `(#[13])=>`((by and_intros))
| `(#[61])=>`(((Pst.bind p).mono fun w B1 H1 g1 p1 v hw=>?_))
| `(#[1])=>`((wdD ls))
| `(#[42])=>`((qAc (var 0) (qAc (var 1) qAz)))
| `(#[16])=>`((toW (cst .non)))
| `(#[35])=>`((Nat.le_of_ble_eq_true rfl))
| `(#[27])=>`((toW (cst (.int 2))))
| `(#[74])=>`((qAl (qBf T) #[6] rfl (qAa (qAb 0) (qAa (qBl qA4 (qAb 1) #[4]) (qAa #[4] qAe))) rfl))
| `(#[5])=>`((by decide))
| `(#[75])=>`((qB7 X M s3 (upd H2 l (.lst [])) s3.heap.objs.size fp x scope cl))
| `(#[23])=>`((qAc (var 0) qAz))
| `(#[93])=>`(((s.heap.push (seqObj "list" #[] 0)).update s.heap.objs.size (Obj.mapSeq (·++vs.toArray))))
| `(#[73])=>`((.tup [.str k,.str n,a,.tup (fs.map D.str),.tup rs]))
| `(#[17])=>`((ss.map D.str))
| `(#[32])=>`((qA7 (qAb 0) #[4] #[15]))
| `(#[94])=>`((k == NameKind.free && X.env.scope.kind == .function && X.env.kindOf y == some .cell))
| `(#[76])=>`((.ListComp elt [⟨.Name x px,iter,ifs,0⟩] scope pos))
| `(#[36])=>`((by push_cast only [E]))
| `(#[88])=>`((PySem.W.fnOf x x (qDf st) (qB6 st) (qAg st) .none kV doc pm an cdv ct))
| `(#[48])=>`((x == ("__classdict__":Str)))
| `(#[62])=>`((qB7 X M s₀ H₀ C fp x scope cl))
| `(#[100])=>`((qAc (var 0) (qAc (qAm ixW (var 1) #[11]) (qAc (var 4) (qAc (var 5) (qAc (qAm qCr (var 2) (qAd (qAw (qBc (var 1)) qB9) qBt)) qAz))))))
| `(#[33])=>`((relabel scope X.env))
| `(#[89])=>`((qAl (qCv T) #[6] rfl (qAa (qAb 0) (qAa #[4] (qAa #[4] qAe))) rfl))
| `(#[55])=>`((qAa (qAb 0) (qAa (qAb 1) qAe)))
| `(#[22])=>`((model prog w))
| `(#[10])=>`((Addr×Obj))
| `(#[101])=>`((((sIx items.size 0 lo:Nat):Int) == 0 && (1:Int) == 1 && (sIx items.size items.size hi - sIx items.size 0 lo) == items.size))
| `(#[37])=>`((.lst (ns.map D.int)))
| `(#[38])=>`((false,eval e X.env))
| `(#[68])=>`((.im (.lst (p.map unP))))
| `(#[102])=>`((qAm ixW (var 4) (qAm qCr (qAd (qAc (qAm eqW (qAm ixW (var 4) #[11]) (toW (cst (.str "read")))) qAz) qYj) #[9])))
| `(#[39])=>`((starEach [] X.env))
| `(#[7])=>`((by simp))
| `(#[2])=>`((var 0))
| `(#[80])=>`((qBp qB1 rfl T.b_len boot_len (qAa (qAb 0) qAe)))
| `(#[97])=>`((s.heap.push { cls:=.type "tuple_iterator",data:=.fields #[.ref l,.int 0 0] }))
| `(#[51])=>`((List.mem_cons_self ..))
| `(#[52])=>`((.ref s.heap.objs.size))
| `(#[95])=>`((List.mem_append_right _ (List.mem_append_right _ (qDp hb e))))
| `(#[111])=>`((qA7 (qAb 2) (qAl (qBf T) #[6] rfl (qAa (qAb 0) (qAa (qBl qA4 (qAb 1) #[4]) (qAa (qBp qB1 rfl T.b_len boot_len (qAa (qAb 2) qAe)) qAe))) rfl) #[15]))
| `(#[26])=>`((Grow.refl hs))
| `(#[43])=>`((fun _=>.ok true))
| `(#[96])=>`((fun B0 F0 P B H σ δ Q r p s₀ H₀ C fp cl pins s I=>?_))
| `(#[112])=>`((thn (qC5 hN hvi hd hcd pins s σ H (fun v H'=>v=.ref a∧H'=H) I ⟨_,ea,rfl,rfl⟩) fun iv s2 ⟨y,H2,I2,ry,ey,eH⟩=>Calls.spliced_nil ?_))
| `(#[103])=>`(((s.heap.update a (Obj.mapSeq fun _=>(#[]:Array Value))).push (seqObj "tuple" vs.toArray 0)))
| `(#[118])=>`((wpAny_attempt (wpAny_callSpecial?_slot (name:=Str.ofString "__next__") it.typeIs PySem.F.slot_dict_keyiterator_next (wpAny_call_entry PySem.F.slot_dict_keyiterator_next it.typeIs PySem.F.entry_dict_keyiterator_next ?b (PySem.F.args_dict_keyiterator_next_1 _)))))
| `(#[3])=>`((unP x))
| `(#[31])=>`((some (.ref a)))
| `(#[65])=>`((by with_unfolding_all rfl))
| `(#[69])=>`((qBw (toW (cst (.bl false)))))
| `(#[44])=>`((Grow.refl g1.bh))
| `(#[104])=>`((.ListComp elt [⟨.Tuple [.Name x px,.Name x2 pz] kz tpos,iter,ifs,0⟩] scope pos))
| `(#[90])=>`((if ([]:List Keyword).isEmpty then 0 else 1))
| `(#[29])=>`((.int (i:Int)))
| `(#[105])=>`((s2.heap.push { cls:=.type "list",dict:=none,data:=.seq ([]:List Value).toArray }))
| `(#[81])=>`((qBy X M s₀ H₀ C fp x x2 scope cl))
| `(#[53])=>`((toW (cst (.int 4))))
| `(#[113])=>`((qB4 (qAd (qAo qCe 2 (qAc #[2] (qAc (qAm ixW (var 2) (var 3)) qAz))) W.walk) (qAd (qAm qE4 #[2] (var 3)) W.bool) (qBc #[2])))
| `(#[106])=>`((qAc (qB4 (qAd (var 6) W.walk) #[43] (qBc (qAo qBr 2 (qAc (var 3) #[23])))) qAz))
| `(#[45])=>`((Heap.lt_size e))
| `(#[119])=>`((code_set_new_1 (.ref l) (E:=E) (Q₁:=fun obj s₁=>∃ led:Bool,obj=.ref s.heap.objs.size∧s₁={ s with heap:=s.heap.push { cls:=.type "set",dict:=none,data:=.set #[] 0 (.fresh 0 0 led) } }) fun led=>⟨led,rfl,rfl⟩))
| `(#[77])=>`((backTo pos (starEach es X.env)))
| `(#[114])=>`((qAm qCr (qAd (qAw (qAd (qAw (qBc (qAm ixW #[2] #[27])) (qAw (cst (.str "class")) qB9)) qB0) qB9) qBt) (var 1)))
| `(#[20])=>`((qA8 ls x))
| `(#[24])=>`((S.map unP))
| `(#[30])=>`((.im (unP z)))
| `(#[107])=>`((fun z hz=>qHw I hu1 hc.1 (h1.dat hs) rx e3' r hc.2 z (by simpa using hz)))
| `(#[82])=>`((.Call (.Name x p) (e::es) [] pos))
| `(#[40])=>`((qCg (qG3 hr)))
| `(#[66])=>`((qA7 (qAb 1) #[4] #[15]))
| `(#[91])=>`((backToKw cpos (keywordEach [] X.env)))
| `(#[56])=>`((show vs=[] from h))
| `(#[83])=>`((kvs.any fun kv=>decide (kv.1=k)))
| `(#[98])=>`((.tup [.str k,.str x.2,a,.tup (fs.map D.str),.tup rs]))
| `(#[57])=>`((.tup (ls.map ldD)))
| `(#[63])=>`((toW (cst (.int 3))))
| `(#[108])=>`((PySem.W.kla_fn "<lambda>" qual params body scope [(y,cw)] pm cdv ctv))
| `(#[115])=>`(((items.toList.drop (sIx items.size 0 lo)).take (sIx items.size items.size hi - sIx items.size 0 lo)))
| `(#[47])=>`((fun _=>qBg ?_))
| `(#[84])=>`((ks.any fun kv=>decide (kv.1=k)))
| `(#[67])=>`((ha pins s σ H _ I h))
| `(#[49])=>`((Grow.refl r.bh))
| `(#[92])=>`(((prs ls ls.length).filter (isF ls)))
| `(#[34])=>`((qBc (var 5)))
| `(#[78])=>`((Heap.get?_push_of_some _ e))
| `(#[58])=>`((fun z=>nomatch z))
| `(#[116])=>`((fun r s'=>r=.ok (.ret (.bool true))∧OldK s₁.heap s'.heap∧s'.os=s₁.os∧AllBare s'.gens))
| `(#[85])=>`((false,eval (.Name x p2) X.env))
| `(#[70])=>`((qAj (qAp (PXd.w qEt))))
| `(#[54])=>`((qAa (qAb 0) qAe))
| `(#[71])=>`((qA7 (qAb 2) #[4] #[15]))
| `(#[79])=>`((apos.endLine == cpos.line))
| `(#[28])=>`((PXd.w qBu))
| `(#[117])=>`((Pst.mono (show Pst Ew B1 H1 _ (gb δ) from p1) fun w B' H' _ q v hw=>q v (hw.older g1.sh)))
| `(#[99])=>`(((Pst.bind p).mono fun ws B1 H1 g1 p1 vs hw=>?_))
| `(#[109])=>`((E (.im #[3]) (.own ((L0++[z]).map unP)) (.own (R'.map unP))))
| `(#[50])=>`((Nat.zero_le _))
| `(#[59])=>`((ds.drop (i + 1)))
| `(#[41])=>`((List Key×V))
| `(#[21])=>`((.str nm))
| `(#[86])=>`((seqObj "list" vs.toArray 0))
| `(#[87])=>`((FW x0 f vw dw S ws #[68] b))
| `(#[46])=>`(((j:Int),q.1))
| `(#[110])=>`((List.toArray (p.toList.map fun i=>vs.getD i Value.none)))
set_option hygiene true
noncomputable section
namespace L2
open PySem PySem.Spec PyProof.Rows
abbrev Key:=Sum Int Str
def qRd:Key→Value→Bool
 | .inl k,v=>Value.isInt k v
 | .inr x,v=>Value.isStrOf x v
def keyH (w:World):Key→Int
 | .inl k=>hashInt k
 | .inr x=>hashStr w x
theorem qB2:∀ {k:Key} {v:Value},qRd k v=true→(∃ i t,k=Sum.inl i∧v=Value.int i t)∨(∃ x t,k=Sum.inr x∧v=Value.str x t)
 | .inl i,v,h=>by
  obtain ⟨t,e⟩:=Value.isInt_shape (k:=i) (v:=v) h
  exact .inl ⟨i,t,rfl,e⟩
 | .inr x,v,h=>by
  obtain ⟨t,e⟩:=Value.isStrOf_shape (x:=x) (v:=v) h
  exact .inr ⟨x,t,rfl,e⟩
theorem qWx (i:Int)(t:Tok):qRd (.inl i) (.int i t)=true:=by simp [qRd,Value.isInt]
theorem qWw (x:Str)(t:Tok):qRd (.inr x) (.str x t)=true:=by simp [qRd,Value.isStrOf]
theorem key_ll (a b:Int):decide ((Sum.inl a:Key)=Sum.inl b)=(a == b):=by
 by_cases e:a=b
 ·subst e;simp
 ·have h:¬ (Sum.inl a:Key)=Sum.inl b:=fun q=>e (Sum.inl.inj q)
  rw [decide_eq_false h]
  exact (beq_eq_false_iff_ne.mpr e).symm
theorem key_rr (a b:Str):decide ((Sum.inr a:Key)=Sum.inr b)=decide (a=b):=by
 by_cases e:a=b
 ·subst e;simp
 ·have h:¬ (Sum.inr a:Key)=Sum.inr b:=fun q=>e (Sum.inr.inj q)
  rw [decide_eq_false h,decide_eq_false e]
theorem key_lr (a:Int)(b:Str):decide ((Sum.inl a:Key)=Sum.inr b)=false:=decide_eq_false (fun q=>nomatch q)
theorem key_rl (a:Str)(b:Int):decide ((Sum.inr a:Key)=Sum.inl b)=false:=decide_eq_false (fun q=>nomatch q)
def qCh (prog:Program)(w:World):PySem.KeyKind prog w Key where
 is:=qRd
 hash:=keyH w
 inj:=fun v a b ha hb=>by
  rcases qB2 ha with ⟨i,t,rfl,rfl⟩ | ⟨x,t,rfl,rfl⟩
  ·rcases qB2 hb with ⟨j,u,rfl,e⟩ | ⟨y,u,rfl,e⟩
   ·injection e with e1 _;rw [e1]
   ·exact nomatch e
  ·rcases qB2 hb with ⟨j,u,rfl,e⟩ | ⟨y,u,rfl,e⟩
   ·exact nomatch e
   ·injection e with e1 _;rw [e1]
 byValue:=fun k v h=>by
  rcases qB2 h with ⟨i,t,rfl,rfl⟩ | ⟨x,t,rfl,rfl⟩ <;> rfl
 pyHash:=fun hv h=>by
  rcases qB2 hv with ⟨i,t,rfl,rfl⟩ | ⟨x,t,rfl,rfl⟩
  ·exact wpAny_pyHash_int h
  ·exact wpAny_pyHash_str h
 eqBool:=fun hu hv h=>by
  rcases qB2 hu with ⟨i,t,rfl,rfl⟩ | ⟨x,t,rfl,rfl⟩
  ·rcases qB2 hv with ⟨j,u,rfl,rfl⟩ | ⟨y,u,rfl,rfl⟩
   ·rw [key_ll] at h;exact wpAny_eqBool_int h
   ·rw [key_lr] at h;exact SeqAt.EqAt.int_str i t y u _ _ _ _ h
  ·rcases qB2 hv with ⟨j,u,rfl,rfl⟩ | ⟨y,u,rfl,rfl⟩
   ·rw [key_rl] at h;exact SeqAt.EqAt.str_int x t j u _ _ _ _ h
   ·rw [key_rr] at h;exact wpAny_eqBool_str h
 «strs»:=fun k x t v h=>by
  rcases qB2 h with ⟨i,u,rfl,e⟩ | ⟨y,u,rfl,e⟩
  ·exact nomatch e
  ·injection e with e1 _
   subst e1
   cases v <;> rfl
theorem qQ8 (prog:Program)(w:World)(i:Int)(t:Tok):(qCh prog w).is (.inl i) (.int i t)=true:=qWx i t
theorem qQ7 (prog:Program)(w:World)(x:Str)(t:Tok):(qCh prog w).is (.inr x) (.str x t)=true:=qWw x t
open PySem PySem.Spec PyProof.Rows
inductive V where
 | non | bl (b:Bool) | int (i:Int) | str (x:Str) | byt (b:Array UInt8) | flt (b:UInt64) | ref (a:Addr) | ty (n:String)
 deriving DecidableEq
def RelV:V→Value→Prop
 | .non,u=>u=Value.none
 | .bl b,u=>u=Value.bool b
 | .int i,u=>∃ t,u=Value.int i t
 | .str x,u=>∃ t,u=Value.str x t
 | .byt b,u=>∃ t,u=Value.bytes b t
 | .flt b,u=>∃ t,u=Value.float b t
 | .ref a,u=>u=Value.ref a
 | .ty n,u=>u=Value.type n
abbrev qBv:List V→List Value→Prop:=Paired RelV
theorem qBv.length {xs:List V}{us:List Value}(r:qBv xs us):xs.length=us.length:=Paired.length r
theorem qBv.get:∀ {xs:List V} {us:List Value} {i:Nat} {x:V},qBv xs us→xs[i]?=some x→∃ u,us[i]?=some u∧RelV x u
 | _,_,_,_,.nil,e=>by simp at e
 | _,_,0,_,.cons r _,e=>by simp at e;subst e;exact ⟨_,rfl,r⟩
 | _,_,i + 1,x,.cons _ t,e=>by
  obtain ⟨u,h1,h2⟩:=qBv.get (i:=i) (x:=x) t (by simpa using e)
  exact ⟨u,by simpa using h1,h2⟩
theorem qBv.set {x:V}{u:Value}(r:RelV x u):∀ {xs:List V} {us:List Value} (i:Nat),qBv xs us→qBv (xs.set i x) (us.set i u)
 | _,_,_,.nil=>.nil
 | _,_,0,.cons _ t=>.cons r t
 | _,_,i + 1,.cons q t=>.cons q (qBv.set r i t)
theorem qBv.append:∀ {xs ys:List V} {us ws:List Value},qBv xs us→qBv ys ws→qBv (xs++ys) (us++ws)
 | _,_,_,_,.nil,s=>s
 | _,_,_,_,.cons r t,s=>.cons r (qBv.append t s)
theorem qBv.take:∀ {xs:List V} {us:List Value} (n:Nat),qBv xs us→qBv (xs.take n) (us.take n)
 | _,_,0,_=>.nil
 | _,_,_ + 1,.nil=>.nil
 | _,_,n + 1,.cons r t=>.cons r (qBv.take n t)
theorem qBv.drop:∀ {xs:List V} {us:List Value} (n:Nat),qBv xs us→qBv (xs.drop n) (us.drop n)
 | _,_,0,r=>r
 | _,_,_ + 1,.nil=>.nil
 | _,_,n + 1,.cons _ t=>qBv.drop n t
def qYm:Option V→Option Value→Prop
 | some v,some u=>RelV v u
 | none,none=>True
 | _,_=>False
def KV {κ:Type}:List (κ×V)→List (κ×Value)→Prop:=Paired fun (p:κ×V) (q:κ×Value)=>p.1=q.1∧RelV p.2 q.2
def kV:Key→V
 | .inl i=>.int i
 | .inr x=>.str x
inductive HO where
 | lst (xs:List V)
 | tup (xs:List V)
 | dK (kvs:List (Key×V)) | dT (kvs:List (List Key×V))
 | set (S:Int→Bool) (n:Nat)
 | ins (C dx:Addr) (fs:List (Str×V))
 | own (x:Addr)
 | xd (fs:List (Str×V))
 | met (f x:Addr)
 | rng (lo hi:Int)
 | frz (o:Obj) (u:HO)
 | tab (q:Str)
 | ext (φ:Heap→Prop)
abbrev Hp:=Addr→Option HO
def upd (H:Hp)(a:Addr)(o:HO):Hp:=fun b=>if b=a then some o else H b
theorem qAu {H:Hp}{a:Addr}{o:HO}:upd H a o a=some o:=by unfold upd;rw [if_pos rfl]
theorem qAr {H:Hp}{a b:Addr}{o:HO}(h:b≠a):upd H a o b=H b:=by unfold upd;rw [if_neg h]
theorem ne_of {H:Hp}{a b:Addr}{o u:HO}(h:H a=some o)(h':H b=some u)(d:o≠u):a≠b:=by
 intro e;subst e;rw [h] at h';exact d (Option.some.inj h')
theorem qAn {H:Hp}{a b:Addr}{o:HO}(h:H a=some o)(h':H b=none):a≠b:=by
 intro e;subst e;rw [h] at h';cases h'
section
variable (P:Program)(w:World)
def qB8 (H:Hp)(h:Heap)(a:Addr):HO→Prop
 | .lst xs=>xs.length≤sizeLine∧∃ (its:List Value) (n:Nat),qBv xs its∧h.get? a=some { cls:=.type "list",data:=.seq its.toArray n }
 | .tup xs=>xs.length≤sizeLine∧∃ its:List Value,qBv xs its∧IsTup h a its.toArray
 | .dK kvs=>kvs.length≤sizeLine∧(a == sysModules)=false∧∃ vs,KV kvs vs∧h.DictOf (qCh P w) a vs
 | .dT kvs=>kvs.length≤sizeLine∧(a == sysModules)=false∧∃ xs:List (List Key×Addr×Value),
   Paired (fun (p:List Key×V) (q:List Key×Addr×Value)=>p.1=q.1∧H q.2.1=some (.tup (p.1.map kV))∧RelV p.2 q.2.2) kvs xs∧
   ∃ o es ep,h.get? a=some o∧o.ExactDict∧o.data=.dict es ep∧es.toList=xs.map (entryOfKey (tupleKind (qCh P w)))∧(xs.map (·.1)).Nodup
 | .set S n=>h.SetOf (intKind P w) a S n
 | .ins C dx fs=>H dx=some (.own a)∧fs.length≤1000∧dx≠a∧h.get? a=some (PySem.W.instObj C dx)∧
   ∃ mA,h.Ns1 dx mA∧(∀ f,qYm (fs.lookup f) (mA f))∧PySem.Within mA (fs.map (·.1))
 | .own _=>∃ o,h.get? a=some o
 | .xd fs=>∃ mA,h.Ns1 a mA∧∀ f,qYm (fs.lookup f) (mA f)
 | .rng lo hi=>∃ t u v,h.get? a=some { cls:=.type "range",data:=.fields #[.int lo t,.int hi u,.int 1 v] }
 | .frz o u=>h.get? a=some o∧qB8 H h a u
 | .tab q=>∃ ps:Array Value,h.get? a=some { cls:=.none,data:=.fields ps }∧TriplesOk ps.toList∧∀ pos v,codeAmong pos ps.toList=some v→∃ c oc vs t,v=.ref c∧H c=some (.frz oc (.own a))∧oc.data=.fields vs∧vs[1]?=some (.str q t)
 | .met f x=>h.get? a=some (PySem.W.methodObj (.ref f) (.ref x))
 | .ext φ=>φ h∧(∃ o,h.get? a=some o)∧∀ h1 h2:Heap,φ h1→(∀ o,h1.get? a=some o→h2.get? a=some o)→φ h2
def HOk (H:Hp)(h:Heap):Prop:=∀ a o,H a=some o→qB8 P w H h a o
end
section
variable {P:Program}{w:World}{H H':Hp}{h h':Heap}{a:Addr}{o:HO}
theorem qB8.lt (x:qB8 P w H h a o):a < h.objs.size:=by
 cases o with
 | lst xs=>obtain ⟨_,_,_,_,e⟩:=x;exact Heap.lt_size e
 | tup xs=>obtain ⟨_,_,_,p⟩:=x;exact p.lt
 | dK kvs=>obtain ⟨_,_,_,_,o,_,_,e,_⟩:=x;exact Heap.lt_size e
 | dT kvs=>obtain ⟨_,_,_,_,o,_,_,e,_⟩:=x;exact Heap.lt_size e
 | set S n=>obtain ⟨o,_,_,_,e,_⟩:=x;exact Heap.lt_size e
 | ins C dx fs=>obtain ⟨_,_,_,e,_⟩:=x;exact Heap.lt_size e
 | own y=>obtain ⟨_,e⟩:=x;exact Heap.lt_size e
 | xd fs=>obtain ⟨_,⟨_,_,_,e,_⟩,_⟩:=x;exact Heap.lt_size e
 | rng lo hi=>obtain ⟨_,_,_,e⟩:=x;exact Heap.lt_size e
 | frz ob u=>obtain ⟨e,_⟩:=x;exact Heap.lt_size e
 | tab q=>obtain ⟨_,e,_⟩:=x;exact Heap.lt_size e
 | met f y=>exact Heap.lt_size (show h.get? a=some _ from x)
 | ext φ=>obtain ⟨_,⟨_,e⟩,_⟩:=x;exact Heap.lt_size e
theorem Paired.mapP {α β:Type}{F G:α→β→Prop}:∀ {l₁:List α} {l₂:List β},Paired F l₁ l₂→(∀ a b,F a b→G a b)→Paired G l₁ l₂
 | _,_,.nil,_=>.nil
 | _,_,.cons r t,f=>.cons (f _ _ r) (Paired.mapP t f)
theorem qB8.stay (x:qB8 P w H h a o)(k:∀ b u,(b=a∨H b=some (.own a))→h.get? b=some u→h'.get? b=some u)
  (ho:∀ b,H b=some (.own a)→H' b=some (.own a)) (ht:∀ b xs,H b=some (.tup xs)→H' b=some (.tup xs)) (hz:∀ b u,H b=some (.frz u (.own a))→H' b=some (.frz u (.own a))):qB8 P w H' h' a o:=by
 induction o with
 | lst xs=>obtain ⟨z,its,n,r,e⟩:=x;exact ⟨z,its,n,r,k _ _ (.inl rfl) e⟩
 | tup xs=>obtain ⟨z,its,r,ob,e,c⟩:=x;exact ⟨z,its,r,ob,k _ _ (.inl rfl) e,c⟩
 | dK kvs=>obtain ⟨z,y,vs,r,ob,es,ep,e,c⟩:=x;exact ⟨z,y,vs,r,ob,es,ep,k _ _ (.inl rfl) e,c⟩
 | dT kvs=>
  obtain ⟨z,y,xs,r,ob,es,ep,e,c⟩:=x
  exact ⟨z,y,xs,Paired.mapP r fun p q z=>⟨z.1,ht _ _ z.2.1,z.2.2⟩,ob,es,ep,k _ _ (.inl rfl) e,c⟩
 | set S n=>obtain ⟨ob,es,ep,t,e,c⟩:=x;exact ⟨ob,es,ep,t,k _ _ (.inl rfl) e,c⟩
 | ins C dx fs=>
  obtain ⟨d,z,ne,e,mA,⟨od,es,ep,e2,c⟩,r⟩:=x
  exact ⟨ho _ d,z,ne,k _ _ (.inl rfl) e,mA,⟨od,es,ep,k _ _ (.inr d) e2,c⟩,r⟩
 | own y=>obtain ⟨ob,e⟩:=x;exact ⟨ob,k _ _ (.inl rfl) e⟩
 | xd fs=>obtain ⟨mA,⟨od,es,ep,e,c⟩,r⟩:=x;exact ⟨mA,⟨od,es,ep,k _ _ (.inl rfl) e,c⟩,r⟩
 | rng lo hi=>obtain ⟨t,u,v,e⟩:=x;exact ⟨t,u,v,k _ _ (.inl rfl) e⟩
 | frz ob u ih=>obtain ⟨e,q⟩:=x;exact ⟨k _ _ (.inl rfl) e,ih q⟩
 | tab q=>
  obtain ⟨ps,e,t,z⟩:=x
  refine ⟨ps,k _ _ (.inl rfl) e,t,fun pos v e=>?_⟩
  obtain ⟨c,oc,vs,tk,y1,y2,y3⟩:=z pos v e
  exact ⟨c,oc,vs,tk,y1,hz _ _ y2,y3⟩
 | met f y=>
  have e:h.get? a=some (PySem.W.methodObj (.ref f) (.ref y)):=x
  show h'.get? a=some (PySem.W.methodObj (.ref f) (.ref y))
  exact k a _ (.inl rfl) e
 | ext φ=>obtain ⟨p,⟨o,e⟩,st⟩:=x;exact ⟨st _ _ p fun o q=>k _ _ (.inl rfl) q,⟨o,k _ _ (.inl rfl) e⟩,st⟩
theorem HOk.lt (x:HOk P w H h)(e:H a=some o):a < h.objs.size:=(x a o e).lt
theorem HOk.fresh (x:HOk P w H h)(e:h.objs.size≤a):H a=none:=by
 cases q:H a with
 | none=>rfl
 | some u=>exact absurd (Nat.lt_of_lt_of_le (x.lt q) e) (Nat.lt_irrefl _)
theorem HOk.kept (x:HOk P w H h)(k:∀ b u,h.get? b=some u→h'.get? b=some u):HOk P w H h':=fun a o e=>
 (x a o e).stay (fun b u _ q=>k b u q) (fun _ q=>q) (fun _ _ q=>q) fun _ _ q=>q
theorem HOk.laid (x:HOk P w H h)(k:∀ b u,h.get? b=some u→h'.get? b=some u)(hp:h.objs.size≤a)(new:qB8 P w (upd H a o) h' a o):HOk P w (upd H a o) h':=fun b u e=>by
 have hn:=x.fresh hp
 by_cases hb:b=a
 ·subst hb;rw [qAu] at e;cases e;exact new
 ·rw [qAr hb] at e
  exact (x b u e).stay (fun c v _ q=>k c v q) (fun c q=>by rw [qAr (qAn q hn)];exact q) (fun c xs q=>by rw [qAr (qAn q hn)];exact q) fun c xs q=>by rw [qAr (qAn q hn)];exact q
end
def Rd (H:Hp)(a:Addr)(u:HO):Prop:=H a=some u∨∃ o,H a=some (.frz o u)
theorem Rd.of {H:Hp}{a:Addr}{u:HO}(h:H a=some u):Rd H a u:=.inl h
theorem Rd.ok {P:Program}{w:World}{H:Hp}{h:Heap}{a:Addr}{u:HO}(r:Rd H a u)(x:HOk P w H h):qB8 P w H h a u:=by
 rcases r with r | ⟨o,r⟩
 ·exact x a u r
 ·obtain ⟨_,q⟩:=x a _ r
  exact q
def Mut:Option HO→Prop
 | some (.lst _)=>True
 | some (.dK _)=>True
 | some (.dT _)=>True
 | some (.set _ _)=>True
 | some (.ins _ _ _)=>True
 | some (.ext _)=>True
 | _=>False
section
variable {P:Program}{w:World}{H:Hp}{h h':Heap}{x e:Addr}{o':HO}
theorem HOk.write (ok:HOk P w H h)(mu:Mut (H x))(he:e=x∨H e=some (.own x))(k:∀ b u,b≠e→h.get? b=some u→h'.get? b=some u)(heo:∃ u,h'.get? e=some u)
  (new:qB8 P w (upd H x o') h' x o'):HOk P w (upd H x o') h':=fun b u q=>by
 have nown:∀ c y,H c=some (.own y)→c≠x:=fun c y r z=>by subst z;rw [r] at mu;exact mu
 have ntup:∀ c xs,H c=some (.tup xs)→c≠x:=fun c xs r z=>by subst z;rw [r] at mu;exact mu
 have nfrz:∀ c u v,H c=some (.frz u v)→c≠x:=fun c u v r z=>by subst z;rw [r] at mu;exact mu
 by_cases hb:b=x
 ·subst hb;rw [qAu] at q;cases q;exact new
 ·rw [qAr hb] at q
  by_cases hbe:b=e
  ·have q':H b=some (.own x):=by
    rcases he with z | z
    ·exact absurd (hbe.trans z) hb
    ·rw [hbe];exact z
   rw [q] at q';cases q'
   obtain ⟨v,hv⟩:=heo
   exact ⟨v,by rw [hbe];exact hv⟩
  ·refine (ok b u q).stay (fun c v hc r=>k c v ?_ r) (fun c r=>by rw [qAr (nown c b r)];exact r) (fun c xs r=>by rw [qAr (ntup c xs r)];exact r) fun c v r=>by rw [qAr (nfrz c v _ r)];exact r
   rcases hc with rfl | hc
   ·exact hbe
   ·rintro rfl
    rcases he with z | z
    ·exact nown c b hc z
    ·rw [hc] at z;cases z;exact hb rfl
end
structure Un (fs ex:List Addr) (H H':Hp) (h h':Heap):Prop where
 keep:∀ b o,h.get? b=some o→H b=none→b∉fs→b∉ex→h'.get? b=some o
 slot:∀ b o,h.get? b=some o→H b=none→b∈fs→b∉ex→∃ sl,h'.get? b=some { o with slots:=sl }
 free:∀ b o,h.get? b=some o→H b=none→b∉ex→H' b=none
 there:∀ b o,h.get? b=some o→b∉ex→∃ o',h'.get? b=some o'
 tups:∀ b xs,H b=some (.tup xs)→H' b=some (.tup xs)
 frzs:∀ b o u,H b=some (.frz o u)→H' b=some (.frz o u)
 tbls:∀ b q,H b=some (.tab q)→H' b=some (.tab q)
section
variable {fs fs' ex ex':List Addr}{H H1 H2:Hp}{h h1 h2 h':Heap}{a x e:Addr}{o:HO}
theorem Un.any (u:Un fs ex H H1 h h1){b:Addr}{ob:Obj}(q:h.get? b=some ob)(n:H b=none)(hx:b∉ex):∃ sl,h1.get? b=some { ob with slots:=sl }:=by
 by_cases hb:b∈fs
 ·exact u.slot b ob q n hb hx
 ·exact ⟨ob.slots,u.keep b ob q n hb hx⟩
theorem Un.trans (a:Un fs ex H H1 h h1)(b:Un fs ex H1 H2 h1 h2):Un fs ex H H2 h h2 where
 keep:=fun c ob q n hc hx=>b.keep c ob (a.keep c ob q n hc hx) (a.free c ob q n hx) hc hx
 slot:=fun c ob q n hc hx=>by
  obtain ⟨sl,e1⟩:=a.slot c ob q n hc hx
  obtain ⟨sl',e2⟩:=b.slot c _ e1 (a.free c ob q n hx) hc hx
  exact ⟨sl',e2⟩
 free:=fun c ob q n hx=>by
  obtain ⟨o',e1⟩:=a.there c ob q hx
  exact b.free c o' e1 (a.free c ob q n hx) hx
 there:=fun c ob q hx=>by
  obtain ⟨o',e1⟩:=a.there c ob q hx
  exact b.there c o' e1 hx
 tups:=fun c xs q=>b.tups c xs (a.tups c xs q)
 frzs:=fun c ob xs q=>b.frzs c ob xs (a.frzs c ob xs q)
 tbls:=fun c ps q=>b.tbls c ps (a.tbls c ps q)
theorem Un.kept (k:∀ b u,h.get? b=some u→h'.get? b=some u):Un fs ex H H h h':=
 ⟨fun b ob q _ _ _=>k b ob q,fun b ob q _ _ _=>⟨ob.slots,k b ob q⟩,fun _ _ _ n _=>n,fun b ob q _=>⟨ob,k b ob q⟩,fun _ _ q=>q,fun _ _ _ q=>q,fun _ _ q=>q⟩
theorem Un.refl:Un fs ex H H h h:=Un.kept fun _ _ q=>q
theorem Un.laid (k:∀ b u,h.get? b=some u→h'.get? b=some u)(hp:h.objs.size≤a)(hn:H a=none):Un fs ex H (upd H a o) h h' where
 keep:=fun b u q _ _ _=>k b u q
 slot:=fun b u q _ _ _=>⟨u.slots,k b u q⟩
 free:=fun b u q n _=>by rw [qAr (Nat.ne_of_lt (Nat.lt_of_lt_of_le (Heap.lt_size q) hp))];exact n
 there:=fun b u q _=>⟨u,k b u q⟩
 tups:=fun b xs q=>by rw [qAr (qAn q hn)];exact q
 frzs:=fun b u xs q=>by rw [qAr (qAn q hn)];exact q
 tbls:=fun b ps q=>by rw [qAr (qAn q hn)];exact q
theorem Un.write (mu:Mut (H x))(he:e=x∨H e=some (.own x))(k:∀ b u,b≠e→h.get? b=some u→h'.get? b=some u)(heo:∃ u,h'.get? e=some u):Un fs ex H (upd H x o) h h':=by
 have hx:∀ b,H b=none→b≠x:=fun b n z=>by subst z;rw [n] at mu;exact mu
 have hb:∀ b,H b=none→b≠e:=fun b n z=>by
  subst z
  rcases he with r | r
  ·exact hx b n r
  ·rw [n] at r;cases r
 have hm:∀ b u,H b=some u→¬ Mut (some u)→b≠x:=fun b u q nm z=>by subst z;rw [q] at mu;exact nm mu
 refine ⟨fun b u q n _ _=>k b u (hb b n) q,fun b u q n _ _=>⟨u.slots,k b u (hb b n) q⟩,fun b u q n _=>by rw [qAr (hx b n)];exact n,fun b u q _=>?_,
  fun b xs q=>by rw [qAr (hm b _ q fun z=>z)];exact q,fun b u xs q=>by rw [qAr (hm b _ q fun z=>z)];exact q,fun b ps q=>by rw [qAr (hm b _ q fun z=>z)];exact q⟩
 by_cases hbe:b=e
 ·subst hbe;exact heo
 ·exact ⟨u,k b u hbe q⟩
theorem Un.mono (u:Un fs ex H H1 h h1)(hs:∀ b∈fs,b∈fs')(hx:∀ b∈ex,b∈ex'):Un fs' ex' H H1 h h1:=
 ⟨fun b ob q n hb he=>u.keep b ob q n (fun z=>hb (hs b z)) fun z=>he (hx b z),fun _ _ q n _ he=>u.any q n fun z=>he (hx _ z),fun b ob q n he=>u.free b ob q n fun z=>he (hx b z),fun b ob q he=>u.there b ob q fun z=>he (hx b z),u.tups,u.frzs,u.tbls⟩
end
def trk (h:Heap)(H:Hp):List Addr:=(List.range h.objs.size).filter fun a=>(H a).isSome
def qag (h:Heap)(H:Hp):Heap:=PySem.W.hideAll h (trk h H)
theorem qW8 (h:Heap)(H:Hp):(qag h H).objs.size=h.objs.size:=PySem.W.hideAll_size _ _
theorem qSq {h:Heap}{H:Hp}{b:Addr}{o:Obj}(e:h.get? b=some o)(n:H b=none):(qag h H).get? b=some o:=
 PySem.W.hideAll_get _ e fun hm=>by
  have q:(H b).isSome=true:=(List.mem_filter.mp hm).2
  rw [n] at q;simp at q
theorem qdo {h:Heap}{H:Hp}{b:Addr}{o:Obj}(e:(qag h H).get? b=some o):h.get? b=some o∧H b=none:=by
 have e':h.get? b=some o:=PySem.W.of_hideAll (trk h H) e
 refine ⟨e',?_⟩
 cases q:H b with
 | none=>rfl
 | some x=>
  have hm:b∈trk h H:=List.mem_filter.mpr ⟨List.mem_range.mpr (Heap.lt_size e'),by simp [q]⟩
  have z:(qag h H).get? b=none:=PySem.W.hideAll_none (trk h H) hm
  rw [z] at e;cases e
def qes (g h:Heap)(L:Addr):List #[10]:=(List.range h.objs.size).filterMap fun a=>if a=L∨(g.get? a).isSome=true then none else (h.get? a).map fun o=>(a,o)
def qFw (g h:Heap)(L d:Addr):List #[10]:=(qes g h L).filter fun p=>decide (p.1≠d)
open PySem PySem.Spec PyProof.Rows
def qDa:List Str:=["kinds","needed","ring_at","loader_read","read"]
def qYh (x:Str):Str:=x++".<locals>."++"<lambda>"
def qa4 (K:PySem.W.Frag)(H:Hp):Prop:=∀ x c P,x∈qDa→PySem.W.tabIn K x=some (c,P)→H P=some (.tab (qYh x))
structure Mod (K:PySem.W.Frag) (mg:Str→Option Value) (base:Heap):Prop where
 kin:K.In base
 glob:base.Ns mainGlobals mg
 blt:∃ mb,base.Ns builtinsNs mb∧∀ x:Str,x≠"__name__"→mb x=bootBuiltins x
 nolimit:base.NoLimit
 bm:∃ (bm:Addr) (ob:Obj),mg "__builtins__"=some (.ref bm)∧bm≠builtinsNs∧base.get? bm=some ob∧ob.cls=.type "module"∧ob.dict=some builtinsNs∧ob.data=.plain
 code:∀ x c P,x∈qDa→PySem.W.tabIn K x=some (c,P)→PySem.W.CodeHd base c P
structure Cx where
 prog:Program
 w:World
 K:PySem.W.Frag
 mg:Str→Option Value
 base:Heap
 A:Around
 N:List Str
 s₀:Shared
 H₀:Hp
 env:Env
 outer:List Env
 stack:List Env
 ex:List Addr
 fn:Str→Bool
 calm:Bool
 pn:List #[10]
 xe:Value→Shared→Prop
def frs (l:List Env):List Addr:=l.filterMap (·.frame)
abbrev Cx.fs (X:Cx):List Addr:=frs X.outer
def Vis (sc:Scope)(x:Str):Prop:=sc.names.lookup x=some .local∨sc.names.lookup x=some .cell∨sc.names.lookup x=some .free
def Loc (sc:Scope)(x:Str):Prop:=sc.names.lookup x=some .local∨sc.names.lookup x=some .cell
def Look (env:Env)(h:Heap)(m:Str→Option Value)(x:Str)(u:Value):Prop:=
 (env.kindOf x=some .local∧m x=some u)∨((env.kindOf x=some .cell∨env.kindOf x=some .free)∧∃ c,env.cells.lookup x=some c∧h.IsCell c (some u))
structure Cx.Ok (X:Cx):Prop where
 mod:Mod X.K X.mg X.base
 kind:X.env.scope.kind=.function
 glob:X.env.globals=mainGlobals
 blt:X.env.builtins=builtinsNs
 above:X.s₀.heap.objs.size≤X.env.locals
 inj:∀ x y c,X.env.cells.lookup x=some c→X.env.cells.lookup y=some c→x=y
 has:∀ x,(X.env.kindOf x=some .cell∨X.env.kindOf x=some .free)→∃ c,X.env.cells.lookup x=some c
 cab:∀ x c,X.fn x=true→X.env.cells.lookup x=some c→X.s₀.heap.objs.size≤c
 hd:X.calm=true→X.A.handled=none
 frames:X.A.frames=some X.stack
 stk:X.stack=X.outer∨(X.stack=X.env::X.outer∧X.env.frame=some X.env.locals)
 exf:∀ b∈X.ex,b≠X.env.locals∧∀ x c,X.env.cells.lookup x=some c→c≠b
 bs:∀ b o,X.base.get? b=some o→X.s₀.heap.get? b=some o∧X.H₀ b=none
 bsz:X.base.objs.size≤X.s₀.heap.objs.size
 noex:∀ b o,X.base.get? b=some o→b∉X.ex
 exfs:∀ b∈X.ex,b∉X.fs
 funs:X.s₀.heap.FunFrames X.base X.outer
 frf:∀ b∈X.fs,X.H₀ b=none
 tab:qa4 X.K X.H₀
structure Inv (X:Cx) (pins:List (Addr×Obj)) (σ:List (Option V)) (H:Hp) (s:Shared):Prop where
 ok:X.Ok
 os:s.os=X.s₀.os
 bare:AllBare s.gens
 base:Un X.fs X.ex X.H₀ H X.s₀.heap s.heap
 loc:∃ m,s.heap.Ns X.env.locals m∧∀ (i:Nat) (x:Str) (v:V),X.N[i]?=some x→σ[i]?=some (some v)→Vis X.env.scope x→∃ u,RelV v u∧Look X.env s.heap m x u
 cell:∀ x c,X.env.cells.lookup x=some c→∃ v,s.heap.IsCell c v
 free:H X.env.locals=none
 freeC:∀ x c,X.env.cells.lookup x=some c→H c=none
 pin:∀ p∈X.pn++pins,s.heap.get? p.1=some p.2∧H p.1=none∧p.1≠X.env.locals∧p.1∉X.fs∧∀ v,p.2.data≠.cell v
 hok:HOk X.prog X.w H s.heap
 len:σ.length=X.N.length
section
variable {X:Cx}{pins:List (Addr×Obj)}{σ:List (Option V)}{H H':Hp}{s:Shared}{h':Heap}
theorem Cx.Ok.nofr (ok:X.Ok){b:Addr}{o:Obj}(e:X.base.get? b=some o):b∉X.fs:=fun hb=>by
 have:=(ok.funs.mem hb).1
 rw [e] at this;cases this
theorem Inv.bs (I:Inv X pins σ H s):∀ b o,X.base.get? b=some o→s.heap.get? b=some o∧H b=none:=fun b o e=>
 ⟨I.base.keep b o (I.ok.bs b o e).1 (I.ok.bs b o e).2 (I.ok.nofr e) (I.ok.noex b o e),I.base.free b o (I.ok.bs b o e).1 (I.ok.bs b o e).2 (I.ok.noex b o e)⟩
theorem Inv.bk (I:Inv X pins σ H s):∀ b o,X.base.get? b=some o→s.heap.get? b=some o:=fun b o e=>(I.bs b o e).1
theorem Inv.mod (I:Inv X pins σ H s):Mod X.K X.mg X.base:=I.ok.mod
theorem Inv.kIn (I:Inv X pins σ H s):X.K.In s.heap:=I.ok.mod.kin.keeps I.bk
theorem Inv.nolimit (I:Inv X pins σ H s):s.heap.NoLimit:=I.ok.mod.nolimit.keeps I.bk
theorem Inv.fr (I:Inv X pins σ H s):∃ m,Fr X.base X.env.locals s.heap m:=
 let ⟨m,hn,_⟩:=I.loc
 ⟨m,hn,I.bk,Nat.le_trans I.ok.bsz I.ok.above⟩
theorem Inv.lt (I:Inv X pins σ H s):X.env.locals < s.heap.objs.size:=let ⟨_,hn,_⟩:=I.loc;hn.lt
theorem Inv.sz (I:Inv X pins σ H s):X.s₀.heap.objs.size≤s.heap.objs.size:=Nat.le_trans I.ok.above (Nat.le_of_lt I.lt)
theorem Inv.nofs (I:Inv X pins σ H s){a:Addr}(h:s.heap.objs.size≤a):a∉X.fs:=fun hb=>by
 obtain ⟨_,o,ho,_⟩:=I.ok.funs.mem hb
 exact absurd (Nat.lt_of_lt_of_le (Heap.lt_size ho) (Nat.le_trans I.sz h)) (Nat.lt_irrefl _)
theorem Inv.cne (I:Inv X pins σ H s):∀ x c,X.env.cells.lookup x=some c→c≠X.env.locals:=fun x c e z=>by
 obtain ⟨v,o,ho,hd⟩:=I.cell x c e
 obtain ⟨m,⟨o',es,ep,ho',hd',_⟩,_⟩:=I.loc
 rw [z,ho'] at ho;cases ho;rw [hd'] at hd;cases hd
theorem Inv.funs (I:Inv X pins σ H s):s.heap.FunFrames X.base X.outer:=by
 have all:∀ (l:List Env),(∀ b∈frs l,b∈X.fs)→X.s₀.heap.FunFrames X.base l→s.heap.FunFrames X.base l:=by
  intro l
  induction l with
  | nil=>intro _ _;trivial
  | cons env r ih=>
   intro hs hl
   obtain ⟨hk,⟨L,o,hf,hn,ho,hd⟩,hr⟩:=hl
   have hL:L∈X.fs:=hs L (by unfold frs;rw [List.filterMap_cons,hf];exact List.mem_cons_self)
   obtain ⟨sl,e⟩:=I.base.slot L o ho (I.ok.frf L hL) hL fun z=>I.ok.exfs L z hL
   exact ⟨hk,⟨L,_,hf,hn,e,hd⟩,ih (fun b hb=>hs b (by unfold frs;rw [List.filterMap_cons,hf];exact List.mem_cons_of_mem _ hb)) hr⟩
 exact all X.outer (fun _ hb=>hb) I.ok.funs
theorem Inv.stack (I:Inv X pins σ H s):s.heap.FunFrames X.base X.stack:=by
 rcases I.ok.stk with e | ⟨e,hf⟩
 ·rw [e];exact I.funs
 ·rw [e]
  obtain ⟨m,hn,_⟩:=I.loc
  refine .cons (by rw [I.ok.kind];decide) hf hn ?_ I.funs
  exact Heap.get?_none_of_le (Nat.le_trans I.ok.bsz I.ok.above)
theorem Inv.stkSub (I:Inv X pins σ H s):∀ b∈frs X.stack,b∈X.env.locals::X.fs:=fun b hb=>by
 rcases I.ok.stk with e | ⟨e,hf⟩
 ·rw [e] at hb;exact List.mem_cons_of_mem _ hb
 ·rw [e] at hb
  unfold frs at hb
  rw [List.filterMap_cons,hf] at hb
  exact hb
theorem Inv.stkFree (I:Inv X pins σ H s):∀ b∈frs X.stack,H b=none:=fun b hb=>by
 rcases List.mem_cons.mp (I.stkSub b hb) with e | hb
 ·rw [e];exact I.free
 ·obtain ⟨_,o,ho,_⟩:=I.ok.funs.mem hb
  exact I.base.free b o ho (I.ok.frf b hb) fun z=>I.ok.exfs b z hb
theorem Inv.step {g':Array GenState}{t':Nat}{d':Drawn}{ch:List Addr}(I:Inv X pins σ H s)
  (hch:∀ b∈ch,(b∈X.ex∨X.s₀.heap.objs.size≤b)∧b≠X.env.locals∧(∀ x c,X.env.cells.lookup x=some c→c≠b)∧∀ p∈X.pn++pins,p.1≠b)
  (keep:∀ b o,b≠X.env.locals→b∉X.fs→b∉ch→s.heap.get? b=some o→H b=none→h'.get? b=some o)
  (slot:∀ b o,b≠X.env.locals→b∈X.fs→b∉ch→s.heap.get? b=some o→H b=none→∃ sl,h'.get? b=some { o with slots:=sl }) (free:∀ b o,b∉ch→s.heap.get? b=some o→H b=none→H' b=none)
  (there:∀ b o,b∉ch→s.heap.get? b=some o→∃ o',h'.get? b=some o')
  (tups:∀ b xs,H b=some (.tup xs)→H' b=some (.tup xs)) (frzs:∀ b o u,H b=some (.frz o u)→H' b=some (.frz o u)) (tbls:∀ b q,H b=some (.tab q)→H' b=some (.tab q))
  (ns:∀ m,s.heap.Ns X.env.locals m→h'.Ns X.env.locals m) (hok:HOk X.prog X.w H' h') (hg:AllBare g') :
  Inv X pins σ H' { s with heap:=h',gens:=g',drawn:=d',toks:=t' }:=by
 have neL:∀ b o,X.s₀.heap.get? b=some o→b≠X.env.locals:=fun b o e=>Nat.ne_of_lt (Nat.lt_of_lt_of_le #[45] I.ok.above)
 have neC:∀ b o,X.s₀.heap.get? b=some o→b∉X.ex→b∉ch:=fun b o e hx hb=>by
  rcases (hch b hb).1 with z | z
  ·exact hx z
  ·exact absurd (Nat.lt_of_lt_of_le #[45] z) (Nat.lt_irrefl _)
 have cellK:∀ x c,X.env.cells.lookup x=some c→∀ v,s.heap.IsCell c v→h'.IsCell c v:=fun x c e v ⟨o,ho,hd⟩=>by
  have nch:c∉ch:=fun z=>(hch c z).2.2.1 x c e rfl
  by_cases hc:c∈X.fs
  ·obtain ⟨sl,q⟩:=slot c o (I.cne x c e) hc nch ho (I.freeC x c e)
   exact ⟨_,q,hd⟩
  ·exact ⟨o,keep c o (I.cne x c e) hc nch ho (I.freeC x c e),hd⟩
 refine ⟨I.ok,I.os,hg,⟨fun b o e n hb hx=>?_,fun b o e n hb hx=>?_,fun b o e n hx=>?_,fun b o e hx=>?_,fun b xs e=>tups b xs (I.base.tups b xs e),fun b o xs e=>frzs b o xs (I.base.frzs b o xs e),fun b ps e=>?_⟩,?_,fun x c e=>?_,?_,fun x c e=>?_,fun p hp=>?_,hok,I.len⟩
 ·exact keep b o (neL b o e) hb (neC b o e hx) (I.base.keep b o e n hb hx) (I.base.free b o e n hx)
 ·obtain ⟨sl,e1⟩:=I.base.slot b o e n hb hx
  obtain ⟨sl',e2⟩:=slot b _ (neL b o e) hb (neC b o e hx) e1 (I.base.free b o e n hx)
  exact ⟨sl',e2⟩
 ·obtain ⟨o',e1⟩:=I.base.there b o e hx
  exact free b o' (neC b o e hx) e1 (I.base.free b o e n hx)
 ·obtain ⟨o',e1⟩:=I.base.there b o e hx
  exact there b o' (neC b o e hx) e1
 ·exact tbls b ps (I.base.tbls b ps e)
 ·obtain ⟨m,hn,hl⟩:=I.loc
  refine ⟨m,ns m hn,fun i x v e1 e2 e3=>?_⟩
  obtain ⟨u,r,l⟩:=hl i x v e1 e2 e3
  refine ⟨u,r,?_⟩
  rcases l with l | ⟨k,c,e,z⟩
  ·exact .inl l
  ·exact .inr ⟨k,c,e,cellK x c e _ z⟩
 ·obtain ⟨v,z⟩:=I.cell x c e
  exact ⟨v,cellK x c e v z⟩
 ·obtain ⟨m,⟨o,_,_,ho,_⟩,_⟩:=I.loc
  exact free _ o (fun z=>(hch _ z).2.1 rfl) ho I.free
 ·obtain ⟨v,o,ho,hd⟩:=I.cell x c e
  exact free c o (fun z=>(hch c z).2.2.1 x c e rfl) ho (I.freeC x c e)
 ·obtain ⟨e,n,ne,nf,d⟩:=I.pin p hp
  have nch:p.1∉ch:=fun z=>(hch p.1 z).2.2.2 p hp rfl
  exact ⟨keep p.1 p.2 ne nf nch e n,free p.1 p.2 nch e n,ne,nf,d⟩
theorem Inv.un {t':Nat}(I:Inv X pins σ H s)(u:Un X.fs [] H H' s.heap h')(hok:HOk X.prog X.w H' h'):Inv X pins σ H' { s with heap:=h',toks:=t' }:=by
 obtain ⟨m,⟨o,es,ep,ho,r⟩,_⟩:=id I.loc
 obtain ⟨sl,hL⟩:=u.any ho I.free #[7]
 exact I.step (g':=s.gens) (d':=s.drawn) (ch:=[]) (fun _ z=>nomatch z) (fun b o _ hb _ e n=>u.keep b o e n hb #[7]) (fun b o _ hb _ e n=>u.slot b o e n hb #[7]) (fun b o _ e n=>u.free b o e n #[7]) (fun b o _ e=>u.there b o e #[7]) u.tups u.frzs u.tbls (fun m' hm=>by
  obtain ⟨o',es',ep',ho',r'⟩:=hm
  rw [ho] at ho';cases ho'
  exact ⟨_,es',ep',hL,r'⟩) hok I.bare
theorem Inv.call {g':Array GenState}{t':Nat}{d':Drawn}{ch:List Addr}(I:Inv X pins σ H s)(u:Un (frs X.stack) ch H H' s.heap h')(hok:HOk X.prog X.w H' h')(hg:AllBare g')
  (hch:∀ b∈ch,(b∈X.ex∨X.s₀.heap.objs.size≤b)∧b≠X.env.locals∧(∀ x c,X.env.cells.lookup x=some c→c≠b)∧∀ p∈X.pn++pins,p.1≠b) :
  Inv X pins σ H' { s with heap:=h',gens:=g',drawn:=d',toks:=t' }:=by
 obtain ⟨m,⟨o,es,ep,ho,r⟩,_⟩:=id I.loc
 obtain ⟨sl,hL⟩:=u.any ho I.free fun z=>(hch _ z).2.1 rfl
 exact I.step (ch:=ch) hch (fun b o hL hb hc e n=>u.keep b o e n (fun z=>(List.mem_cons.mp (I.stkSub b z)).elim hL hb) hc) (fun b o _ _ hc e n=>u.any e n hc) (fun b o hc e n=>u.free b o e n hc) (fun b o hc e=>u.there b o e hc) u.tups u.frzs u.tbls (fun m' hm=>by
  obtain ⟨o',es',ep',ho',r'⟩:=hm
  rw [ho] at ho';cases ho'
  exact ⟨_,es',ep',hL,r'⟩) hok hg
theorem Inv.turned {t':Nat}{it:Addr}(I:Inv X pins σ H s)(k:∀ b o,b≠it→s.heap.get? b=some o→h'.get? b=some o)(hn:H it=none)(hL:it≠X.env.locals)
  (h1:it∈X.ex∨X.s₀.heap.objs.size≤it) (h2:∀ x c,X.env.cells.lookup x=some c→c≠it) (h3:∀ p∈X.pn++pins,p.1≠it):Inv X pins σ H { s with heap:=h',toks:=t' }:=by
 have nit:∀ b u,H b=some u→b≠it:=fun b u e z=>by rw [z,hn] at e;cases e
 refine I.step (g':=s.gens) (d':=s.drawn) (ch:=[it]) (fun b hb=>?_) (fun b o _ _ hc e _=>k b o (fun z=>hc (by simp [z])) e) (fun b o _ _ hc e _=>⟨o.slots,k b o (fun z=>hc (by simp [z])) e⟩) (fun _ _ _ _ n=>n)
  (fun b o hc e=>⟨o,k b o (fun z=>hc (by simp [z])) e⟩) (fun _ _ e=>e) (fun _ _ _ e=>e) (fun b ps e=>e) (fun m hm=>?_) (fun b u e=>?_) I.bare
 ·have e:b=it:=by simpa using hb
  subst e
  exact ⟨h1,hL,h2,h3⟩
 ·obtain ⟨o,es,ep,ho,r⟩:=hm
  exact ⟨o,es,ep,k _ o (Ne.symm hL) ho,r⟩
 ·refine (I.hok b u e).stay (fun c v hc q=>k c v ?_ q) (fun _ q=>q) (fun _ _ q=>q) fun _ _ q=>q
  rcases hc with z | z
  ·rw [z];exact nit b u e
  ·exact nit c _ z
theorem Inv.tok (I:Inv X pins σ H s)(t:Nat):Inv X pins σ H { s with toks:=t }:=I.un (h':=s.heap) (t':=t) Un.refl I.hok
theorem Inv.kept {t':Nat}(I:Inv X pins σ H s)(k:∀ b u,s.heap.get? b=some u→h'.get? b=some u):Inv X pins σ H { s with heap:=h',toks:=t' }:=I.un (Un.kept k) (I.hok.kept k)
theorem Inv.laid {a:Addr}{o:HO}{t':Nat}(I:Inv X pins σ H s)(k:∀ b u,s.heap.get? b=some u→h'.get? b=some u)(hp:s.heap.objs.size≤a)(new:qB8 X.prog X.w (upd H a o) h' a o) :
  Inv X pins σ (upd H a o) { s with heap:=h',toks:=t' }:=I.un (Un.laid k hp (I.hok.fresh hp)) (I.hok.laid k hp new)
theorem Inv.write {x e:Addr}{o:HO}{t':Nat}(I:Inv X pins σ H s)(mu:Mut (H x))(he:e=x∨H e=some (.own x))(k:∀ b u,b≠e→s.heap.get? b=some u→h'.get? b=some u)(heo:∃ u,h'.get? e=some u)
  (new:qB8 X.prog X.w (upd H x o) h' x o):Inv X pins σ (upd H x o) { s with heap:=h',toks:=t' }:=I.un (Un.write mu he k heo) (I.hok.write mu he k heo new)
theorem Inv.pins_of {pins':List #[10]}(I:Inv X pins σ H s)(h:∀ p∈pins',s.heap.get? p.1=some p.2∧H p.1=none∧p.1≠X.env.locals∧p.1∉X.fs∧∀ v,p.2.data≠.cell v):Inv X pins' σ H s:=
 ⟨I.ok,I.os,I.bare,I.base,I.loc,I.cell,I.free,I.freeC,fun p hp=>(List.mem_append.mp hp).elim (fun z=>I.pin p (List.mem_append_left _ z)) (h p),I.hok,I.len⟩
theorem qSm {N:List Str}(hN:N.Nodup){i j:Nat}{x:Str}(a:N[i]?=some x)(b:N[j]?=some x):i=j:=by
 obtain ⟨h1,e1⟩:=List.getElem?_eq_some_iff.mp a
 obtain ⟨h2,e2⟩:=List.getElem?_eq_some_iff.mp b
 exact (List.getElem_inj hN).mp (e1.trans e2.symm)
theorem qN1 {M:Model}{A:Around}{E:Value→Shared→Prop}{i:Nat}{x:Str}{v:V}{u:Value}{Q:Unit→Shared→Prop}(I:Inv X pins σ H s)(hN:X.N.Nodup)(hi:X.N[i]?=some x)(hx:Loc X.env.scope x)(r:RelV v u)
  (h:∀ s',Inv X pins (σ.set i (some v)) H s'→(∃ a,Heap.SameBut a s.heap s'.heap∧(a=X.env.locals∨X.env.cells.lookup x=some a))→Q () s') (hf:X.fn x=true∨X.env.scope.names.lookup x=some .local:=by first | exact .inl rfl | exact .inr rfl | assumption):wpAny M A (storeName X.env x u) Q E s:=by
 obtain ⟨m,hn,hl⟩:=id I.loc
 have hcls:(X.env.scope.kind == .class || (X.env.scope.kind == .module && X.env.locals != X.env.globals))=false:=by rw [I.ok.kind];rfl
 have hiσ:i < σ.length:=by rw [I.len];exact (List.getElem?_eq_some_iff.mp hi).1
 have cne:=I.cne
 have tracked:∀ {a:Addr} {h':Heap},(∃ o,s.heap.get? a=some o∧H a=none)→Heap.SameBut a s.heap h'→HOk X.prog X.w H h':=fun {a h'} ha hs b ob e=>by
  obtain ⟨_,_,hfree⟩:=ha
  refine (I.hok b ob e).stay (fun c w' hc q=>(hs.2 c ?_).trans q) (fun _ q=>q) (fun _ _ q=>q) fun _ _ q=>q
  rintro rfl
  rcases hc with rfl | hc
  ·rw [hfree] at e;cases e
  ·rw [hfree] at hc;cases hc
 rcases hx with hk | hk
 ·refine wpAny_storeName_local hk hn (fun h' hn' hs=>?_) hcls
  obtain ⟨oL,_,_,hoL,_⟩:=id hn
  refine h _ ⟨I.ok,I.os,I.bare,⟨fun b o e n hb hx=>?_,fun b o e n hb hx=>?_,I.base.free,fun b o e hx=>?_,I.base.tups,I.base.frzs,I.base.tbls⟩,⟨_,hn',fun j y v' e1 e2 e3=>?_⟩,fun y c e=>?_,I.free,I.freeC,fun p hp=>?_,tracked ⟨oL,hoL,I.free⟩ hs,by simpa using I.len⟩ ⟨_,hs,.inl rfl⟩
  ·exact (hs.2 b (Nat.ne_of_lt (Nat.lt_of_lt_of_le #[45] I.ok.above))).trans (I.base.keep b o e n hb hx)
  ·obtain ⟨sl,e1⟩:=I.base.slot b o e n hb hx
   exact ⟨sl,(hs.2 b (Nat.ne_of_lt (Nat.lt_of_lt_of_le #[45] I.ok.above))).trans e1⟩
  ·obtain ⟨o',e1⟩:=I.base.there b o e hx
   exact ⟨o',(hs.2 b (Nat.ne_of_lt (Nat.lt_of_lt_of_le #[45] I.ok.above))).trans e1⟩
  ·by_cases hj:j=i
   ·subst hj
    rw [hi] at e1;cases e1
    rw [List.getElem?_set_self hiσ] at e2
    cases e2
    exact ⟨u,r,.inl ⟨hk,by simp⟩⟩
   ·rw [List.getElem?_set_ne (Ne.symm hj)] at e2
    obtain ⟨u',r',q⟩:=hl j y v' e1 e2 e3
    refine ⟨u',r',?_⟩
    rcases q with ⟨k,e⟩ | ⟨k,c,e,z⟩
    ·refine .inl ⟨k,?_⟩
     have:y≠x:=fun e=>hj (qSm hN e1 (e ▸ hi))
     simp [this,e]
    ·exact .inr ⟨k,c,e,z.sameBut hs (cne y c e)⟩
  ·obtain ⟨w',z⟩:=I.cell y c e
   exact ⟨w',z.sameBut hs (cne y c e)⟩
  ·obtain ⟨e,n,ne,nf,d⟩:=I.pin p hp
   exact ⟨(hs.2 p.1 ne).trans e,n,ne,nf,d⟩
 ·have hfn:X.fn x=true:=by
   rcases hf with z | z
   ·exact z
   ·rw [z] at hk;cases hk
  obtain ⟨c,hc⟩:=I.ok.has x (.inl hk)
  obtain ⟨w',z⟩:=I.cell x c hc
  refine wpAny_storeName_cell I.ok.kind hk hc z (fun h' hc' hs=>?_)
  obtain ⟨oc,hoc,hocd⟩:=id z
  refine h { s with heap:=h' } ⟨I.ok,I.os,I.bare,⟨fun b o e n hb hx=>?_,fun b o e n hb hx=>?_,I.base.free,fun b o e hx=>?_,I.base.tups,I.base.frzs,I.base.tbls⟩,⟨m,hn.sameBut hs (Ne.symm (cne x c hc)),fun j y v' e1 e2 e3=>?_⟩,fun y c' e=>?_,I.free,I.freeC,fun p hp=>?_,tracked ⟨oc,hoc,I.freeC x c hc⟩ hs,by simpa using I.len⟩ ⟨c,hs,.inr hc⟩
  ·exact (hs.2 b (Nat.ne_of_lt (Nat.lt_of_lt_of_le #[45] (I.ok.cab x c hfn hc)))).trans (I.base.keep b o e n hb hx)
  ·obtain ⟨sl,e1⟩:=I.base.slot b o e n hb hx
   exact ⟨sl,(hs.2 b (Nat.ne_of_lt (Nat.lt_of_lt_of_le #[45] (I.ok.cab x c hfn hc)))).trans e1⟩
  ·obtain ⟨o',e1⟩:=I.base.there b o e hx
   exact ⟨o',(hs.2 b (Nat.ne_of_lt (Nat.lt_of_lt_of_le #[45] (I.ok.cab x c hfn hc)))).trans e1⟩
  ·by_cases hj:j=i
   ·subst hj
    rw [hi] at e1;cases e1
    rw [List.getElem?_set_self hiσ] at e2
    cases e2
    exact ⟨u,r,.inr ⟨.inl hk,c,hc,hc'⟩⟩
   ·rw [List.getElem?_set_ne (Ne.symm hj)] at e2
    obtain ⟨u',r',q⟩:=hl j y v' e1 e2 e3
    refine ⟨u',r',?_⟩
    rcases q with q | ⟨k,c',e,z'⟩
    ·exact .inl q
    ·refine .inr ⟨k,c',e,z'.sameBut hs ?_⟩
     rintro rfl
     exact hj (qSm hN e1 (I.ok.inj _ _ _ e hc ▸ hi))
  ·by_cases hcc:c'=c
   ·subst hcc;exact ⟨_,hc'⟩
   ·obtain ⟨w2,z2⟩:=I.cell y c' e
    exact ⟨w2,z2.sameBut hs hcc⟩
  ·obtain ⟨e,n,ne,nf,d⟩:=I.pin p hp
   refine ⟨(hs.2 p.1 ?_).trans e,n,ne,nf,d⟩
   intro q
   rw [q,hoc] at e
   have q':oc=p.2:=Option.some.inj e
   exact d w' (by rw [←q'];exact hocd)
theorem qMi {M:Model}{A:Around}{E:Value→Shared→Prop}{i:Nat}{x:Str}{v:V}{u:Value}{Q:Unit→Shared→Prop}(I:Inv X pins σ H s)(hN:X.N.Nodup)(hi:X.N[i]?=some x)(hx:Loc X.env.scope x)(r:RelV v u)
  (h:∀ s',Inv X pins (σ.set i (some v)) H s'→Q () s') (hf:X.fn x=true∨X.env.scope.names.lookup x=some .local:=by first | exact .inl rfl | exact .inr rfl | assumption):wpAny M A (storeName X.env x u) Q E s:=
 qN1 I hN hi hx r (fun s' I' _=>h s' I') hf
theorem Inv.call' {s':Shared}{ch:List Addr}(I:Inv X pins σ H s)(ho:s'.os=s.os)(u:Un (frs X.stack) ch H H' s.heap s'.heap)(hok:HOk X.prog X.w H' s'.heap)(hg:AllBare s'.gens)
  (hch:∀ b∈ch,(b∈X.ex∨X.s₀.heap.objs.size≤b)∧b≠X.env.locals∧(∀ x c,X.env.cells.lookup x=some c→c≠b)∧∀ p∈X.pn++pins,p.1≠b):Inv X pins σ H' s':=by
 obtain ⟨h',g',d',t',o'⟩:=s'
 have e:o'=s.os:=ho
 subst e
 exact I.call (g':=g') (t':=t') (d':=d') u hok hg hch
end
abbrev XK:=Value→Option Addr→Hp→Prop
abbrev St:=List (Option V)
abbrev VK:=V→Hp→Prop
abbrev TE:=St→Hp→VK→Prop
abbrev TT:=St→Hp→(Bool→Hp→Prop)→Prop
abbrev TA:=St→Hp→(List V→Hp→Prop)→Prop
structure Ends where
 nx:St→Hp→Prop
 rt:VK
 bk:St→Hp→Prop:=fun _ _=>False
 ct:St→Hp→Prop:=fun _ _=>False
abbrev TS:=Ends→St→Hp→Prop
def EP (X:Cx)(pins:List #[10])(σ:St)(Q:VK)(u:Value)(s':Shared):Prop:=∃ v H',Inv X pins σ H' s'∧RelV v u∧Q v H'
def TP (X:Cx)(pins:List #[10])(σ:St)(Q:Bool→Hp→Prop)(b:Bool)(s':Shared):Prop:=∃ H',Inv X pins σ H' s'∧Q b H'
def AP (X:Cx)(pins:List #[10])(σ:St)(Q:List V→Hp→Prop)(us:List Value)(s':Shared):Prop:=∃ vs H',Inv X pins σ H' s'∧qBv vs us∧Q vs H'
def SP (X:Cx)(pins:List #[10])(D:Ends)(f:Flow)(s':Shared):Prop:=
 match f with
 | .next=>∃ σ' H',Inv X pins σ' H' s'∧D.nx σ' H'
 | .brk=>∃ σ' H',Inv X pins σ' H' s'∧D.bk σ' H'
 | .cont=>∃ σ' H',Inv X pins σ' H' s'∧D.ct σ' H'
 | .ret u=>∃ v σ' H',Inv X pins σ' H' s'∧RelV v u∧D.rt v H'
def PE (X:Cx)(e:Expr)(t:TE):Prop:=
 ∀ (pins:List #[10]) (s:Shared) (σ:St) (H:Hp) (Q:VK),Inv X pins σ H s→t σ H Q→wpAny #[12] X.A (eval e X.env) (EP X pins σ Q) X.xe s
def PT (X:Cx)(e:Expr)(t:TT):Prop:=
 ∀ (pins:List #[10]) (s:Shared) (σ:St) (H:Hp) (Q:Bool→Hp→Prop),Inv X pins σ H s→t σ H Q→wpAny #[12] X.A (isTrue e X.env (eval e X.env)) (TP X pins σ Q) X.xe s
def PW (X:Cx)(e:Expr)(t:TT):Prop:=
 ∀ (whole:Sem Value) (pins:List #[10]) (s:Shared) (σ:St) (H:Hp) (Q:Bool→Hp→Prop),Inv X pins σ H s→t σ H Q→wpAny #[12] X.A (isTrue e X.env whole) (TP X pins σ Q) X.xe s
theorem PW.pt {X:Cx}{e:Expr}{t:TT}(h:PW X e t):PT X e t:=h _
def PA (X:Cx)(es:List Expr)(t:TA):Prop:=
 ∀ (pos:Pos) (pins:List #[10]) (s:Shared) (σ:St) (H:Hp) (Q:List V→Hp→Prop),Inv X pins σ H s→t σ H Q→wpAny #[12] X.A (spliced #[77]) (AP X pins σ Q) X.xe s
def PS (X:Cx)(st:Stmt)(t:TS):Prop:=
 ∀ (pins:List #[10]) (s:Shared) (σ:St) (H:Hp) (D:Ends),Inv X pins σ H s→t D σ H→wpAny #[12] X.A (exec st X.env) (SP X pins D) X.xe s
def PSs (X:Cx)(st:List Stmt)(t:TS):Prop:=
 ∀ (pins:List #[10]) (s:Shared) (σ:St) (H:Hp) (D:Ends),Inv X pins σ H s→t D σ H→wpAny #[12] X.A (execs st X.env) (SP X pins D) X.xe s
theorem thn {α:Type}{t:Sem α}{Q Q':α→Shared→Prop}{M:Model}{A:Around}{E:Value→Shared→Prop}{s:Shared}(h:wpAny M A t Q E s)(hQ:∀ a s,Q a s→Q' a s):wpAny M A t Q' E s:=wpAny_mono h hQ fun _ _ x=>x
open PySem PySem.Spec PyProof.Rows
section
variable {X:Cx}
def tVar (i:Nat):TE:=fun σ H Q=>∃ v,σ[i]?=some (some v)∧Q v H
def tC (v:V):TE:=fun _ H Q=>Q v H
theorem qC5 {i:Nat}{x:Str}{pos:Pos}(hN:X.N[i]?=some x)(hv:Vis X.env.scope x)(hd:#[25]=false:=by decide)(hcd:#[48]=false:=by decide):PE X (.Name x pos) (tVar i):=by
 intro pins s σ H Q I h
 obtain ⟨v,e,h⟩:=h
 obtain ⟨m,hn,hl⟩:=I.loc
 obtain ⟨u,r,l⟩:=hl i x v hN e hv
 have fin:EP X pins σ Q u s:=⟨v,H,I,r,h⟩
 rcases l with ⟨hk,hm⟩ | ⟨hk,c,hc,hcell⟩
 ·exact wpAny_Name (wpAny_loadName_local I.ok.kind hk hn hm fin) hd
 ·rcases hk with hk | hk
  ·exact wpAny_Name (wpAny_loadName_cell I.ok.kind hk hc hcell fin) hd
  ·exact wpAny_Name (wpAny_loadName_free I.ok.kind hk hc hcell fin hcd) hd
theorem qbo {i j pos}:PE X (.Constant (.int i) j pos) (tC (.int i)):=fun _ _ _ H _ I h=>wpAny_Constant_int ⟨.int i,H,I.tok _,⟨_,rfl⟩,h⟩
theorem pe_bl {b j pos}:PE X (.Constant (.bool b) j pos) (tC (.bl b)):=fun _ _ _ H _ I h=>Constant_bool ⟨.bl b,H,I,rfl,h⟩
theorem pe_non {j pos}:PE X (.Constant .none j pos) (tC .non):=fun _ _ _ H _ I h=>Constant_none ⟨.non,H,I,rfl,h⟩
theorem pe_str {x j pos}:PE X (.Constant (.str x) j pos) (tC (.str x)):=fun _ _ _ H _ I h=>Calls.Constant_str ⟨.str x,H,I.tok _,⟨_,rfl⟩,h⟩
def Gl (X:Cx)(x:Str):Prop:=X.env.kindOf x=some .globalImplicit
theorem qM6 {E:Value→Shared→Prop}{pins:List #[10]}{s:Shared}{σ:St}{H:Hp}{x:Str}{u:Value}{pos:Pos}{Q:Value→Shared→Prop}(I:Inv X pins σ H s)(hg:Gl X x)(hm:X.mg x=some u)(h:Q u s)
  (hd:#[25]=false:=by decide):wpAny #[12] X.A (eval (.Name x pos) X.env) Q E s:=
 Calls.Name_function_global I.ok.kind hg (Calls.loadGlobal_global (by rw [I.ok.glob];exact I.mod.glob.keeps I.bk) hm h) hd
theorem qFc {E:Value→Shared→Prop}{pins:List #[10]}{s:Shared}{σ:St}{H:Hp}{x:Str}{u:Value}{pos:Pos}{Q:Value→Shared→Prop}(I:Inv X pins σ H s)(hg:Gl X x)(hm:X.mg x=none)(hv:bootBuiltins x=some u)(h:Q u s)
  (hn:x≠"__name__":=by decide) (hd:#[25]=false:=by decide):wpAny #[12] X.A (eval (.Name x pos) X.env) Q E s:=by
 obtain ⟨mb,h1,h2⟩:=I.mod.blt
 exact Calls.Name_function_global I.ok.kind hg (Calls.loadGlobal_builtin (by rw [I.ok.glob];exact I.mod.glob.keeps I.bk) hm (by rw [I.ok.blt];exact h1.keeps I.bk) ((h2 x hn).trans hv) h) hd
theorem qdi {x:Str}{v:V}{u:Value}{pos:Pos}(hg:Gl X x)(hm:X.mg x=some u)(r:RelV v u)(hd:#[25]=false:=by decide):PE X (.Name x pos) (tC v):=
 fun _ _ _ H _ I h=>qM6 I hg hm ⟨v,H,I,r,h⟩ hd
theorem qdl {x:Str}{v:V}{u:Value}{pos:Pos}(hg:Gl X x)(hm:X.mg x=none)(hv:bootBuiltins x=some u)(r:RelV v u)(hn:x≠"__name__":=by decide)(hd:#[25]=false:=by decide):PE X (.Name x pos) (tC v):=
 fun _ _ _ H _ I h=>qFc I hg hm hv ⟨v,H,I,r,h⟩ hn hd
variable {a b:Expr}{ta tb:TE}{pos:Pos}
def PC (X:Cx)(op:CmpOp)(a b:Expr)(t:TE):Prop:=
 ∀ (pins:List #[10]) (s:Shared) (σ:St) (H:Hp) (Q:VK),Inv X pins σ H s→t σ H Q→
  wpAny #[12] X.A (eval a X.env) (fun v s₁=>wpAny #[12] X.A (eval b X.env) (fun u s₂=>wpAny #[12] X.A (compareOp op v u) (EP X pins σ Q) X.xe s₂) X.xe s₁) X.xe s
theorem qZ0 (b:Expr){op:CmpOp}(h:op≠.In)(h2:op≠.NotIn):behindInMarks op b=false:=by
 have e1:(op == CmpOp.In)=false:=by cases op <;> first | rfl | exact absurd rfl h
 have e2:(op == CmpOp.NotIn)=false:=by cases op <;> first | rfl | exact absurd rfl h2
 cases b <;> simp [behindInMarks,e1,e2]
def tB (t:TE):TT:=fun σ H Q=>t σ H fun x H1=>∃ c,x=.bl c∧Q c H1
theorem qbm {op:CmpOp}{t:TE}(h:PC X op a b t)(h1:behindInMarks op b=false:=by first | exact qZ0 _ #[5] #[5] | rfl):PT X (.Compare a [op] [b] pos) (tB t):=by
 intro pins s σ H Q I hw
 refine wpAny_isTrue_Compare1 (thn (h pins s σ H _ I hw) fun v s1 h1=>thn h1 fun u s2 h2=>thn h2 fun c s3 ⟨x,H1,I1,r1,q1⟩=>?_) h1
 obtain ⟨d,rfl,q⟩:=q1
 cases r1
 exact wpAny_truthy_bool ⟨H1,I1,q⟩
variable {tA tB':TT}{qFw:List Expr}
def tAnd (t u:TT):TT:=fun σ H Q=>t σ H fun c H1=>if c=true then u σ H1 Q else Q false H1
def tOr (t u:TT):TT:=fun σ H Q=>t σ H fun c H1=>if c=true then Q true H1 else u σ H1 Q
def tNot (t:TT):TT:=fun σ H Q=>t σ H fun c H1=>Q (!c) H1
theorem qc4 (ha:PT X a tA):PW X (.BoolOp .And [a] pos) tA:=by
 intro wh pins s σ H Q I h
 refine isTrue_and (thn (ha pins s σ H Q I h) fun c s1 e=>?_)
 cases c with
 | true=>exact isTrue_and_nil e
 | false=>exact e
theorem pw_or1 (ha:PT X a tA):PW X (.BoolOp .Or [a] pos) tA:=by
 intro wh pins s σ H Q I h
 refine isTrue_or (thn (ha pins s σ H Q I h) fun c s1 e=>?_)
 cases c with
 | false=>exact isTrue_or_nil e
 | true=>exact e
theorem pw_and (ha:PT X a tA)(hb:PW X (.BoolOp .And (b::qFw) pos) tB'):PW X (.BoolOp .And (a::b::qFw) pos) (tAnd tA tB'):=by
 intro wh pins s σ H Q I h
 refine isTrue_and (thn #[67] fun c s1 ⟨H1,I1,q1⟩=>?_)
 cases c with
 | true=>exact hb wh pins s1 σ H1 Q I1 q1
 | false=>exact ⟨H1,I1,q1⟩
theorem pw_or (ha:PT X a tA)(hb:PW X (.BoolOp .Or (b::qFw) pos) tB'):PW X (.BoolOp .Or (a::b::qFw) pos) (tOr tA tB'):=by
 intro wh pins s σ H Q I h
 refine isTrue_or (thn #[67] fun c s1 ⟨H1,I1,q1⟩=>?_)
 cases c with
 | true=>exact ⟨H1,I1,q1⟩
 | false=>exact hb wh pins s1 σ H1 Q I1 q1
theorem pt_not (ha:PT X a tA):PT X (.UnaryOp .Not a pos) (tNot tA):=by
 intro pins s σ H Q I h
 exact isTrue_not (ha pins s σ H (fun c H1=>Q (!c) H1) I h)
def tAndV (ta tb:TE):TE:=fun σ H Q=>ta σ H fun x H1=>∃ c,x=.bl c∧if c=true then tb σ H1 Q else Q (.bl false) H1
def tOrV (ta tb:TE):TE:=fun σ H Q=>ta σ H fun x H1=>∃ c,x=.bl c∧if c=true then Q (.bl true) H1 else tb σ H1 Q
def tNotV (ta:TE):TE:=fun σ H Q=>ta σ H fun x H1=>∃ c,x=.bl c∧Q (.bl (!c)) H1
theorem pe_one {op}{t:TE}(h:PE X a t):PE X (.BoolOp op [a] pos) t:=fun pins s σ H Q I hw=>BoolOp_one (h pins s σ H Q I hw)
theorem pe_and (ha:PE X a ta)(hb:PE X (.BoolOp .And (b::qFw) pos) tb):PE X (.BoolOp .And (a::b::qFw) pos) (tAndV ta tb):=by
 intro pins s σ H Q I h
 refine BoolOp_and (thn #[67] fun v s1 ⟨x,H1,I1,r1,q1⟩=>?_)
 obtain ⟨c,rfl,q1⟩:=q1
 cases r1
 refine wpAny_truthy_bool ?_
 cases c with
 | true=>exact hb pins s1 σ H1 Q I1 q1
 | false=>exact ⟨.bl false,H1,I1,rfl,q1⟩
theorem pe_or (ha:PE X a ta)(hb:PE X (.BoolOp .Or (b::qFw) pos) tb):PE X (.BoolOp .Or (a::b::qFw) pos) (tOrV ta tb):=by
 intro pins s σ H Q I h
 refine BoolOp_or (thn #[67] fun v s1 ⟨x,H1,I1,r1,q1⟩=>?_)
 obtain ⟨c,rfl,q1⟩:=q1
 cases r1
 refine wpAny_truthy_bool ?_
 cases c with
 | false=>exact hb pins s1 σ H1 Q I1 q1
 | true=>exact ⟨.bl true,H1,I1,rfl,q1⟩
theorem pe_not (ha:PE X a ta):PE X (.UnaryOp .Not a pos) (tNotV ta):=by
 intro pins s σ H Q I h
 refine UnaryOp_ (thn #[67] fun v s1 ⟨x,H1,I1,r1,q1⟩=>?_)
 obtain ⟨c,rfl,q1⟩:=q1
 cases r1
 exact not_of (wpAny_truthy_bool ⟨.bl (!c),H1,I1,rfl,q1⟩)
def tIf (t:TT)(ta tb:TE):TE:=fun σ H Q=>t σ H fun c H1=>if c=true then ta σ H1 Q else tb σ H1 Q
theorem qMx {c:Expr}(hc:PT X c tA)(ha:PE X a ta)(hb:PE X b tb):PE X (.IfExp c a b pos) (tIf tA ta tb):=by
 intro pins s σ H Q I h
 refine wpAny_IfExp (thn (hc pins s σ H _ I h) fun d s1 ⟨H1,I1,q1⟩=>?_)
 cases d with
 | true=>exact ha pins s1 σ H1 Q I1 q1
 | false=>exact hb pins s1 σ H1 Q I1 q1
end
open PySem PySem.Spec PyProof.Rows
def SqL (K:PySem.W.Frag)(H:Hp)(a:Addr)(xs:List V):Prop:=
 Rd H a (.lst xs)∨
  ∃ (o:Obj) (its:Array Value) (n:Nat),K.lookup a=some o∧o.cls=.type "list"∧o.dict=none∧o.data=.seq its n∧its.size≤sizeLine∧qBv xs its.toList
def SqT (K:PySem.W.Frag)(H:Hp)(a:Addr)(xs:List V):Prop:=
 Rd H a (.tup xs)∨
  ∃ (o:Obj) (its:Array Value) (n:Nat),K.lookup a=some o∧o.cls=.type "tuple"∧o.data=.seq its n∧its.size≤sizeLine∧qBv xs its.toList
def absV:Value→Option V
 | .none=>some .non
 | .bool b=>some (.bl b)
 | .int i _=>some (.int i)
 | .str x _=>some (.str x)
 | .bytes b _=>some (.byt b)
 | .float b _=>some (.flt b)
 | .ref a=>some (.ref a)
 | .type n=>some (.ty n)
 | _=>none
theorem RelV.abs {x:V}{u:Value}(r:RelV x u):absV u=some x:=by
 cases x with
 | non=>cases r;rfl
 | bl _=>cases r;rfl
 | int _=>obtain ⟨t,rfl⟩:=r;rfl
 | str _=>obtain ⟨t,rfl⟩:=r;rfl
 | byt _=>obtain ⟨t,rfl⟩:=r;rfl
 | flt _=>obtain ⟨t,rfl⟩:=r;rfl
 | ref _=>cases r;rfl
 | ty _=>cases r;rfl
theorem RelV.inj {x y:V}{u:Value}(r:RelV x u)(q:RelV y u):x=y:=Option.some.inj (r.abs.symm.trans q.abs)
theorem qBv.inj:∀ {xs ys:List V} {us:List Value},qBv xs us→qBv ys us→xs=ys
 | _,_,_,.nil,.nil=>rfl
 | _,_,_,.cons r t,.cons r' t'=>by rw [r.inj r',qBv.inj t t']
section
variable {X:Cx}{pins:List (Addr×Obj)}{σ:St}{H:Hp}{s:Shared}{a:Addr}{xs ys:List V}
theorem SqL.of {K:PySem.W.Frag}(h:H a=some (.lst xs)):SqL K H a xs:=.inl (.inl h)
theorem SqT.of {K:PySem.W.Frag}(h:H a=some (.tup xs)):SqT K H a xs:=.inl (.inl h)
theorem Inv.list (I:Inv X pins σ H s)(h:SqL X.K H a xs):∃ its:List Value,qBv xs its∧PlainL s.heap a its.toArray∧xs.length≤sizeLine:=by
 rcases h with h | ⟨o,its,n,hk,hc,hd,hs,hz,r⟩
 ·obtain ⟨z,its,n,r,e⟩:=h.ok I.hok
  exact ⟨its,r,⟨_,n,e,rfl,rfl,rfl⟩,z⟩
 ·refine ⟨its.toList,r,⟨o,n,I.kIn a o hk,hc,hd,by simpa using hs⟩,?_⟩
  have e:=r.length
  simp only [Array.length_toList] at e
  omega
theorem Inv.tuple (I:Inv X pins σ H s)(h:SqT X.K H a xs):∃ its:List Value,qBv xs its∧IsTup s.heap a its.toArray∧xs.length≤sizeLine:=by
 rcases h with h | ⟨o,its,n,hk,hc,hs,hz,r⟩
 ·obtain ⟨z,its,r,p⟩:=h.ok I.hok
  exact ⟨its,r,p,z⟩
 ·refine ⟨its.toList,r,⟨o,I.kIn a o hk,hc,n,by simpa using hs⟩,?_⟩
  have e:=r.length
  simp only [Array.length_toList] at e
  omega
theorem Inv.list_inj (I:Inv X pins σ H s)(h:SqL X.K H a xs)(h':SqL X.K H a ys):xs=ys:=by
 obtain ⟨its,r,⟨o,n,e,_,_,d⟩,_⟩:=I.list h
 obtain ⟨its',r',⟨o',n',e',_,_,d'⟩,_⟩:=I.list h'
 rw [e] at e';cases e'
 rw [d] at d'
 injection d' with d1 _
 have:its=its':=by simpa using congrArg Array.toList d1
 subst this
 exact r.inj r'
theorem Inv.tuple_inj (I:Inv X pins σ H s)(h:SqT X.K H a xs)(h':SqT X.K H a ys):xs=ys:=by
 obtain ⟨its,r,⟨o,e,_,n,d⟩,_⟩:=I.tuple h
 obtain ⟨its',r',⟨o',e',_,n',d'⟩,_⟩:=I.tuple h'
 rw [e] at e';cases e'
 rw [d] at d'
 injection d' with d1 _
 have:its=its':=by simpa using congrArg Array.toList d1
 subst this
 exact r.inj r'
end
abbrev Cx.wish (X:Cx)(E:Value→Shared→Prop):Cx:={ X with xe:=E }
abbrev Cx.nox (X:Cx):Cx:=X.wish fun _ _=>False
theorem Cx.Ok.wish {X:Cx}(ok:X.Ok)(E:Value→Shared→Prop):(X.wish E).Ok:=
 ⟨ok.mod,ok.kind,ok.glob,ok.blt,ok.above,ok.inj,ok.has,ok.cab,ok.hd,ok.frames,ok.stk,ok.exf,ok.bs,ok.bsz,ok.noex,ok.exfs,ok.funs,ok.frf,ok.tab⟩
theorem Cx.Ok.unwish {X:Cx}{E:Value→Shared→Prop}(ok:(X.wish E).Ok):X.Ok:=
 ⟨ok.mod,ok.kind,ok.glob,ok.blt,ok.above,ok.inj,ok.has,ok.cab,ok.hd,ok.frames,ok.stk,ok.exf,ok.bs,ok.bsz,ok.noex,ok.exfs,ok.funs,ok.frf,ok.tab⟩
section
variable {X:Cx}{pins:List (Addr×Obj)}{σ:St}{H:Hp}{s:Shared}{E:Value→Shared→Prop}
theorem Inv.wish (I:Inv X pins σ H s)(E:Value→Shared→Prop):Inv (X.wish E) pins σ H s:=⟨I.ok.wish E,I.os,I.bare,I.base,I.loc,I.cell,I.free,I.freeC,I.pin,I.hok,I.len⟩
theorem Inv.unwish (I:Inv (X.wish E) pins σ H s):Inv X pins σ H s:=⟨I.ok.unwish,I.os,I.bare,I.base,I.loc,I.cell,I.free,I.freeC,I.pin,I.hok,I.len⟩
theorem SP.unwish {D:Ends}{f:Flow}{s':Shared}(h:SP (X.wish E) pins D f s'):SP X pins D f s':=by
 cases f with
 | next=>obtain ⟨σ',H',I,q⟩:=h;exact ⟨σ',H',I.unwish,q⟩
 | brk=>obtain ⟨σ',H',I,q⟩:=h;exact ⟨σ',H',I.unwish,q⟩
 | cont=>obtain ⟨σ',H',I,q⟩:=h;exact ⟨σ',H',I.unwish,q⟩
 | ret u=>obtain ⟨v,σ',H',I,r,q⟩:=h;exact ⟨v,σ',H',I.unwish,r,q⟩
theorem PE.nox {e:Expr}{t:TE}(h:PE X.nox e t):PE X e t:=fun pins s σ H Q I hw=>
 wpAny_mono (h pins s σ H Q (I.wish _) hw) (fun _ _ ⟨v,H',I',r,q⟩=>⟨v,H',I'.unwish,r,q⟩) fun _ _ z=>False.elim z
theorem PT.nox {e:Expr}{t:TT}(h:PT X.nox e t):PT X e t:=fun pins s σ H Q I hw=>
 wpAny_mono (h pins s σ H Q (I.wish _) hw) (fun _ _ ⟨H',I',q⟩=>⟨H',I'.unwish,q⟩) fun _ _ z=>False.elim z
theorem PSs.nox {st:List Stmt}{t:TS}(h:PSs X.nox st t):PSs X st t:=fun pins s σ H D I hw=>
 wpAny_mono (h pins s σ H D (I.wish _) hw) (fun _ _ q=>q.unwish) fun _ _ z=>False.elim z
end
section
variable {X:Cx}{st:Stmt}{qFw:List Stmt}{t u:TS}{e:Expr}{te:TE}{pos:Pos}
def tNext:TS:=fun D σ H=>D.nx σ H
def tSeq (t u:TS):TS:=fun D σ H=>t { D with nx:=u D } σ H
theorem qdc:PSs X [] tNext:=fun _ _ σ H _ I h=>wpAny_execs_nil ⟨σ,H,I,h⟩
theorem qZn (h1:PS X st t)(h2:PSs X qFw u):PSs X (st::qFw) (tSeq t u):=by
 intro pins s σ H D I h
 refine wpAny_execs_cons (thn (h1 pins s σ H { D with nx:=u D } I h) fun f s1 q=>?_)
 cases f with
 | next=>
  obtain ⟨σ',H',I',q⟩:=q
  exact h2 pins s1 σ' H' D I' q
 | ret v=>exact q
 | brk=>exact q
 | cont=>exact q
theorem qdb (h1:PS X st t):PSs X [st] t:=by
 intro pins s σ H D I h
 refine wpAny_execs_cons (thn (h1 pins s σ H D I h) fun f s1 q=>?_)
 cases f with
 | next=>exact wpAny_execs_nil q
 | ret v=>exact q
 | brk=>exact q
 | cont=>exact q
theorem Inv.quiet {pins:List #[10]}{σ:St}{H:Hp}{s:Shared}(I:Inv X pins σ H s):interactive X.env=false:=by simp [interactive,I.ok.kind]
def tDrop (te:TE):TS:=fun D σ H=>te σ H fun _ H1=>D.nx σ H1
theorem qV3 (he:PE X e te)(hs:swapsWith e none pos.line X.env=pure false:=by rfl):PS X (.Expr e pos) (tDrop te):=by
 intro pins s σ H D I h
 exact wpAny_Expr_any (thn (he pins s σ H _ I h) fun v s1 ⟨x,H1,I1,r1,q1⟩=>⟨σ,H1,I1,q1⟩) I.quiet hs
def tRet (te:TE):TS:=fun D σ H=>te σ H D.rt
theorem qOt (he:PE X e te):PS X (.Return (some e) pos) (tRet te):=by
 intro pins s σ H D I h
 exact wpAny_Return_some (thn (he pins s σ H _ I h) fun v s1 ⟨x,H1,I1,r1,q1⟩=>⟨x,σ,H1,I1,r1,q1⟩)
def tIfS (c:TT)(t u:TS):TS:=fun D σ H=>c σ H fun b H1=>if b=true then t D σ H1 else u D σ H1
theorem ps_if {c:Expr}{a b:List Stmt}{tc:TT}(hc:PT X c tc)(ha:PSs X a t)(hb:PSs X b u):PS X (.If c a b pos) (tIfS tc t u):=by
 intro pins s σ H D I h
 refine wpAny_If (thn (hc pins s σ H _ I h) fun d s1 ⟨H1,I1,q1⟩=>?_)
 cases d with
 | true=>exact ha pins s1 σ H1 D I1 q1
 | false=>exact hb pins s1 σ H1 D I1 q1
def tNever:TS:=fun _ _ _=>False
theorem qZp:PS X st tNever:=fun _ _ _ _ _ _ h=>h.elim
end
abbrev TG:=V→St→Hp→(St→Hp→Prop)→Prop
abbrev TGs:=List V→St→Hp→(St→Hp→Prop)→Prop
def PG (X:Cx)(target:Expr)(t:TG):Prop:=
 ∀ (pins:List #[10]) (s:Shared) (σ:St) (H:Hp) (v:V) (u:Value) (Q:St→Hp→Prop),Inv X pins σ H s→RelV v u→t v σ H Q→
  wpAny #[12] X.A (assign target X.env u) (fun _ s'=>∃ σ' H',Inv X pins σ' H' s'∧Q σ' H') X.xe s
def PGs (X:Cx)(ts:List Expr)(t:TGs):Prop:=
 ∀ (pins:List #[10]) (s:Shared) (σ:St) (H:Hp) (vs:List V) (us:List Value) (Q:St→Hp→Prop),Inv X pins σ H s→qBv vs us→t vs σ H Q→
  wpAny #[12] X.A (assignInOrder ((assignEach ts X.env).map (·.2)) us) (fun _ s'=>∃ σ' H',Inv X pins σ' H' s'∧Q σ' H') X.xe s
section
variable {X:Cx}{pos:Pos}
def gName (i:Nat):TG:=fun v σ H Q=>Q (σ.set i (some v)) H
theorem qQ3 {i:Nat}{x:Str}(hN:X.N.Nodup)(hi:X.N[i]?=some x)(hx:Loc X.env.scope x)(hf:X.fn x=true∨X.env.scope.names.lookup x=some .local:=by first | exact .inl rfl | exact .inr rfl | assumption):PG X (.Name x pos) (gName i):=by
 intro pins s σ H v u Q I r h
 exact wpAny_assign_Name (qMi I hN hi hx r (fun s' I'=>⟨_,H,I',h⟩) hf)
def gNil:TGs:=fun vs σ H Q=>vs=[]∧Q σ H
def gCons (t:TG)(u:TGs):TGs:=fun vs σ H Q=>∃ v r,vs=v::r∧t v σ H fun σ' H'=>u r σ' H' Q
theorem qV9:PGs X [] gNil:=by
 intro pins s σ H vs us Q I r h
 obtain ⟨e,h⟩:=h
 subst e
 cases r
 exact assignInOrder_nil ⟨σ,H,I,h⟩
theorem qMw {e:Expr}{es:List Expr}{t:TG}{u:TGs}(h1:PG X e t)(h2:PGs X es u)
  (hs:(assignEach (e::es) X.env).map (·.2)=assign e X.env::(assignEach es X.env).map (·.2):=by rfl):PGs X (e::es) (gCons t u):=by
 intro pins s σ H vs us Q I r h
 obtain ⟨v,vr,e1,h⟩:=h
 subst e1
 cases r with
 | cons r rr=>
  rw [hs]
  refine assignInOrder_cons (thn (h1 pins s σ H _ _ _ I r h) fun _ s1 ⟨σ1,H1,I1,q1⟩=>?_)
  exact h2 pins s1 σ1 H1 _ _ Q I1 rr q1
def gTup (K:PySem.W.Frag)(n:Nat)(t:TGs):TG:=fun v σ H Q=>∃ a xs,v=.ref a∧SqT K H a xs∧xs.length=n∧t xs σ H Q
theorem qbn {es:List Expr}{k:Nat}{t:TGs}{n:Nat}(hc:X.calm=true)(h:PGs X es t)
  (hn:(assignEach es X.env).length=n:=by rfl) (hst:(assignEach es X.env).findIdx? (·.1)=none:=by rfl):PG X (.Tuple es k pos) (gTup X.K n t):=by
 intro pins s σ H v u Q I r hw
 obtain ⟨a,xs,e1,hq,hl,hw⟩:=hw
 subst e1
 cases r
 obtain ⟨its,rv,ht,hz⟩:=I.tuple hq
 refine assign_Tuple_tuple (I.ok.hd hc) ht (by simp [hn,←hl,rv.length]) hst fun h' hx=>?_
 have I1:Inv X pins σ H { s with heap:=h' }:=I.kept (t':=s.toks) fun b o e=>hx b o (Nat.ne_of_lt #[45]) e
 exact h pins _ σ H xs _ Q I1 (by simpa using rv) hw
def tAsg (te:TE)(g:TG):TS:=fun D σ H=>te σ H fun x H1=>g x σ H1 D.nx
theorem qJw {i:Nat}{x:Str}{e:Expr}{te:TE}{pos':Pos}(hN:X.N.Nodup)(hi:X.N[i]?=some x)(hx:Loc X.env.scope x)(he:PE X e te)(hs:swapsWith e (some (.Name x pos')) pos.line X.env=pure false:=by rfl)(hf:X.fn x=true∨X.env.scope.names.lookup x=some .local:=by first | exact .inl rfl | exact .inr rfl | assumption) :
  PS X (.Assign [.Name x pos'] e pos) (tAsg te (gName i)):=by
 intro pins s σ H D I h
 refine wpAny_Assign_Name (thn (he pins s σ H _ I h) fun v s1 ⟨y,H1,I1,r1,q1⟩=>?_) hs
 exact qMi I1 hN hi hx r1 (fun s2 I2=>⟨_,H1,I2,q1⟩) hf
end
section
variable {X:Cx}{pos:Pos}
def tWhile (c:TT)(tb:TS):TS:=fun D σ H=>∃ W:Nat→St→Hp→Prop,(∃ m,W m σ H)∧∀ m σ H,W m σ H→
 c σ H fun b H1=>if b=true then ∃ N:St→Hp→Prop,(∀ σ' H',N σ' H'→∃ m',m' < m∧W m' σ' H')∧tb { D with nx:=N,ct:=N,bk:=D.nx } σ H1 else D.nx σ H1
theorem qZo {c:Expr}{body:List Stmt}{tc:TT}{tb:TS}(hp:PassesOwn #[12] X.A X.env X.xe)(hc:PT X c tc)(hb:PSs X body tb):PS X (.While c body [] pos) (tWhile tc tb):=by
 intro pins s σ H D I h
 obtain ⟨W,⟨m0,w0⟩,turn⟩:=h
 refine wpAny_While (codeAny_whileLoop (fun n s'=>∃ σ' H',Inv X pins σ' H' s'∧W n σ' H') ?_ m0 ⟨σ,H,I,w0⟩)
 rintro n s1 ⟨σ1,H1,I1,w1⟩
 refine wpAny_passesOwn hp (thn (hc pins s1 σ1 H1 _ I1 (turn n σ1 H1 w1)) fun b s2 ⟨H2,I2,q2⟩=>?_)
 cases b with
 | true=>
  obtain ⟨N,hN,q2⟩:=q2
  rw [if_pos rfl]
  refine wpAny_passesOwn hp (thn (hb pins s2 σ1 H2 _ I2 q2) fun f s3 q3=>?_)
  cases f with
  | next=>
   obtain ⟨σ3,H3,I3,n3⟩:=q3
   obtain ⟨m',hm,w3⟩:=hN σ3 H3 n3
   exact ⟨m',hm,σ3,H3,I3,w3⟩
  | cont=>
   obtain ⟨σ3,H3,I3,n3⟩:=q3
   obtain ⟨m',hm,w3⟩:=hN σ3 H3 n3
   exact ⟨m',hm,σ3,H3,I3,w3⟩
  | brk=>exact q3
  | ret v=>exact q3
 | false=>
  rw [if_neg Bool.false_ne_true]
  exact wpAny_execs_nil ⟨σ1,H2,I2,q2⟩
end
structure It where
 go:Nat→Hp→Prop
 yld:Nat→Hp→V→Hp→Prop
 stop:Nat→Hp→Prop
def qK6 (X:Cx)(pins:List #[10])(H:Hp)(b:Addr):Prop:=
 H b=none∧b≠X.env.locals∧b∉X.fs∧(b∈X.ex∨X.s₀.heap.objs.size≤b)∧(∀ x c,X.env.cells.lookup x=some c→c≠b)∧∀ p∈X.pn++pins,p.1≠b
theorem Inv.fpOk {X:Cx}{pins:List #[10]}{σ:St}{H H':Hp}{s:Shared}{b:Addr}(I:Inv X pins σ H s)(hb:s.heap.objs.size≤b)(hn:H' b=none):qK6 X pins H' b:=by
 refine ⟨hn,Nat.ne_of_gt (Nat.lt_of_lt_of_le I.lt hb),I.nofs hb,.inr (Nat.le_trans I.sz hb),fun x c e z=>?_,fun p hp z=>?_⟩
 ·obtain ⟨v,q⟩:=I.cell x c e
  exact absurd (Nat.lt_of_lt_of_le q.lt (by rw [z];exact hb)) (Nat.lt_irrefl _)
 ·exact absurd (Nat.lt_of_lt_of_le (Heap.lt_size (I.pin p hp).1) (by rw [z];exact hb)) (Nat.lt_irrefl _)
structure Turn (P:Program) (w:World) (K:PySem.W.Frag) (tg:Expr) (J:It) (fp:List Addr) (it:Addr) (tn:Nat→Heap→Prop):Prop where
 mem:it∈fp
 obj:∀ i h,tn i h→∀ b∈fp,∃ o,h.get? b=some o∧∀ v,o.data≠.cell v
 keep:∀ i h h',tn i h→(∀ b∈fp,∀ o,h.get? b=some o→h'.get? b=some o)→tn i h'
 item:∀ (X:Cx),X.prog=P→X.w=w→X.K=K→X.calm=true→∀ (i:Nat) (pins:List #[10]) (s:Shared) (σ:St) (H:Hp) (E:Value→Shared→Prop),Inv X pins σ H s→(∀ b∈fp,qK6 X pins H b)→tn i s.heap→J.go i H→
  wpAny (model P w) X.A (pyNext (.ref it)) (fun r s1=>∃ u,r=some u∧
   wpAny (model P w) X.A (letOwnedTupleGo tg (.ref it) u) (fun _ s2=>∃ x H',Inv X pins σ H' s2∧RelV x u∧J.yld i H x H'∧tn (i + 1) s2.heap∧∀ b∈fp,H' b=none) E s1) E s
 done:∀ (X:Cx),X.prog=P→X.w=w→X.K=K→X.calm=true→∀ (i:Nat) (pins:List #[10]) (s:Shared) (σ:St) (H:Hp) (E:Value→Shared→Prop),Inv X pins σ H s→(∀ b∈fp,qK6 X pins H b)→tn i s.heap→J.stop i H→
  wpAny (model P w) X.A (pyNext (.ref it)) (fun r s1=>r=none∧Inv X pins σ H s1) E s
 self:∀ (A:Around) (i:Nat) (s:Shared) (Q:Value→Shared→Prop) (E:Value→Shared→Prop),tn i s.heap→Q (.ref it) s→wpAny (model P w) A (pyIter (.ref it)) Q E s
abbrev TI:=St→Hp→(It→Hp→Prop)→Prop
def PIE (X:Cx)(pins:List #[10])(σ:St)(tg:Expr)(R:It→Hp→Prop)(itv:Value)(s2:Shared):Prop:=
 ∃ (it:Addr) (fp:List Addr) (tn:Nat→Heap→Prop) (J:It) (H':Hp),itv=.ref it∧Inv X pins σ H' s2∧Turn X.prog X.w X.K tg J fp it tn∧tn 0 s2.heap∧(∀ b∈fp,qK6 X pins H' b)∧R J H'
def PI (X:Cx)(tg iter:Expr)(wi:TI):Prop:=
 ∀ (pins:List #[10]) (s:Shared) (σ:St) (H:Hp) (R:It→Hp→Prop),Inv X pins σ H s→wi σ H R→
  wpAny #[12] X.A (eval iter X.env) (fun v s1=>wpAny #[12] X.A (pyIter v) (PIE X pins σ tg R) X.xe s1) X.xe s
theorem qai {M:Model}{A:Around}{E:Value→Shared→Prop}{s:Shared}{tg:Expr}{it:Addr}{u:Value}{o:Obj}{n:String}{vs:Array Value}{Q:Unit→Shared→Prop}(ho:s.heap.get? it=some o)(hc:o.cls=.type n)(hd:o.data=.fields vs)
  (hn:["enumerate","zip","dict_itemiterator","dict_reverseitemiterator","odict_iterator","itertools.zip_longest","itertools.pairwise"].contains n=false) (hQ:Q () s):wpAny M A (letOwnedTupleGo tg (.ref it) u) Q E s:=by
 unfold letOwnedTupleGo
 cases tg <;> first
  | exact wpAny_pure hQ
  | (cases u <;> first
    | exact wpAny_pure hQ
    | (refine wpAny_bind (wpAny_load ho ?_);rw [hc,hd];show wpAny M A (if (["enumerate","zip","dict_itemiterator","dict_reverseitemiterator","odict_iterator","itertools.zip_longest","itertools.pairwise"].contains n && vs[0]? == some (rawInt _))=true then _ else _) Q E s;rw [if_neg (by intro h;rw [hn,Bool.false_and] at h;cases h)];exact wpAny_pure hQ))
def Itl (K:PySem.W.Frag)(a:Addr):It:=
 ⟨fun i H=>∃ xs x,SqL K H a xs∧xs[i]?=some x,fun i H x H'=>H'=H∧∀ xs,SqL K H a xs→xs[i]?=some x,fun i H=>∃ xs,SqL K H a xs∧xs.length≤i⟩
def Itt (K:PySem.W.Frag)(a:Addr):It:=
 ⟨fun i H=>∃ xs x,SqT K H a xs∧xs[i]?=some x,fun i H x H'=>H'=H∧∀ xs,SqT K H a xs→xs[i]?=some x,fun i H=>∃ xs,SqT K H a xs∧xs.length≤i⟩
def Itr (lo:Int)(n:Nat):It:=⟨fun i _=>i < n,fun i H x H'=>H'=H∧x=.int (lo + i),fun i _=>n≤i⟩
theorem qUy {P:Program}{w:World}{K:PySem.W.Frag}{tg:Expr}(a it:Addr):Turn P w K tg (Itl K a) [it] it (fun i h=>h.IsListIter it a i) where
 mem:=by simp
 obj:=fun i h st b hb=>by
  have e:b=it:=by simpa using hb
  subst e
  obtain ⟨o,e,c,d⟩:=st
  exact ⟨o,e,fun v z=>by rw [d] at z;cases z⟩
 keep:=fun i h h' st k=>st.at fun o e=>k it #[7] o e
 item:=by
  intro X hP hw hK hc i pins s σ H E I hf st hg
  subst hP hw hK
  obtain ⟨xs,x,hq,hx⟩:=hg
  obtain ⟨its,rv,p,hz⟩:=I.list hq
  obtain ⟨u,hu,ru⟩:=rv.get hx
  obtain ⟨f0,f1,f2,f3,f4,f5⟩:=hf it #[7]
  refine wpAny_pyNext_list_item st p.isList (x:=u) (by simpa using hu) fun h' st' sb=>?_
  have I1:Inv X pins σ H { s with heap:=h' }:=I.turned (t':=s.toks) (fun b o hb e=>(sb.2 b hb).trans e) f0 f1 f3 f4 f5
  obtain ⟨o,e,c,d⟩:=id st'
  exact ⟨u,rfl,qai (s:={ s with heap:=h' }) e c d #[5] ⟨x,H,I1,ru,⟨rfl,fun ys hy=>by rw [I.list_inj hy hq];exact hx⟩,st',fun b hb=>(hf b hb).1⟩⟩
 done:=by
  intro X hP hw hK hc i pins s σ H E I hf st hg
  subst hP hw hK
  obtain ⟨xs,hq,hx⟩:=hg
  obtain ⟨its,rv,p,hz⟩:=I.list hq
  obtain ⟨f0,f1,f2,f3,f4,f5⟩:=hf it #[7]
  have hl:=rv.length
  exact wpAny_pyNext_list_end (I.ok.hd hc) st p.isList (by simp;omega) fun h' eb=>⟨rfl,I.turned (t':=s.toks) (fun b o hb e=>eb b o hb e) f0 f1 f3 f4 f5⟩
 self:=fun _ _ _ _ _ st h=>wpAny_pyIter_listiter st h
theorem qTc {P:Program}{w:World}{K:PySem.W.Frag}{tg:Expr}(a it:Addr):Turn P w K tg (Itt K a) [it] it (fun i h=>h.IsTupleIter it a i) where
 mem:=by simp
 obj:=fun i h st b hb=>by
  have e:b=it:=by simpa using hb
  subst e
  obtain ⟨o,e,c,d⟩:=st
  exact ⟨o,e,fun v z=>by rw [d] at z;cases z⟩
 keep:=fun i h h' st k=>st.at fun o e=>k it #[7] o e
 item:=by
  intro X hP hw hK hc i pins s σ H E I hf st hg
  subst hP hw hK
  obtain ⟨xs,x,hq,hx⟩:=hg
  obtain ⟨its,rv,p,hz⟩:=I.tuple hq
  obtain ⟨u,hu,ru⟩:=rv.get hx
  obtain ⟨f0,f1,f2,f3,f4,f5⟩:=hf it #[7]
  refine wpAny_pyNext_tuple_item st (show s.heap.IsTuple a its.toArray from p) (x:=u) (by simpa using hu) fun h' st' sb=>?_
  have I1:Inv X pins σ H { s with heap:=h' }:=I.turned (t':=s.toks) (fun b o hb e=>(sb.2 b hb).trans e) f0 f1 f3 f4 f5
  obtain ⟨o,e,c,d⟩:=id st'
  exact ⟨u,rfl,qai (s:={ s with heap:=h' }) e c d #[5] ⟨x,H,I1,ru,⟨rfl,fun ys hy=>by rw [I.tuple_inj hy hq];exact hx⟩,st',fun b hb=>(hf b hb).1⟩⟩
 done:=by
  intro X hP hw hK hc i pins s σ H E I hf st hg
  subst hP hw hK
  obtain ⟨xs,hq,hx⟩:=hg
  obtain ⟨its,rv,p,hz⟩:=I.tuple hq
  obtain ⟨f0,f1,f2,f3,f4,f5⟩:=hf it #[7]
  have hl:=rv.length
  exact wpAny_pyNext_tuple_end (I.ok.hd hc) st (show s.heap.IsTuple a its.toArray from p) (by simp;omega) fun h' eb=>⟨rfl,I.turned (t':=s.toks) (fun b o hb e=>eb b o hb e) f0 f1 f3 f4 f5⟩
 self:=fun _ _ _ _ _ st h=>wpAny_pyIter_tupleiter st h
theorem qTd {P:Program}{w:World}{K:PySem.W.Frag}{tg:Expr}(it:Addr)(lo:Int)(n:Nat):Turn P w K tg (Itr lo n) [it] it (fun i h=>IsRangeIter h it (lo + (i:Nat) * 1) ((n:Int) - (i:Nat)) 1) where
 mem:=by simp
 obj:=fun i h st b hb=>by
  have e:b=it:=by simpa using hb
  subst e
  exact ⟨_,st,fun v z=>by
   have z':Data.fields _=Data.cell v:=z
   cases z'⟩
 keep:=fun i h h' st k=>k it #[7] _ st
 item:=by
  intro X hP hw hK hc i pins s σ H E I hf st hg
  subst hP hw hK
  obtain ⟨f0,f1,f2,f3,f4,f5⟩:=hf it #[7]
  have W:=Walks.range (prog:=X.prog) (w:=X.w) (I.ok.hd hc) it lo 1 n
  refine W.item i s _ _ hg st fun v h' tk hv st' kk=>?_
  obtain ⟨t,rfl⟩:=hv
  have I1:Inv X pins σ H { s with heap:=h',toks:=tk }:=I.turned (fun b o hb e=>kk b o (by simpa using hb) e) f0 f1 f3 f4 f5
  refine ⟨_,rfl,qai (s:={ s with heap:=h',toks:=tk }) (n:="range_iterator") st' rfl rfl #[5] ⟨.int (lo + i),H,I1,⟨t,?_⟩,⟨rfl,rfl⟩,st',fun b hb=>(hf b hb).1⟩⟩
  rw [Int.mul_one]
 done:=by
  intro X hP hw hK hc i pins s σ H E I hf st hg
  subst hP hw hK
  obtain ⟨f0,f1,f2,f3,f4,f5⟩:=hf it #[7]
  exact wpAny_pyNext_range_end (I.ok.hd hc) st (by have:n≤i:=hg;omega) fun h' eb=>⟨rfl,I.turned (t':=s.toks) (fun b o hb e=>eb b o hb e) f0 f1 f3 f4 f5⟩
 self:=fun _ _ _ _ _ st h=>wpAny_pyIter_rangeiter st h
open PySem PySem.Spec PyProof.Rows
section
variable {X:Cx}{tg:Expr}
theorem qY9 {pins:List #[10]}{σ:St}{H:Hp}{s:Shared}{R:It→Hp→Prop}{E:Value→Shared→Prop}{lo hi:Int}{t u v:Tok}{tk:Nat}(I:Inv X pins σ H s)(h1:-(2 ^ 62)≤lo)(h2:lo < 2 ^ 62)(h3:-(2 ^ 62)≤hi)(h4:hi < 2 ^ 62)
  (q:R (Itr lo (hi - lo).toNat) H):wpAny #[12] X.A (pyIter #[52]) (PIE X pins σ tg R) E { s with heap:=s.heap.push { cls:=.type "range",data:=.fields #[.int lo t,.int hi u,.int 1 v] },toks:=tk }:=by
 refine wpAny_pyIter_range (IsRange.new ..) (small_one h1 h2 h3 h4) ?_
 have I1:Inv X pins σ H { s with heap:=s.heap.push { cls:=.type "range",data:=.fields #[.int lo t,.int hi u,.int 1 v] },toks:=tk }:=I.kept fun b o e=>Heap.get?_push_of_some _ e
 refine ⟨(s.heap.push { cls:=.type "range",data:=.fields #[.int lo t,.int hi u,.int 1 v] }).objs.size,[(s.heap.push { cls:=.type "range",data:=.fields #[.int lo t,.int hi u,.int 1 v] }).objs.size],_,_,H,rfl,
  I1.kept (t':=tk) fun b o e=>Heap.get?_push_of_some _ e,qTd _ lo (hi - lo).toNat,?_,fun b hb=>?_,q⟩
 ·have e1:lo + ((0:Nat):Int) * 1=lo:=by simp
  have e2:(((hi - lo).toNat:Nat):Int) - ((0:Nat):Int)=Builtin.Range.rangeSize lo hi 1:=by rw [rangeSize_one];split <;> omega
  show IsRangeIter _ _ (lo + ((0:Nat):Int) * 1) ((((hi - lo).toNat:Nat):Int) - ((0:Nat):Int)) 1
  rw [e1,e2]
  exact Heap.get?_push_size _ rfl
 ·have e:b=(s.heap.push { cls:=.type "range",data:=.fields #[.int lo t,.int hi u,.int 1 v] }).objs.size:=by simpa using hb
  subst e
  exact I1.fpOk #[8] (I1.hok.fresh #[8])
def iRng1 (ta:TA):TI:=fun σ H R=>ta σ H fun vs H1=>∃ j:Int,vs=[.int j]∧-(2 ^ 62)≤j∧j < 2 ^ 62∧R (Itr 0 j.toNat) H1
theorem qOu {a:Expr}{ta:TA}{p pos:Pos}(hg:Gl X "range")(hm:X.mg "range"=none)(ha:PA X [a] ta)(hs:starEach [a] X.env=[(false,eval a X.env)]:=by rfl):PI X tg (.Call (.Name "range" p) [a] [] pos) (iRng1 ta):=by
 intro pins s σ H R I h
 refine Call_ (qFc I hg hm boot_range (PyProof.Rows.callWith_type1 (thn (ha pos pins s σ H _ I h) fun us s1 ⟨vs,H1,I1,r1,q1⟩=>?_) hs rfl))
 obtain ⟨j,e,q1,q2,q⟩:=q1
 subst e
 cases r1 with
 | cons r rr=>
  cases rr
  obtain ⟨t,rfl⟩:=r
  exact call_range_1 (qY9 I1 #[0] #[0] q1 q2 (by simpa using q))
def tFor (wi:TI)(g:TG)(tb:TS):TS:=fun D σ H=>wi σ H fun J H1=>∃ W:Nat→Nat→St→Hp→Prop,(∃ m,W 0 m σ H1)∧∀ i m σ H,W i m σ H→
 (J.stop i H∧D.nx σ H)∨(J.go i H∧∃ N:St→Hp→Prop,(∀ σ' H',N σ' H'→∃ m',m' < m∧W (i + 1) m' σ' H')∧∀ x H',J.yld i H x H'→g x σ H' fun σ2 H2=>tb { D with nx:=N,ct:=N,bk:=D.nx } σ2 H2)
def qIe (fp:List Addr)(h:Heap):List #[10]:=fp.filterMap fun b=>(h.get? b).map fun o=>(b,o)
theorem qDp {fp:List Addr}{h:Heap}{b:Addr}{o:Obj}(hb:b∈fp)(e:h.get? b=some o):(b,o)∈qIe fp h:=List.mem_filterMap.mpr ⟨b,hb,by rw [e];rfl⟩
theorem qWh {fp:List Addr}{h:Heap}{p:Addr×Obj}(hp:p∈qIe fp h):p.1∈fp∧h.get? p.1=some p.2:=by
 obtain ⟨b,hb,e⟩:=List.mem_filterMap.mp hp
 cases q:h.get? b with
 | none=>rw [q] at e;cases e
 | some o=>
  rw [q] at e
  have e':(b,o)=p:=Option.some.inj e
  subst e'
  exact ⟨hb,q⟩
theorem Inv.pinned {pins:List #[10]}{σ:St}{H:Hp}{s:Shared}{fp:List Addr}(I:Inv X pins σ H s)(hf:∀ b∈fp,qK6 X pins H b)(ho:∀ b∈fp,∃ o,s.heap.get? b=some o∧∀ v,o.data≠.cell v):Inv X (pins++qIe fp s.heap) σ H s:=
 I.pins_of fun p hp=>(List.mem_append.mp hp).elim (fun z=>I.pin p (List.mem_append_right _ z)) fun z=>by
  obtain ⟨hb,e⟩:=qWh z
  obtain ⟨f0,f1,f2,_⟩:=hf p.1 hb
  obtain ⟨o,e',d⟩:=ho p.1 hb
  rw [e] at e';cases e'
  exact ⟨e,f0,f1,f2,d⟩
theorem Inv.unpinned {pins pl:List #[10]}{σ:St}{H:Hp}{s:Shared}(I:Inv X (pins++pl) σ H s):Inv X pins σ H s:=I.pins_of fun p hp=>I.pin p (List.mem_append_right _ (List.mem_append_left _ hp))
theorem ps_for {iter:Expr}{body:List Stmt}{wi:TI}{g:TG}{tb:TS}{pos:Pos}(hp:PassesOwn #[12] X.A X.env X.xe)(hc:X.calm=true)(hi:PI X tg iter wi)(hg:PG X tg g)(hb:PSs X body tb)
  (hs:∀ x,foldedSetIterable iter X.env x=pure x:=by intro _;rfl):PS X (.For tg iter body [] pos) (tFor wi g tb):=by
 intro pins s σ H D I h
 refine wpAny_For (thn (hi pins s σ H _ I h) fun v s1 h1=>thn h1 fun itv s2 h2=>?_) hs
 obtain ⟨it,fp,tn,J,H2,e,I2,T,st2,f2,W,⟨m0,w0⟩,turn⟩:=h2
 subst e
 have stat:∀ {H':Hp},(∀ b∈fp,H' b=none)→∀ b∈fp,qK6 X pins H' b:=fun hn b hb=>⟨hn b hb,(f2 b hb).2⟩
 refine codeAny_forLoop_any (fun n s'=>∃ i σ' H',Inv X pins σ' H' s'∧tn i s'.heap∧(∀ b∈fp,H' b=none)∧W i n σ' H') ?_ m0 ⟨0,σ,H2,I2,st2,fun b hb=>(f2 b hb).1,w0⟩
 rintro n s3 ⟨i,σ3,H3,I3,st3,fr3,w3⟩
 rcases turn i n σ3 H3 w3 with ⟨stop,qn⟩ | ⟨go,N,hN,step⟩
 ·refine wpAny_passesOwn hp (thn (T.done X rfl rfl rfl hc i pins s3 σ3 H3 X.xe I3 (stat fr3) st3 stop) fun r s4 ⟨hr,I4⟩=>?_)
  subst hr
  exact wpAny_execs_nil ⟨σ3,H3,I4,qn⟩
 ·refine wpAny_passesOwn hp (thn (T.item X rfl rfl rfl hc i pins s3 σ3 H3 X.xe I3 (stat fr3) st3 go) fun r s4 ⟨u,hr,h4⟩=>?_)
  subst hr
  refine wpAny_passesOwn hp (thn h4 fun _ s5 ⟨x,H5,I5,r5,y5,st5,fr5⟩=>?_)
  have I5':=I5.pinned (stat fr5) (T.obj _ _ st5)
  refine wpAny_passesOwn hp (thn (hg _ s5 σ3 H5 x u _ I5' r5 (step x H5 y5)) fun _ s6 ⟨σ6,H6,I6,q6⟩=>?_)
  refine wpAny_passesOwn hp (thn (hb _ s6 σ6 H6 _ I6 q6) fun f s7 q7=>?_)
  have again:∀ {σ7:St} {H7:Hp},Inv X (pins++qIe fp s5.heap) σ7 H7 s7→N σ7 H7→∃ m,m < n∧∃ i σ' H',Inv X pins σ' H' s7∧tn i s7.heap∧(∀ b∈fp,H' b=none)∧W i m σ' H':=fun {σ7 H7} I7 n7=>by
   obtain ⟨m',hm,w7⟩:=hN σ7 H7 n7
   refine ⟨m',hm,i + 1,σ7,H7,I7.unpinned,T.keep _ _ _ st5 fun b hb o e=>(I7.pin (b,o) #[95]).1,fun b hb=>?_,w7⟩
   obtain ⟨o,e,d⟩:=T.obj _ _ st5 b hb
   exact (I7.pin (b,o) #[95]).2.1
  cases f with
  | next=>obtain ⟨σ7,H7,I7,n7⟩:=q7;exact again I7 n7
  | cont=>obtain ⟨σ7,H7,I7,n7⟩:=q7;exact again I7 n7
  | brk=>obtain ⟨σ7,H7,I7,q7⟩:=q7;exact ⟨σ7,H7,I7.unpinned,q7⟩
  | ret v=>obtain ⟨x7,σ7,H7,I7,r7,q7⟩:=q7;exact ⟨x7,σ7,H7,I7.unpinned,r7,q7⟩
end
open PySem PySem.Spec PyProof.Rows
abbrev R2:=V→V→Hp→VK→Prop
def OpR (X:Cx)(f:Value→Value→Sem Value)(r:R2):Prop:=
 ∀ (pins:List #[10]) (s:Shared) (σ:St) (H:Hp) (x y:V) (v u:Value) (Q:VK),Inv X pins σ H s→RelV x v→RelV y u→r x y H Q→
  wpAny #[12] X.A (f v u) (EP X pins σ Q) X.xe s
def UnR (X:Cx)(f:Value→Sem Value)(r:V→Hp→VK→Prop):Prop:=
 ∀ (pins:List #[10]) (s:Shared) (σ:St) (H:Hp) (x:V) (v:Value) (Q:VK),Inv X pins σ H s→RelV x v→r x H Q→
  wpAny #[12] X.A (f v) (EP X pins σ Q) X.xe s
def qEo (X:Cx)(f:Value)(r:List V→Hp→VK→Prop):Prop:=
 ∀ (pins:List #[10]) (s:Shared) (σ:St) (H:Hp) (xs:List V) (us:List Value) (Q:VK),Inv X pins σ H s→qBv xs us→r xs H Q→
  wpAny #[12] X.A (call f us) (EP X pins σ Q) X.xe s
def TruR (X:Cx)(r:V→Hp→(Bool→Hp→Prop)→Prop):Prop:=
 ∀ (pins:List #[10]) (s:Shared) (σ:St) (H:Hp) (x:V) (v:Value) (Q:Bool→Hp→Prop),Inv X pins σ H s→RelV x v→r x H Q→
  wpAny #[12] X.A (truthy v) (TP X pins σ Q) X.xe s
def tOp (r:R2)(ta tb:TE):TE:=fun σ H Q=>ta σ H fun x H1=>tb σ H1 fun y H2=>r x y H2 Q
def tUn (r:V→Hp→VK→Prop)(ta:TE):TE:=fun σ H Q=>ta σ H fun x H1=>r x H1 Q
def rI (C:Int→Int→Prop)(g:Int→Int→V):R2:=fun x y H Q=>∃ i j,x=.int i∧y=.int j∧C i j∧Q (g i j) H
def rI0 (g:Int→Int→V):R2:=fun x y H Q=>∃ i j,x=.int i∧y=.int j∧Q (g i j) H
def rU (g:Int→V):V→Hp→VK→Prop:=fun x H Q=>∃ i,x=.int i∧Q (g i) H
section
variable {X:Cx}{a b c:Expr}{ta tb tc:TE}{pos:Pos}
theorem binT (ha:PE X a ta)(hb:PE X b tb){pins:List #[10]}{s:Shared}{σ:St}{H:Hp}{R:V→V→Hp→Prop}(I:Inv X pins σ H s)
  (h:ta σ H fun x H1=>tb σ H1 fun y H2=>R x y H2) {Q:Value→Shared→Prop} {f:Value→Value→Sem Value}
  (hf:∀ v u s2 x y H2,Inv X pins σ H2 s2→RelV x v→RelV y u→R x y H2→wpAny #[12] X.A (f v u) Q X.xe s2) :
  wpAny #[12] X.A (eval a X.env) (fun v s₁=>wpAny #[12] X.A (eval b X.env) (fun u s₂=>wpAny #[12] X.A (f v u) Q X.xe s₂) X.xe s₁) X.xe s:=by
 refine thn #[67] fun v s1 ⟨x,H1,I1,r1,q1⟩=>?_
 refine thn (hb pins s1 σ H1 _ I1 q1) fun u s2 ⟨y,H2,I2,r2,q2⟩=>?_
 exact hf v u s2 x y H2 I2 r1 r2 q2
theorem pe_op {op:Operator}{r:R2}(ho:OpR X (binaryOp op) r)(ha:PE X a ta)(hb:PE X b tb):PE X (.BinOp a op b pos) (tOp r ta tb):=by
 intro pins s σ H Q I h
 exact wpAny_BinOp (binT ha hb I h fun v u s2 x y H2 I2 rx ry q=>ho pins s2 σ H2 x y v u Q I2 rx ry q)
theorem pe_un {op:UnaryOp}{r:V→Hp→VK→Prop}(ho:UnR X (unaryOp op) r)(ha:PE X a ta):PE X (.UnaryOp op a pos) (tUn r ta):=by
 intro pins s σ H Q I h
 exact UnaryOp_ (thn #[67] fun v s1 ⟨x,H1,I1,r1,q1⟩=>ho pins s1 σ H1 x v Q I1 r1 q1)
theorem opI {f:Value→Value→Sem Value}{C:Int→Int→Prop}{g:Int→Int→Int}
  (rule:∀ (i j:Int) (t u:Tok) (s:Shared) (Q:Value→Shared→Prop) (E:Value→Shared→Prop),C i j→Q (.int (g i j) s.toks) { s with toks:=s.toks + 1 }→wpAny #[12] X.A (f (.int i t) (.int j u)) Q E s) :
  OpR X f (rI C fun i j=>.int (g i j)):=by
 intro pins s σ H x y v u Q I rx ry h
 obtain ⟨i,j,rfl,rfl,hc,q⟩:=h
 obtain ⟨t,rfl⟩:=rx
 obtain ⟨t',rfl⟩:=ry
 exact rule i j t t' s _ _ hc ⟨.int (g i j),H,I.tok _,⟨_,rfl⟩,q⟩
theorem opI0 {f:Value→Value→Sem Value}{g:Int→Int→Int}
  (rule:∀ (i j:Int) (t u:Tok) (s:Shared) (Q:Value→Shared→Prop) (E:Value→Shared→Prop),Q (.int (g i j) s.toks) { s with toks:=s.toks + 1 }→wpAny #[12] X.A (f (.int i t) (.int j u)) Q E s) :
  OpR X f (rI0 fun i j=>.int (g i j)):=by
 intro pins s σ H x y v u Q I rx ry h
 obtain ⟨i,j,rfl,rfl,q⟩:=h
 obtain ⟨t,rfl⟩:=rx
 obtain ⟨t',rfl⟩:=ry
 exact rule i j t t' s _ _ ⟨.int (g i j),H,I.tok _,⟨_,rfl⟩,q⟩
theorem opB0 {f:Value→Value→Sem Value}{g:Int→Int→Bool}
  (rule:∀ (i j:Int) (t u:Tok) (s:Shared) (Q:Value→Shared→Prop) (E:Value→Shared→Prop),Q (.bool (g i j)) s→wpAny #[12] X.A (f (.int i t) (.int j u)) Q E s) :
  OpR X f (rI0 fun i j=>.bl (g i j)):=by
 intro pins s σ H x y v u Q I rx ry h
 obtain ⟨i,j,rfl,rfl,q⟩:=h
 obtain ⟨t,rfl⟩:=rx
 obtain ⟨t',rfl⟩:=ry
 exact rule i j t t' s _ _ ⟨.bl (g i j),H,I,rfl,q⟩
def CMul (i j:Int):Prop:=(-(2 ^ 64) < i∧i < 2 ^ 64)∨(-(2 ^ 64) < j∧j < 2 ^ 64)
theorem CMul.ok {i j:Int}(h:CMul i j):IntMulOk i j:=by
 rcases h with ⟨h1,h2⟩ | ⟨h1,h2⟩
 ·exact .of_left (intBits_le_64 h1 h2)
 ·exact .of_right (intBits_le_64 h1 h2)
theorem op_add:OpR X (binaryOp .Add) (rI0 fun i j=>.int (i + j)):=opI0 fun _ _ _ _ _ _ _ q=>add_int q
theorem op_sub:OpR X (binaryOp .Sub) (rI0 fun i j=>.int (i - j)):=opI0 fun _ _ _ _ _ _ _ q=>sub_int q
theorem op_mul:OpR X (binaryOp .Mult) (rI CMul fun i j=>.int (i * j)):=opI fun _ _ _ _ _ _ _ hc q=>mul_int q hc.ok
theorem op_mod:OpR X (binaryOp .Mod) (rI (fun _ j=>0 < j) fun i j=>.int (i % j)):=opI fun i j _ _ _ _ _ hc q=>by
 have h1:(0:Int) < j:=hc
 exact mod_int' #[0] (by rw [Int.fmod_eq_emod_of_nonneg i #[0]];exact q)
theorem unI {f:Value→Sem Value}{g:Int→Int}
  (rule:∀ (i:Int) (t:Tok) (s:Shared) (Q:Value→Shared→Prop) (E:Value→Shared→Prop),Q (.int (g i) s.toks) { s with toks:=s.toks + 1 }→wpAny #[12] X.A (f (.int i t)) Q E s) :
  UnR X f (rU fun i=>.int (g i)):=by
 intro pins s σ H x v Q I rx h
 obtain ⟨i,rfl,q⟩:=h
 obtain ⟨t,rfl⟩:=rx
 exact rule i t s _ _ ⟨.int (g i),H,I.tok _,⟨_,rfl⟩,q⟩
theorem un_neg:UnR X (unaryOp .USub) (rU fun i=>.int (-i)):=unI fun _ _ _ _ _ q=>neg_int q
end
section
variable {X:Cx}{a b c:Expr}{ta tb tc:TE}{pos:Pos}
theorem qS1 {pins:List #[10]}{σ:St}{H:Hp}{s:Shared}{Q:VK}{k k':Bool}(I:Inv X pins σ H s)(q:Q (.bl k) H)(e:k=k'):EP X pins σ Q (.bool k') s:=by
 subst e
 exact ⟨.bl k,H,I,rfl,q⟩
theorem op_lt:OpR X (compareOp .Lt) (rI0 fun i j=>.bl (decide (i < j))):=opB0 fun _ _ _ _ _ _ _ q=>lt_int q
theorem op_le:OpR X (compareOp .LtE) (rI0 fun i j=>.bl (decide (i≤j))):=opB0 fun _ _ _ _ _ _ _ q=>le_int q
theorem op_gt:OpR X (compareOp .Gt) (rI0 fun i j=>.bl (decide (j < i))):=opB0 fun _ _ _ _ _ _ _ q=>gt_int q
theorem qWe:OpR X (compareOp .In) (fun x y H Q=>∃ i j,x=.str i∧y=.str j∧Q (.bl (!(Builtin.Str.occurrences j i 0 j.length 1).isEmpty)) H):=by
 intro pins s σ H x y v u Q I rx ry h
 obtain ⟨i,j,rfl,rfl,q⟩:=h
 obtain ⟨t,rfl⟩:=rx
 obtain ⟨t',rfl⟩:=ry
 exact in_str (qS1 I q rfl)
theorem qbp:OpR X (compareOp .Is) (fun x y H Q=>y=.non∧Q (.bl (decide (x=.non))) H):=by
 intro pins s σ H x y v u Q I rx ry h
 obtain ⟨rfl,q⟩:=h
 cases ry
 refine is_none_gen (qS1 I q ?_)
 cases x <;> first
  | (cases rx;rfl)
  | (obtain ⟨t,rfl⟩:=rx;rfl)
theorem qWd:OpR X (compareOp .IsNot) (fun x y H Q=>y=.non∧Q (.bl (!decide (x=.non))) H):=by
 intro pins s σ H x y v u Q I rx ry h
 obtain ⟨rfl,q⟩:=h
 cases ry
 refine isnot_none_gen (qS1 I q ?_)
 cases x <;> first
  | (cases rx;rfl)
  | (obtain ⟨t,rfl⟩:=rx;rfl)
theorem qOy:OpR X (compareOp .NotIn) (fun x y H Q=>∃ i j,x=.str i∧y=.str j∧Q (.bl (!(!(Builtin.Str.occurrences j i 0 j.length 1).isEmpty))) H):=by
 intro pins s σ H x y v u Q I rx ry h
 obtain ⟨i,j,rfl,rfl,q⟩:=h
 obtain ⟨t,rfl⟩:=rx
 obtain ⟨t',rfl⟩:=ry
 exact notIn_str (qS1 I q rfl)
theorem qA6 (b:Expr){op:CmpOp}(h:op≠.In:=by decide)(h2:op≠.NotIn:=by decide):behindInMarks op b=false:=by
 have e1:(op == CmpOp.In)=false:=by cases op <;> first | rfl | exact absurd rfl h
 have e2:(op == CmpOp.NotIn)=false:=by cases op <;> first | rfl | exact absurd rfl h2
 cases b <;> simp [behindInMarks,e1,e2]
theorem qdk {op:CmpOp}{r:R2}(ho:OpR X (compareOp op) r)(ha:PE X a ta)(hb:PE X b tb)(hm:behindInMarks op b=false):PE X (.Compare a [op] [b] pos) (tOp r ta tb):=by
 intro pins s σ H Q I h
 exact wpAny_Compare1 (binT ha hb I h fun v u s2 x y H2 I2 rx ry q=>ho pins s2 σ H2 x y v u Q I2 rx ry q) hm
def tTest (t:TE):TT:=fun σ H Q=>t σ H fun x H'=>∃ k,x=.bl k∧Q k H'
theorem qc9 {op:CmpOp}{r:R2}(ho:OpR X (compareOp op) r)(ha:PE X a ta)(hb:PE X b tb)(hm:behindInMarks op b=false):PT X (.Compare a [op] [b] pos) (tTest (tOp r ta tb)):=by
 intro pins s σ H Q I h
 refine wpAny_isTrue_Compare1 (thn #[67] fun v s1 ⟨x,H1,I1,r1,q1⟩=>thn (hb pins s1 σ H1 _ I1 q1) fun u s2 ⟨y,H2,I2,r2,q2⟩=>
  thn (ho pins s2 σ H2 x y v u _ I2 r1 r2 q2) fun c s3 ⟨z,H3,I3,r3,k,e,q3⟩=>?_) hm
 subst e
 cases r3
 exact wpAny_truthy_bool ⟨H3,I3,q3⟩
def qU1 (r r':R2)(ta tb tc:TE):TE:=fun σ H Q=>ta σ H fun x H1=>tb σ H1 fun y H2=>r x y H2 fun z H3=>∃ k,z=.bl k∧
 (if k=true then tc σ H3 fun w' H4=>r' y w' H4 Q else Q (.bl false) H3)
theorem qZv {op op':CmpOp}{r r':R2}(ho:OpR X (compareOp op) r)(ho':OpR X (compareOp op') r')(ha:PE X a ta)(hb:PE X b tb)(hc:PE X c tc)
  (hm:lastMarks [op,op'] [b,c]=false:=by with_unfolding_all rfl):PE X (.Compare a [op,op'] [b,c] pos) (qU1 r r' ta tb tc):=by
 intro pins s σ H Q I h
 refine Compare_chain (thn #[67] fun v s1 ⟨x,H1,I1,r1,q1⟩=>chain_link (thn (hb pins s1 σ H1 _ I1 q1) fun u s2 ⟨y,H2,I2,r2,q2⟩=>
  thn (ho pins s2 σ H2 x y v u _ I2 r1 r2 q2) fun d s3 ⟨z,H3,I3,r3,k,e,q3⟩=>?_)) hm
 subst e
 cases r3
 refine wpAny_truthy_bool ?_
 cases k with
 | false=>exact ite_ff ⟨.bl false,H3,I3,rfl,q3⟩
 | true=>exact ite_tt (chain_last (thn (hc pins s3 σ H3 _ I3 q3) fun w' s4 ⟨z',H4,I4,r4,q4⟩=>ho' pins s4 σ H4 y z' u w' Q I4 r2 r4 q4))
theorem qZg {op op':CmpOp}{r r':R2}(ho:OpR X (compareOp op) r)(ho':OpR X (compareOp op') r')(ha:PE X a ta)(hb:PE X b tb)(hc:PE X c tc)
  (hm:lastMarks [op,op'] [b,c]=false:=by with_unfolding_all rfl):PT X (.Compare a [op,op'] [b,c] pos) (tTest (qU1 r r' ta tb tc)):=by
 intro pins s σ H Q I h
 refine isTrue_chain (thn #[67] fun v s1 ⟨x,H1,I1,r1,q1⟩=>test_link (thn (hb pins s1 σ H1 _ I1 q1) fun u s2 ⟨y,H2,I2,r2,q2⟩=>
  thn (ho pins s2 σ H2 x y v u _ I2 r1 r2 q2) fun d s3 ⟨z,H3,I3,r3,k,e,q3⟩=>?_)) hm
 subst e
 cases r3
 refine wpAny_truthy_bool ?_
 cases k with
 | false=>
  obtain ⟨k',e',q'⟩:=q3
  cases e'
  exact ite_ff ⟨H3,I3,q'⟩
 | true=>
  refine ite_tt (test_last (thn (hc pins s3 σ H3 _ I3 q3) fun w' s4 ⟨z',H4,I4,r4,q4⟩=>thn (ho' pins s4 σ H4 y z' u w' _ I4 r2 r4 q4) fun d' s5 ⟨z2,H5,I5,r5,k2,e2,q5⟩=>?_))
  subst e2
  cases r5
  exact wpAny_truthy_bool ⟨H5,I5,q5⟩
def TruV (K:PySem.W.Frag)(x:V)(H:Hp)(k:Bool):Prop:=
 match x with
 | .non=>k=false
 | .bl b=>k=b
 | .int i=>k=(i != 0)
 | .str y=>y.length≤sizeLine∧k=((y.length:Int) != 0)
 | .byt y=>y.size≤sizeLine∧k=((y.size:Int) != 0)
 | .ref p=>(∃ xs,SqL K H p xs∧k = !xs.isEmpty)∨(∃ xs,SqT K H p xs∧k = !xs.isEmpty)∨∃ kvs,H p=some (.dK kvs)∧k = !kvs.isEmpty
 | _=>False
theorem qUb {κ:Type}{kvs:List (κ×V)}{vs:List (κ×Value)}(r:KV kvs vs):(!vs.isEmpty) = !kvs.isEmpty:=by
 cases r <;> rfl
theorem qLt {xs:List V}{its:List Value}(r:qBv xs its):(!its.toArray.isEmpty) = !xs.isEmpty:=by
 cases r <;> simp
theorem qJ6:(sizeLine:Nat) < 2 ^ 63:=by rw [sizeLine_eq];decide
theorem tru_ok:TruR X (fun x H Q=>∃ k,TruV X.K x H k∧Q k H):=by
 intro pins s σ H x v Q I rx h
 obtain ⟨k,e,q⟩:=h
 have hl:=qJ6
 have hs:sizeLine=16777216:=sizeLine_eq
 cases x with
 | non=>
  cases rx
  have e':k=false:=e
  subst e'
  exact truthy_none ⟨H,I,q⟩
 | bl b=>
  cases rx
  have e':k=b:=e
  subst e'
  exact wpAny_truthy_bool ⟨H,I,q⟩
 | int i=>
  obtain ⟨t,rfl⟩:=rx
  have e':k=(i != 0):=e
  subst e'
  exact PySem.P.truthy_int ⟨H,I,q⟩
 | str y=>
  obtain ⟨t,rfl⟩:=rx
  obtain ⟨hy,e'⟩:y.length≤sizeLine∧k=((y.length:Int) != 0):=e
  subst e'
  exact PySem.P.truthy_str #[0] ⟨H,I.tok _,q⟩
 | byt y=>
  obtain ⟨t,rfl⟩:=rx
  obtain ⟨hy,e'⟩:y.size≤sizeLine∧k=((y.size:Int) != 0):=e
  subst e'
  exact PySem.W.truthy_bytes #[0] ⟨H,I.tok _,q⟩
 | ref p=>
  cases rx
  have e':(∃ xs,SqL X.K H p xs∧k = !xs.isEmpty)∨(∃ xs,SqT X.K H p xs∧k = !xs.isEmpty)∨∃ kvs,H p=some (.dK kvs)∧k = !kvs.isEmpty:=e
  rcases e' with ⟨xs,hx,e'⟩ | ⟨xs,hx,e'⟩ | ⟨kvs,hx,e'⟩
  ·subst e'
   obtain ⟨its,r,pl,hz⟩:=I.list hx
   have hlen:=r.length
   exact wpAny_truthy_list pl.isList (by simp only [List.size_toArray];omega) ⟨H,I.tok _,by rw [qLt r];exact q⟩
  ·subst e'
   obtain ⟨its,r,pl,hz⟩:=I.tuple hx
   have hlen:=r.length
   exact truthy_tuple pl (by simp only [List.size_toArray];omega) ⟨H,I.tok _,by rw [qLt r];exact q⟩
  ·subst e'
   obtain ⟨hz,hS,vs,r,m⟩:kvs.length≤sizeLine∧(p == sysModules)=false∧∃ vs,KV kvs vs∧s.heap.DictOf (qCh X.prog X.w) p vs:=I.hok p _ hx
   have hlen:kvs.length=vs.length:=Paired.length r
   exact wpAny_truthy_dict hS m #[0] ⟨H,I.tok _,by rw [qUb r];exact q⟩
 | _=>exact (show False from e).elim
theorem qZf (ha:PE X a ta)(he:∀ whole,isTrue a X.env whole=(do let v ←whole;standAt a.pos;holding [v] (truthy v))) :
  PT X a (fun σ H Q=>ta σ H fun x H'=>∃ k,TruV X.K x H' k∧Q k H'):=by
 intro pins s σ H Q I h
 exact isTrue_plain (thn #[67] fun v s1 ⟨x,H1,I1,r1,q1⟩=>tru_ok pins s1 σ H1 x v Q I1 r1 q1) (he _)
theorem qT2:OpR X (binaryOp .Add) (fun x y H Q=>∃ i j,x=.str i∧y=.str j∧i.length + j.length≤sizeLine∧Q (.str (i++j)) H):=by
 intro pins s σ H x y v u Q I rx ry h
 obtain ⟨i,j,rfl,rfl,hz,q⟩:=h
 obtain ⟨t,rfl⟩:=rx
 obtain ⟨t',rfl⟩:=ry
 exact add_str (fun t' tk=>⟨.str (i++j),H,I.tok _,⟨_,rfl⟩,q⟩) hz
theorem qQm {x:V}{us:List Value}(r:qBv [x] us):∃ u,us=[u]∧RelV x u:=by
 cases r with
 | cons r1 r2=>cases r2;exact ⟨_,rfl,r1⟩
theorem qQa:qEo X (.type "int") (fun xs H Q=>(∃ i,xs=[.int i]∧Q (.int i) H)∨∃ k,xs=[.bl k]∧Q (.int (if k then 1 else 0)) H):=by
 intro pins s σ H xs us Q I r h
 rcases h with ⟨i,rfl,q⟩ | ⟨k,rfl,q⟩
 ·obtain ⟨u,rfl,t,rfl⟩:=qQm r
  exact call_int_int ⟨.int i,H,I,⟨_,rfl⟩,q⟩
 ·obtain ⟨u,rfl,r1⟩:=qQm r
  cases r1
  exact call_int_bool ⟨.int (if k then 1 else 0),H,I.tok _,⟨_,rfl⟩,q⟩
end
open PySem PySem.Spec PyProof.Rows
structure ObjM (h:Heap) (x dx C:Addr) (mA:Str→Option Value):Prop where
 obj:h.get? x=some (PySem.W.instObj C dx)
 ns:h.Ns1 dx mA
 ne:dx≠x
theorem qWq {h:Heap}{dx:Addr}{mA:Str→Option Value}(n:h.Ns1 dx mA):∃ od,h.get? dx=some od∧∀ name,PySem.W.lookIn name od=some (mA name):=by
 obtain ⟨o,es,ep,ho,hd,hk,_,hm⟩:=n
 refine ⟨o,ho,fun name=>?_⟩
 have e:=hm name
 unfold nsFind findBy at e
 rw [←Array.find?_toList] at e
 unfold PySem.W.lookIn
 rw [hd]
 dsimp only
 split
 ·rename_i y q
  rw [q] at e
  exact congrArg some e
 ·rename_i q
  rw [q] at e
  have a:es.toList.any (·.refKey)=false:=by
   rw [List.any_eq_false]
   intro y hy
   obtain ⟨z,t,hkey⟩:=hk y (Array.mem_toList_iff.mp hy)
   simp [DictEntry.refKey,hkey]
  have a':¬ es.toList.any (·.refKey)=true:=by rw [a];exact Bool.false_ne_true
  rw [if_neg a']
  exact congrArg some e
theorem ObjM.look {h:Heap}{x dx C:Addr}{mA:Str→Option Value}(I:ObjM h x dx C mA):∃ od,PySem.W.InstAt h x (PySem.W.instObj C dx) C (some od)∧∀ name,PySem.W.lookIn name od=some (mA name):=
 let ⟨od,ho,hl⟩:=qWq I.ns
 ⟨od,⟨I.obj,rfl,rfl,ho⟩,hl⟩
section
variable {prog:Program}{w:World}{A:Around}{E:Value→Shared→Prop}{s:Shared}{K:PySem.W.Frag}{x dx C f:Addr}{mA:Str→Option Value}{name:Str}{v:Value}
end
section
variable {P:Program}{w:World}{H H':Hp}{h h':Heap}{a C dx:Addr}{fs fs':List (Str×V)}
theorem qdz (hok:HOk P w H h)(e:H a=some (.ins C dx fs)):∃ mA,ObjM h a dx C mA∧(∀ f,qYm (fs.lookup f) (mA f))∧PySem.Within mA (fs.map (·.1))∧fs.length≤1000∧H dx=some (.own a):=by
 obtain ⟨d,z,ne,ob,mA,n,r,q⟩:=(show qB8 P w H h a (.ins C dx fs) from hok a _ e)
 exact ⟨mA,⟨ob,n,ne⟩,r,q,z,d⟩
end
structure Cls (K:PySem.W.Frag) (C:Addr):Prop where
 pg:PySem.W.plainGet K C Str.empty=true
 hd:PySem.W.hasDictIn K C=true
 po:PySem.W.plainOver K C=true
 sa:PySem.W.findIn K (.ref C) "__setattr__"=some (some (.builtin "object.__setattr__"))
theorem Cls.get {K:PySem.W.Frag}{C:Addr}(c:Cls K C)(f:Str):PySem.W.plainGet K C f=true:=c.pg
structure Con (K:PySem.W.Frag) (C:Addr) (f:Str) (v:V) (u:Value):Prop where
 at_:PySem.W.findIn K (.ref C) f=some (some u)
 rel:RelV v u
 get:PySem.W.specialIn K u "__get__"=some none
 cp:PySem.W.copiedNames.contains f=false
structure Meth (K:PySem.W.Frag) (C:Addr) (m:Str) (f:Addr):Prop where
 at_:PySem.W.findIn K (.ref C) m=some (some (.ref f))
 fn:PySem.W.isFn K (.ref f)=true
 kp:PySem.W.keepIn K (.ref f)=true
section
variable {X:Cx}{pins:List (Addr×Obj)}{σ:St}{H:Hp}{s:Shared}{a C dx:Addr}{fs:List (Str×V)}{f:Str}{v:V}{A:Around}{E:Value→Shared→Prop}
theorem Inv.made (I:Inv X pins σ H s):Inv X pins σ (upd (upd H s.heap.objs.size (.own (s.heap.objs.size + 1))) (s.heap.objs.size + 1) (.ins C s.heap.objs.size []))
  { s with heap:=(s.heap.push PySem.W.emptyDict).push (PySem.W.instObj C s.heap.objs.size) }:=by
 have e1:(s.heap.push PySem.W.emptyDict).get? s.heap.objs.size=some PySem.W.emptyDict:=Heap.get?_push_size s.heap rfl
 have e2:((s.heap.push PySem.W.emptyDict).push (PySem.W.instObj C s.heap.objs.size)).get? (s.heap.objs.size + 1)=some (PySem.W.instObj C s.heap.objs.size):=by
  have:=Heap.get?_push_size (s.heap.push PySem.W.emptyDict) (o:=PySem.W.instObj C s.heap.objs.size) rfl
  rwa [Heap.size_push] at this
 have e3:(s.heap.push PySem.W.emptyDict).Ns s.heap.objs.size (fun _=>none):=⟨PySem.W.emptyDict,#[],_,e1,rfl,(fun e he=>absurd he #[7]),fun _=>rfl⟩
 have I1:=I.laid (a:=s.heap.objs.size) (o:=.own (s.heap.objs.size + 1)) (h':=s.heap.push PySem.W.emptyDict) (t':=s.toks) (fun b u q=>Heap.get?_push_of_some _ q) #[8] ⟨_,e1⟩
 refine I1.laid (a:=s.heap.objs.size + 1) (o:=.ins C s.heap.objs.size []) (t':=s.toks) (fun b u q=>Heap.get?_push_of_some _ q) (Nat.le_of_eq (Heap.size_push _ _)) ?_
 have ne:s.heap.objs.size≠s.heap.objs.size + 1:=Nat.ne_of_lt (Nat.lt_succ_self _)
 refine ⟨by rw [qAr ne,qAu],Nat.zero_le _,ne,e2,fun _=>none,(Heap.Ns1.of_empty e3).at fun o q=>Heap.get?_push_of_some _ q,fun _=>True.intro,fun y hy=>absurd rfl hy⟩
end
section
variable {X:Cx}{o e value:Expr}{f:Str}{pos pos' tpos:Pos}{ta tv:TE}
end
section
variable {X:Cx}{pins:List (Addr×Obj)}{σ:St}{H:Hp}{s:Shared}{A:Around}{E:Value→Shared→Prop}{Q:Value→Shared→Prop}{c:Value}{b:Bool}
inductive TyOf (K:PySem.W.Frag) (H:Hp):V→Value→Prop where
 | non:TyOf K H .non (.type "NoneType")
 | bl (x:Bool):TyOf K H (.bl x) (.type "bool")
 | int (i:Int):TyOf K H (.int i) (.type "int")
 | str (x:Str):TyOf K H (.str x) (.type "str")
 | flt (x:UInt64):TyOf K H (.flt x) (.type "float")
 | lst {a:Addr} {xs:List V} (e:H a=some (.lst xs)):TyOf K H (.ref a) (.type "list")
 | frz {a:Addr} {o:Obj} {xs:List V} (e:H a=some (.frz o (.lst xs))):TyOf K H (.ref a) (.type "list")
 | tup {a:Addr} {xs:List V} (e:H a=some (.tup xs)):TyOf K H (.ref a) (.type "tuple")
 | dK {a:Addr} {kvs:List (Key×V)} (e:H a=some (.dK kvs)):TyOf K H (.ref a) (.type "dict")
 | dT {a:Addr} {kvs:List (List Key×V)} (e:H a=some (.dT kvs)):TyOf K H (.ref a) (.type "dict")
 | ins {a C dx:Addr} {fs:List (Str×V)} (e:H a=some (.ins C dx fs)) (cl:Cls K C) (ha:PySem.W.findIn K (.ref C) "__class__"=some (some (.builtin "object.__class__")))
   (hn:PySem.W.specialIn K (.builtin "object.__class__") "__get__"=some (some (.builtin "getset_descriptor.__get__"))) (htk:PySem.W.takesIn K (.builtin "object.__class__")=some true)
   (hm:PySem.W.mroIn K C (.type "object")=some true):TyOf K H (.ref a) (.ref C)
theorem qW3 {x:V}{u t:Value}(I:Inv X pins σ H s)(rx:RelV x u)(ty:TyOf X.K H x t)(e:PySem.W.kitOne X.K t c=some b)(h:∀ tk,Q (.bool b) { s with toks:=tk }) :
  wpAny #[12] A (call (.builtin "isinstance") [u,c]) Q E s:=by
 cases ty with
 | non=>cases (show u=Value.none from rx);exact PySem.W.kia_one PySem.W.kitx_none I.kIn True.intro e #[58] h
 | bl y=>cases (show u=Value.bool y from rx);exact PySem.W.kia_one PySem.W.kitx_bool I.kIn True.intro e #[58] h
 | int i=>obtain ⟨t,q⟩:=(show ∃ t,u=Value.int i t from rx);cases q;exact PySem.W.kia_one PySem.W.kitx_int I.kIn True.intro e #[58] h
 | str y=>obtain ⟨t,q⟩:=(show ∃ t,u=Value.str y t from rx);cases q;exact PySem.W.kia_one PySem.W.kitx_str I.kIn True.intro e #[58] h
 | flt y=>obtain ⟨t,q⟩:=(show ∃ t,u=Value.float y t from rx);cases q;exact PySem.W.kia_one PySem.W.kitx_float I.kIn True.intro e #[58] h
 | @lst a xs ea=>
  cases (show u=Value.ref a from rx)
  obtain ⟨_,_,n,_,h1⟩:=(show qB8 X.prog X.w H s.heap a (.lst xs) from I.hok a _ ea)
  exact PySem.W.kia_one PySem.W.kitx_list I.kIn ⟨_,h1,rfl⟩ e #[58] h
 | @frz a ob xs ea=>
  cases (show u=Value.ref a from rx)
  obtain ⟨_,_,_,n,_,h1⟩:=(show qB8 X.prog X.w H s.heap a (.frz ob (.lst xs)) from I.hok a _ ea)
  exact PySem.W.kia_one PySem.W.kitx_list I.kIn ⟨_,h1,rfl⟩ e #[58] h
 | @tup a xs ea=>
  cases (show u=Value.ref a from rx)
  obtain ⟨_,_,_,p⟩:=(show qB8 X.prog X.w H s.heap a (.tup xs) from I.hok a _ ea)
  obtain ⟨o,h1,h2,_⟩:=p
  exact PySem.W.kia_one PySem.W.kitx_tuple I.kIn ⟨o,h1,h2⟩ e #[58] h
 | @dK a kvs ea=>
  cases (show u=Value.ref a from rx)
  obtain ⟨_,_,vs,_,p⟩:=(show qB8 X.prog X.w H s.heap a (.dK kvs) from I.hok a _ ea)
  obtain ⟨o,es,ep,h1,h2,_⟩:=p
  exact PySem.W.kia_one PySem.W.kitx_dict I.kIn ⟨o,h1,h2.1⟩ e #[58] h
 | @dT a kvs ea=>
  cases (show u=Value.ref a from rx)
  obtain ⟨_,_,xs,_,o,es,ep,h1,h2,_⟩:=(show qB8 X.prog X.w H s.heap a (.dT kvs) from I.hok a _ ea)
  exact PySem.W.kia_one PySem.W.kitx_dict I.kIn ⟨o,h1,h2.1⟩ e #[58] h
 | @ins a C dx fs ea cl ha hn htk hm=>
  cases (show u=Value.ref a from rx)
  obtain ⟨mA,O,_⟩:=qdz I.hok ea
  obtain ⟨od,J,_⟩:=O.look
  exact PySem.W.kia_one (PySem.W.kitx_own (cl.get _) cl.hd ha hn htk hm) I.kIn J e #[58] h
end
open PySem PySem.Spec PyProof.Rows
structure Room (k:Nat) (A:Around):Prop where
 hd:A.handled=none
 dp:A.depth + 3 * k + 5 < recursionLimit
 un:A.units + 16 * k + 200 < cLine
theorem Room.mono {j k:Nat}{A:Around}(r:Room k A)(h:j≤k):Room j A:=⟨r.hd,by have:=r.dp;omega,by have:=r.un;omega⟩
theorem Room.deeper {k:Nat}{A:Around}(r:Room (k + 1) A)(env:Env):Room k (A.deeper env):=
 ⟨r.hd,by have:=r.dp;show A.depth + 1 + 3 * k + 5 < _;omega,by have:=r.un;show A.units + 3 + 16 * k + 200 < _;omega⟩
theorem Room.in1 {k:Nat}{A:Around}(r:Room (k + 1) A):Room k A.in1:=
 ⟨r.hd,by have:=r.dp;show A.depth + 3 * k + 5 < _;omega,by have:=r.un;show A.units + 1 + 16 * k + 200 < _;omega⟩
theorem Room.depth {k:Nat}{A:Around}(r:Room k A):A.depth < recursionLimit:=by have:=r.dp;omega
theorem Room.units {k:Nat}{A:Around}(r:Room k A):A.units + 64 < cLine:=by have:=r.un;omega
def tNil:TA:=fun _ H Q=>Q [] H
def tCons (ta:TE)(tr:TA):TA:=fun σ H Q=>ta σ H fun x H1=>tr σ H1 fun xs H2=>Q (x::xs) H2
section
variable {X:Cx}{e:Expr}{es:List Expr}{te:TE}{t:TA}{pos:Pos}
theorem qD8:PA X [] tNil:=fun _ _ _ _ H Q I h=>Calls.spliced_nil ⟨[],H,I,.nil,h⟩
theorem qCq (ha:PE X e te)(hr:PA X es t)(hs:starEach (e::es) X.env=#[38]::starEach es X.env:=by rfl):PA X (e::es) (tCons te t):=by
 intro pos pins s σ H Q I h
 rw [hs]
 show wpAny _ _ (spliced (#[38]::backTo pos (starEach es X.env))) _ _ s
 refine Calls.spliced_cons (thn #[67] fun u s1 ⟨x,H1,I1,r1,q1⟩=>?_)
 exact thn (hr pos pins s1 σ H1 _ I1 q1) fun us s2 ⟨xs,H2,I2,r2,q2⟩=>⟨x::xs,H2,I2,.cons r1 r2,q2⟩
def tTup (t:TA):TE:=fun σ H Q=>t σ H fun xs H1=>xs.length≤sizeLine∧∀ p,H1 p=none→Q (.ref p) (upd H1 p (.tup xs))
def tLst (t:TA):TE:=fun σ H Q=>t σ H fun xs H1=>xs.length≤sizeLine∧∀ p,H1 p=none→Q (.ref p) (upd H1 p (.lst xs))
theorem pe_tup {x1}(h:PA X es t):PE X (.Tuple es x1 pos) (tTup t):=by
 intro pins s σ H Q I hq
 refine wpAny_Tuple_spliced (thn (h pos pins s σ H _ I hq) fun us s1 ⟨xs,H1,I1,r,z,q⟩=>⟨by rw [←r.length];exact z,?_⟩)
 have hf:H1 s1.heap.objs.size=none:=I1.hok.fresh #[8]
 refine ⟨.ref s1.heap.objs.size,upd H1 s1.heap.objs.size (.tup xs),I1.laid (t':=s1.toks) (fun b u e=>Heap.get?_push_of_some _ e) #[8] ?_,rfl,q _ hf⟩
 exact ⟨z,us,r,⟨_,Heap.get?_push_size _ rfl,rfl,_,rfl⟩⟩
theorem pe_lst (h:PA X es t):PE X (.List es pos) (tLst t):=by
 intro pins s σ H Q I hq
 refine wpAny_List_spliced (thn (h pos pins s σ H _ I hq) fun us s1 ⟨xs,H1,I1,r,z,q⟩=>⟨by rw [←r.length];exact z,?_⟩)
 have hf:H1 s1.heap.objs.size=none:=I1.hok.fresh #[8]
 refine ⟨.ref s1.heap.objs.size,upd H1 s1.heap.objs.size (.lst xs),I1.laid (t':=s1.toks) (fun b u e=>Heap.get?_push_of_some _ e) #[8] ?_,rfl,q _ hf⟩
 exact ⟨z,us,0,r,Heap.get?_push_size _ rfl⟩
end
abbrev Sp:=List V→Hp→VK→XK→Prop
abbrev CXT:=List Env→Hp→Shared→XK→Value→Shared→Prop
structure Env0 (P:Program) (w:World) (K:PySem.W.Frag) (mg:Str→Option Value) (base:Heap) (A:Around) (outer:List Env) (s:Shared) (H:Hp):Prop where
 frames:A.frames=some outer
 mod:Mod K mg base
 bs:∀ b o,base.get? b=some o→s.heap.get? b=some o∧H b=none
 bsz:base.objs.size≤s.heap.objs.size
 funs:s.heap.FunFrames base outer
 frf:∀ b∈frs outer,H b=none
 hok:HOk P w H s.heap
 bare:AllBare s.gens
 tab:qa4 K H
def CE (outer:List Env)(P:Program)(w:World)(H:Hp)(s:Shared)(Q:VK)(u:Value)(s':Shared):Prop:=
 ∃ v H',s'.os=s.os∧AllBare s'.gens∧Un (frs outer) [] H H' s.heap s'.heap∧HOk P w H' s'.heap∧RelV v u∧Q v H'
def CR (CX:CXT)(outer:List Env)(P:Program)(w:World)(H:Hp)(s:Shared)(Q:VK)(E:XK)(r:Result)(s':Shared):Prop:=
 match r with
 | .ok (.ret u)=>CE outer P w H s Q u s'
 | .ok _=>False
 | .error e=>CX outer H s E e s'
structure FnOk (P:Program) (w:World) (K:PySem.W.Frag) (mg:Str→Option Value) (base:Heap) (CX:CXT) (k:Nat) (f:Addr) (fd:FuncData) (ps:List Str) (sp:Sp):Prop where
 len:∀ vs H Q E,sp vs H Q E→vs.length=ps.length
 run:∀ (A:Around) (outer:List Env) (s:Shared) (H:Hp) (args:Args) (us:List Value) (vs:List V) (Q:VK) (E:XK),Room k A→Env0 P w K mg base A outer s H→BindsTo s fd args (ps.zip us)→qBv vs us→sp vs H Q E→
  codeAny (model P w) A (.call (.ref f) args) (CR CX outer P w H s Q E) s
theorem FnOk.mono {P:Program}{w:World}{K:PySem.W.Frag}{mg:Str→Option Value}{base:Heap}{CX:CXT}{j k:Nat}{f:Addr}{fd:FuncData}{ps:List Str}{sp:Sp}(F:FnOk P w K mg base CX j f fd ps sp)(h:j≤k) :
  FnOk P w K mg base CX k f fd ps sp:=⟨F.len,fun A outer s H args us vs Q E hr=>F.run A outer s H args us vs Q E (hr.mono h)⟩
theorem FnOk.imp {P:Program}{w:World}{K:PySem.W.Frag}{mg:Str→Option Value}{base:Heap}{CX:CXT}{k:Nat}{f:Addr}{fd:FuncData}{ps:List Str}{sp sp':Sp}(F:FnOk P w K mg base CX k f fd ps sp)
  (h:∀ vs H Q E,sp' vs H Q E→sp vs H Q E):FnOk P w K mg base CX k f fd ps sp':=
 ⟨fun vs H Q E q=>F.len vs H Q E (h _ _ _ _ q),fun A outer s H args us vs Q E hr he hb hv hs=>F.run A outer s H args us vs Q E hr he hb hv (h _ _ _ _ hs)⟩
theorem Env0.in1 {P:Program}{w:World}{K:PySem.W.Frag}{mg:Str→Option Value}{base:Heap}{A:Around}{outer:List Env}{s:Shared}{H:Hp}(e:Env0 P w K mg base A outer s H) :
  Env0 P w K mg base A.in1 outer s H:=⟨e.frames,e.mod,e.bs,e.bsz,e.funs,e.frf,e.hok,e.bare,e.tab⟩
section
variable {X:Cx}{pins:List (Addr×Obj)}{σ:St}{H:Hp}{s s':Shared}
theorem Inv.env0 (I:Inv X pins σ H s):Env0 X.prog X.w X.K X.mg X.base X.A X.stack s H:=
 ⟨I.ok.frames,I.ok.mod,I.bs,Nat.le_trans I.ok.bsz I.sz,I.stack,I.stkFree,I.hok,I.bare,fun x c P h1 h2=>I.base.tbls _ _ (I.ok.tab x c P h1 h2)⟩
theorem Inv.after {Q:VK}{u:Value}(I:Inv X pins σ H s)(h:CE X.stack X.prog X.w H s Q u s'):EP X pins σ Q u s':=by
 obtain ⟨v,H',os,bare,un,hok,r,q⟩:=h
 obtain ⟨hh,g,d,t,os'⟩:=s'
 obtain rfl:os'=s.os:=os
 exact ⟨v,H',I.call (h':=hh) (g':=g) (d':=d) (t':=t) (ch:=[]) un hok bare (fun b z=>absurd z #[7]),r,q⟩
end
def tCall (sp:Sp)(dvs:List V)(E:XK)(t:TA):TE:=fun σ H Q=>t σ H fun vs H1=>sp (vs++dvs) H1 Q E
def qKu (K:PySem.W.Frag)(fd:FuncData)(ps:List Str)(ds:List Value):Prop:=
 ∀ (s:Shared) (us:List Value),K.In s.heap→(us++ds).length=ps.length→BindsTo s fd ⟨us,[]⟩ (ps.zip (us++ds))
theorem qKu.all {K:PySem.W.Frag}{fd:FuncData}{ps:List Str}(h:∀ us:List Value,us.length=ps.length→bindArgs fd ⟨us,[]⟩=pure (ps.zip us)):qKu K fd ps []:=fun s us _ hl=>by
 rw [List.append_nil] at hl ⊢
 exact .of_eq (h us hl)
def qYe (CX:CXT)(X:Cx)(E:XK):Prop:=∀ (pins:List #[10]) (σ:St) (H:Hp) (s:Shared) (e:Value) (s':Shared),Inv X pins σ H s→CX X.stack H s E e s'→X.xe e s'
section
variable {X:Cx}{CX:CXT}{k:Nat}{f C:Addr}{fd:FuncData}{ps:List Str}{sp:Sp}{dvs:List V}{ds:List Value}{E:XK}{x m:Str}{p pos apos:Pos}{e o:Expr}{es:List Expr}{ta:TE}{t:TA}
theorem run_fn {pins:List #[10]}{σ:St}{H:Hp}{s:Shared}{Q:VK}{us:List Value}{vs:List V}(F:FnOk X.prog X.w X.K X.mg X.base CX k f fd ps sp)(hr:Room k X.A)(hb:qKu X.K fd ps ds)(hd:qBv dvs ds)(hx:qYe CX X E)
  (I:Inv X pins σ H s) (r:qBv vs us) (h:sp (vs++dvs) H Q E):wpAny #[12] X.A (call (.ref f) us) (EP X pins σ Q) X.xe s:=by
 have r2:qBv (vs++dvs) (us++ds):=r.append hd
 have hl:(us++ds).length=ps.length:=by rw [←r2.length];exact F.len _ _ _ _ h
 refine wpAny_call (codeAny_mono (F.run X.A X.stack s H ⟨us,[]⟩ (us++ds) (vs++dvs) Q E hr I.env0 (hb s us I.kIn hl) r2 h) fun r s' hq=>?_)
 cases r with
 | error e=>exact hx pins σ H s e s' I hq
 | ok fl=>
  cases fl with
  | ret u=>exact I.after hq
  | next=>exact False.elim hq
  | brk=>exact False.elim hq
  | cont=>exact False.elim hq
theorem qQ4 (F:FnOk X.prog X.w X.K X.mg X.base CX k f fd ps sp)(hr:Room k X.A)(hg:Gl X x)(hm:X.mg x=some (.ref f))(hk:PySem.W.keepIn X.K (.ref f)=true)(hb:qKu X.K fd ps ds)(hd:qBv dvs ds)(hx:qYe CX X E)
  (ha:PA X (e::es) t) (hdb:#[25]=false:=by decide) (he:starEach (e::es) X.env=#[38]::starEach es X.env:=by rfl) (hpl:#[77].any (·.1)=false:=by rfl) :
  PE X #[82] (tCall sp dvs E t):=by
 intro pins s σ H Q I h
 refine wpAny_Call_Name_kw (qM6 I hg hm ?_ hdb)
 refine PySem.W.callWith_K (h₀:=X.base) I.ok.mod.kin hk (thn (ha pos pins s σ H _ I h) fun us s1 ⟨vs,H1,I1,r,q⟩=>⟨I1.kIn,?_⟩) he hpl
 exact run_fn F hr hb hd hx I1 r q
structure Mk (K:PySem.W.Frag) (C f:Addr):Prop where
 makes:PySem.W.makesIn K C=true
 init:PySem.W.findIn K (.ref C) "__init__"=some (some (.ref f))
 fn:PySem.W.isFn K (.ref f)=true
 kp:PySem.W.keepIn K (.ref C)=true
end
section
variable {X:Cx}{CX:CXT}{k:Nat}{f C:Addr}{fd:FuncData}{ps ks:List Str}{sp:Sp}{E:XK}{x m:Str}{p pos apos kpos:Pos}{e o:Expr}{es:List Expr}{kws:List Keyword}{te ta:TE}{t tk:TA}{nm:Option Str}
structure KBinds (K:PySem.W.Frag) (fd:FuncData) (ps ks:List Str) (g:List Value→List Value→List Value) (gV:List V→List V→List V):Prop where
 to:∀ (s:Shared) (us ws:List Value),K.In s.heap→(g us ws).length=ps.length→BindsTo s fd ⟨us,ks.zip ws⟩ (ps.zip (g us ws))
 rel:∀ {vs:List V} {us:List Value} {zs:List V} {ws:List Value},qBv vs us→qBv zs ws→qBv (gV vs zs) (g us ws)
variable {g:List Value→List Value→List Value}{gV:List V→List V→List V}
end
structure FnScope (N P:List Str) (sc:Scope):Prop where
 kind:sc.kind=.function
 co:sc.isCoroutine=false
 gen:sc.isGenerator=false
 nd:N.Nodup
 pre:N.take P.length=P
 par:∀ x∈P,sc.names.lookup x=some .local∨sc.names.lookup x=some .cell
 nofree:∀ y∈sc.names,y.2≠.free
theorem qQc {kindOf:Str→Option NameKind}{x:Str}:∀ {binds:List (Str×Value)} {m:Str→Option Value},(∀ v,(x,v)∉binds)→bindL kindOf binds m x=m x
 | [],_,_=>rfl
 | (n,v)::r,m,h=>by
  unfold bindL
  rw [qQc fun w hw=>h w (List.mem_cons_of_mem _ hw)]
  split
  ·have:x≠n:=by rintro rfl;exact h v List.mem_cons_self
   simp [this]
  ·rfl
theorem qQe {kindOf:Str→Option NameKind}{x:Str}:∀ {binds:List (Str×Value)} {m:Str→Option Value},(∀ v,(x,v)∉binds)→bindC kindOf binds m x=m x
 | [],_,_=>rfl
 | (n,v)::r,m,h=>by
  unfold bindC
  rw [qQe fun w hw=>h w (List.mem_cons_of_mem _ hw)]
  split
  ·rfl
  ·have:x≠n:=by rintro rfl;exact h v List.mem_cons_self
   simp [this]
theorem qQd {kindOf:Str→Option NameKind}{x:Str}{v:Value}:∀ {P:List Str} {vs:List Value} {i:Nat} {m:Str→Option Value},P.Nodup→P[i]?=some x→vs[i]?=some v→kindOf x=some .local→
  bindL kindOf (P.zip vs) m x=some v
 | [],_,_,_,_,h,_,_=>by simp at h
 | _::_,[],_,_,_,_,h,_=>by simp at h
 | p::P,w::vs,0,m,nd,h1,h2,hk=>by
  simp at h1 h2;subst h1;subst h2
  show bindL kindOf ((p,w)::P.zip vs) m p=_
  unfold bindL
  rw [qQc fun v hv=>(List.nodup_cons.mp nd).1 (List.of_mem_zip hv).1,if_pos hk]
  simp
 | p::P,w::vs,i + 1,m,nd,h1,h2,hk=>by
  show bindL kindOf ((p,w)::P.zip vs) m x=_
  unfold bindL
  exact qQd (i:=i) (List.nodup_cons.mp nd).2 (by simpa using h1) (by simpa using h2) hk
theorem qQf {kindOf:Str→Option NameKind}{x:Str}{v:Value}:∀ {P:List Str} {vs:List Value} {i:Nat} {m:Str→Option Value},P.Nodup→P[i]?=some x→vs[i]?=some v→kindOf x≠some .local→
  bindC kindOf (P.zip vs) m x=some v
 | [],_,_,_,_,h,_,_=>by simp at h
 | _::_,[],_,_,_,_,h,_=>by simp at h
 | p::P,w::vs,0,m,nd,h1,h2,hk=>by
  simp at h1 h2;subst h1;subst h2
  show bindC kindOf ((p,w)::P.zip vs) m p=_
  unfold bindC
  rw [qQe fun v hv=>(List.nodup_cons.mp nd).1 (List.of_mem_zip hv).1,if_neg hk]
  simp
 | p::P,w::vs,i + 1,m,nd,h1,h2,hk=>by
  show bindC kindOf ((p,w)::P.zip vs) m x=_
  unfold bindC
  exact qQf (i:=i) (List.nodup_cons.mp nd).2 (by simpa using h1) (by simpa using h2) hk
def start (N:List Str)(vs:List V):St:=vs.map some++List.replicate (N.length - vs.length) none
def qRo (CX:CXT)(P:Program)(w:World)(K:PySem.W.Frag)(mg:Str→Option Value)(base:Heap)(N:List Str)(qual:Str)(scope:Scope)(f:Addr)(cd:Value)(A:Around)(outer:List Env)(s:Shared)(H:Hp)(E:XK):Cx where
 prog:=P
 w:=w
 K:=K
 mg:=mg
 base:=base
 A:=A.deeper (envOfC qual scope s.heap.objs.size f cd)
 N:=N
 s₀:=s
 H₀:=H
 env:=envOfC qual scope s.heap.objs.size f cd
 outer:=outer
 stack:=envOfC qual scope s.heap.objs.size f cd::outer
 ex:=[]
 calm:=true
 fn:=fun _=>true
 pn:=[]
 xe:=fun e s'=>wpAny (model P w) (A.deeper (envOfC qual scope s.heap.objs.size f cd)) (leaving (envOfC qual scope s.heap.objs.size f cd) e) (fun _ s''=>CX outer H s E e s'') (fun e' s''=>CX outer H s E e' s'') s'
theorem qS9 {sc:Scope}{n:Nat}{x:Str}(h:sc.names.lookup x=some .cell):∃ c,(cellsFrom n sc.names []).lookup x=some c:=by
 have q:=PySem.W.cellsFrom_some sc.names n [] (.inl h)
 exact Option.isSome_iff_exists.mp q
theorem qPb {CX:CXT}{P:Program}{w:World}{K:PySem.W.Frag}{mg:Str→Option Value}{base:Heap}{N ps:List Str}{qual:Str}{scope:Scope}{f:Addr}{cd:Value}{A:Around}{outer:List Env}{s s1:Shared}{H:Hp}{E:XK}{us:List Value}{vs:List V}
  (S:FnScope N ps scope) (hd:A.handled=none) (e0:Env0 P w K mg base A outer s H) (hl:vs.length=ps.length) (r:qBv vs us)
  (x:InCallC s s.heap.objs.size (bindL (envOfC qual scope s.heap.objs.size f cd).kindOf (ps.zip us) fun _=>none) (cellsFrom (s.heap.objs.size + 1) scope.names []) (bindC (envOfC qual scope s.heap.objs.size f cd).kindOf (ps.zip us) fun _=>none) s1) :
  Inv (qRo CX P w K mg base N qual scope f cd A outer s H E) [] (start N vs) H s1:=by
 have hpl:ps.length≤N.length:=by have:=congrArg List.length S.pre;rw [List.length_take] at this;omega
 obtain ⟨h1,tk,rfl,hk⟩:=x.done
 have noA:∀ b:Addr,b∉(qRo CX P w K mg base N qual scope f cd A outer s H E).ex:=fun b z=>absurd (show b∈([]:List Addr) from z) #[7]
 refine ⟨⟨e0.mod,S.kind,rfl,rfl,Nat.le_refl _,fun y z c h1 h2=>?_,fun y hy=>?_,fun y c _ h=>?_,fun _=>hd,Around.frames_deeper e0.frames,.inr ⟨rfl,rfl⟩,fun b z=>absurd z (noA b),e0.bs,e0.bsz,fun b _ _=>noA b,fun b z=>absurd z (noA b),e0.funs,e0.frf,e0.tab⟩,
  rfl,e0.bare,Un.kept hk,⟨_,x.toInCall.ns,fun i y v h1 h2 h3=>?_⟩,fun y c h=>⟨_,x.cell y c h⟩,e0.hok.fresh #[8],fun y c h=>?_,fun p hp=>absurd (show p∈([]:List #[10]) from hp) #[7],e0.hok.kept hk,?_⟩
 ·exact name_of_addr x.apart (PySem.mem_of_lookup h1) (PySem.mem_of_lookup h2)
 ·have hy:scope.names.lookup y=some .cell∨scope.names.lookup y=some .free:=hy
  rcases hy with hy | hy
  ·exact qS9 hy
  ·exact absurd rfl (S.nofree _ (PySem.mem_of_lookup hy))
 ·exact Nat.le_of_lt (x.above y c (PySem.mem_of_lookup h))
 ·have hi:i < vs.length:=by
   unfold start at h2
   by_cases hi:i < vs.length
   ·exact hi
   ·rw [List.getElem?_append_right (by simpa using hi)] at h2
    rw [List.getElem?_replicate] at h2
    split at h2 <;> cases h2
  have ha:vs[i]?=some v:=by
   unfold start at h2
   rw [List.getElem?_append_left (by simpa using hi),List.getElem?_map] at h2
   cases e:vs[i]? with
   | none=>rw [e] at h2;cases h2
   | some a=>rw [e] at h2;cases h2;rfl
  obtain ⟨u,hu,rv⟩:=r.get ha
  have hp:ps[i]?=some y:=by
   rw [←S.pre,List.getElem?_take_of_lt #[0]];exact h1
  have ndP:ps.Nodup:=by rw [←S.pre];exact S.nd.sublist (List.take_sublist _ _)
  refine ⟨u,rv,?_⟩
  rcases S.par y (List.mem_of_getElem? hp) with k | k
  ·exact .inl ⟨k,qQd ndP hp hu k⟩
  ·obtain ⟨c,e⟩:=qS9 (n:=s.heap.objs.size + 1) k
   refine .inr ⟨.inl k,c,e,?_⟩
   have q:=x.cell y c e
   rw [qQf ndP hp hu (by show scope.names.lookup y≠_;rw [k];decide)] at q
   exact q
 ·exact e0.hok.fresh (Nat.le_of_lt (x.above y c (PySem.mem_of_lookup h)))
 ·unfold start
  show _=N.length
  rw [List.length_append,List.length_map,List.length_replicate]
  omega
theorem fn_of {CX:CXT}{P:Program}{w:World}{K:PySem.W.Frag}{mg:Str→Option Value}{base:Heap}{k:Nat}{f:Addr}{name qual:Str}{params:Arguments}{body:List Stmt}{scope:Scope}{dV kV doc pm cdv ct oc:Value}{an od:Option Addr}
  {osl:Array (Option Value)} {N ps:List Str} {sp:Sp} (lk:K.lookup f=some ⟨oc,od,.func (PySem.W.fnOf name qual params body scope dV kV doc pm an cdv ct),osl⟩) (hcd:PySem.W.codeIn K cdv qual=true) (S:FnScope N ps scope)
  (len:∀ vs H Q E,sp vs H Q E→vs.length=ps.length)
  (hbody:∀ (A:Around) (outer:List Env) (s:Shared) (H:Hp) (vs:List V) (Q:VK) (E:XK),Room k (A.deeper (envOfC qual scope s.heap.objs.size f cdv))→sp vs H Q E→
   ∃ t,PSs (qRo CX P w K mg base N qual scope f cdv A outer s H E) body t∧t { nx:=fun _ H'=>Q .non H',rt:=Q } (start N vs) H) :
  FnOk P w K mg base CX (k + 1) f (PySem.W.fnOf name qual params body scope dV kV doc pm an cdv ct) ps sp:=by
 refine ⟨len,fun A outer s H args us vs Q E hr e0 hb r hsp=>?_⟩
 have hl:=len _ _ _ _ hsp
 have KX:K.In s.heap:=e0.mod.kin.keeps fun b o e=>(e0.bs b o e).1
 have lim:s.heap.NoLimit:=e0.mod.nolimit.keeps fun b o e=>(e0.bs b o e).1
 have hkind:∀ y∈ps.zip us,scope.names.lookup y.1=some .local∨(scope.names.lookup y.1=some .cell∧((cellsFrom (s.heap.objs.size + 1) scope.names []).lookup y.1).isSome=true):=fun ⟨n,v⟩ hy=>by
  rcases S.par n (List.of_mem_zip hy).1 with q | q
  ·exact .inl q
  ·exact .inr ⟨q,PySem.W.cellsFrom_some _ _ _ (.inl q)⟩
 refine codeAny_call_function hr.depth (KX _ _ lk) rfl S.co S.gen rfl (PySem.W.codeRec_of KX hcd) (hb _ _ _ _ ?_)
 refine wpAny_newFunctionEnv_cells S.kind hkind fun env he s1 x=>?_
 subst he
 refine ⟨lim.keeps x.toInCall.keep,codeAny_func ?_⟩
 obtain ⟨t,ht,hq⟩:=hbody A outer s H vs Q E (hr.deeper _) hsp
 have I:Inv (qRo CX P w K mg base N qual scope f cdv A outer s H E) [] (start N vs) H s1:=qPb S hr.hd e0 hl r x
 refine wpAny_mono (ht [] s1 (start N vs) H _ I hq) (fun fl s' hs=>?_) fun e s' hs=>hs
 have fin:∀ {σ':St} {H':Hp} {v:V} {u:Value},Inv (qRo CX P w K mg base N qual scope f cdv A outer s H E) [] σ' H' s'→RelV v u→Q v H'→CE outer P w H s Q u s':=
  fun {σ' H' v u} J rv q=>⟨v,H',J.os,J.bare,J.base,J.hok,rv,q⟩
 cases fl with
 | ret u=>
  obtain ⟨v,σ',H',J,rv,q⟩:=hs
  exact fin J rv q
 | next=>
  obtain ⟨σ',H',J,q⟩:=hs
  exact fin (v:=V.non) (u:=Value.none) J rfl q
 | brk=>
  obtain ⟨_,_,_,q⟩:=hs
  exact False.elim q
 | cont=>
  obtain ⟨_,_,_,q⟩:=hs
  exact False.elim q
open PySem PySem.Spec PyProof.Rows
section
variable {X:Cx}{x:Str}{p pos:Pos}{e:Expr}{es:List Expr}{t:TA}{id T:String}{r:List V→Hp→VK→Prop}
def tCB (r:List V→Hp→VK→Prop)(t:TA):TE:=fun σ H Q=>t σ H fun vs H1=>r vs H1 Q
theorem qMy (hc:qEo X (.builtin id) r)(hg:Gl X x)(hm:X.mg x=none)(hv:bootBuiltins x=some (.builtin id))(ha:PA X (e::es) t)(hn:x≠"__name__":=by decide)(hdb:#[25]=false:=by decide)
  (he:starEach (e::es) X.env=#[38]::starEach es X.env:=by rfl) (hpl:#[77].any (·.1)=false:=by rfl):PE X #[82] (tCB r t):=by
 intro pins s σ H Q I h
 refine wpAny_Call_Name_kw (qFc I hg hm hv ?_ hn hdb)
 exact PyProof.Rows.callWith_builtin1 (thn (ha pos pins s σ H _ I h) fun us s1 ⟨vs,H1,I1,r1,q1⟩=>hc pins s1 σ H1 vs us Q I1 r1 q1) he hpl
theorem qOv (hc:qEo X (.type T) r)(hg:Gl X x)(hm:X.mg x=none)(hv:bootBuiltins x=some (.type T))(ha:PA X (e::es) t)(hn:x≠"__name__":=by decide)(hdb:#[25]=false:=by decide)
  (he:starEach (e::es) X.env=#[38]::starEach es X.env:=by rfl) (hpl:#[77].any (·.1)=false:=by rfl):PE X #[82] (tCB r t):=by
 intro pins s σ H Q I h
 refine wpAny_Call_Name_kw (qFc I hg hm hv ?_ hn hdb)
 exact PyProof.Rows.callWith_type1 (thn (ha pos pins s σ H _ I h) fun us s1 ⟨vs,H1,I1,r1,q1⟩=>hc pins s1 σ H1 vs us Q I1 r1 q1) he hpl
end
end L2
namespace HT
open PySem PyProof.Rows
section
open PySem.SeqAt
open PySem.AutoSeq1 (wpAny_loadPart')
open PySem.MeetsSeq PySem.MeetsSeq2 PySem.MeetsSeq3
end
section
variable {prog:Program}{w:World}{A:Around}{E:Value→Shared→Prop}{s:Shared}
theorem cat_tup {t b:Addr}{vs ws:List Value}{Q:Value→Shared→Prop}(ht:IsTup s.heap t vs.toArray)(hb:IsTup s.heap b ws.toArray)(hv:vs≠[])
  (h1:ws=[]→Q (.ref t) s) (h2:ws≠[]→Q #[52] { s with heap:=s.heap.push { cls:=.type "tuple",data:=.seq (vs++ws).toArray } })
  (hsz:vs.length + ws.length≤sizeLine):wpAny #[22] A (binaryOp .Add (.ref t) (.ref b)) Q E s:=by
 obtain ⟨⟨cls,dd,data,sl⟩,ho,hc,n,hd⟩:=id ht
 obtain ⟨⟨cls2,dd2,data2,sl2⟩,ho2,hc2,n2,hd2⟩:=id hb
 simp only at hc hd hc2 hd2
 subst hc hd hc2 hd2
 have e:vs.toArray++ws.toArray=(vs++ws).toArray:=by simp
 by_cases hw:ws=[]
 ·exact concat_meets ⟨_,ho,rfl⟩ ⟨_,ho2,rfl⟩ noFill_tuple_add seq_tuple_add PySem.F.slot_tuple_add PySem.F.entry_tuple_add (PySem.F.args_tuple_add_2 _ _)
   (tuple_addW1 t b vs.toArray ws.toArray n n2 dd dd2 sl sl2 (by simpa using hv) (by simp [hw])) ⟨ho,ho2,h1 hw⟩
 ·refine concat_meets ⟨_,ho,rfl⟩ ⟨_,ho2,rfl⟩ noFill_tuple_add seq_tuple_add PySem.F.slot_tuple_add PySem.F.entry_tuple_add (PySem.F.args_tuple_add_2 _ _)
   (tuple_addW2 t b vs.toArray ws.toArray n n2 dd dd2 sl sl2 (by simpa using hv) (by simpa using hw) (by rw [List.size_toArray,List.size_toArray];exact hsz)) ⟨ho,ho2,?_⟩
  rw [e]
  exact h2 hw
def sIx (n d:Nat):Option Int→Nat
 | none=>d
 | some v=>if v < 0 then (v + (n:Int)).toNat else min v.toNat n
theorem sIx_le (n d:Nat)(hd:d≤n)(o:Option Int):sIx n d o≤n:=by
 cases o with
 | none=>exact hd
 | some v=>
  show (if v < 0 then (v + (n:Int)).toNat else min v.toNat n)≤n
  by_cases hv:v < 0
  ·rw [if_pos hv];omega
  ·rw [if_neg hv];exact Nat.min_le_right _ _
theorem qX5 (v:Int)(n d:Nat):(if v < 0 then max (v + (n:Int)) 0 else min v (n:Int))=((sIx n d (some v):Nat):Int):=by
 show (if v < 0 then max (v + (n:Int)) 0 else min v (n:Int))=(((if v < 0 then (v + (n:Int)).toNat else min v.toNat n):Nat):Int)
 by_cases hv:v < 0
 ·simp only [if_pos hv];omega
 ·simp only [if_neg hv];omega
theorem qUr (lo hi:Option Int)(n:Nat):Builtin.Slice.sliceAdjust lo hi 1 (n:Int)=(((sIx n 0 lo:Nat):Int),((sIx n n hi:Nat):Int)):=by
 have h1:¬ ((1:Int) < 0):=by omega
 unfold Builtin.Slice.sliceAdjust
 simp only [h1,if_false]
 refine Prod.ext ?_ ?_
 ·cases lo with
  | none=>rfl
  | some v=>exact qX5 v n 0
 ·cases hi with
  | none=>rfl
  | some v=>exact qX5 v n n
theorem qT1 (i j:Nat):Builtin.Slice.slicePlaces (i:Int) (j:Int) 1=j - i:=by
 unfold Builtin.Slice.slicePlaces
 have h1:(1:Int) > 0:=by omega
 simp only [h1,if_true,Int.ediv_one]
 split <;> omega
theorem qK7 {v:Value}{o:Option Int}{Q:Option Int→Shared→Prop}(p:IsPart v o)(h:Q o s):wpAny #[22] A (Builtin.Slice.slicePartIndex v) Q E s:=by
 cases p with
 | none=>exact slicePart_none h
 | int i t=>exact slicePart_int h
theorem qEp {sl:Addr}{vl vu:Value}{lo hi:Option Int}{n:Nat}{Q:Int×Int×Nat→Shared→Prop}(hs:s.heap.IsSliceOf sl vl vu .none)(pl:IsPart vl lo)(pu:IsPart vu hi)
  (h:Q (((sIx n 0 lo:Nat):Int),1,sIx n n hi - sIx n 0 lo) s):wpAny #[22] A (Builtin.Slice.sliceApplied (.ref sl) (pure (n:Int))) Q E s:=by
 obtain ⟨os,hos,hcs,hds⟩:=id hs
 unfold Builtin.Slice.sliceApplied Builtin.Slice.sliceFields
 refine wpAny_bind (wpAny_bind (wpAny_field hos hds (x:=vl) rfl (wpAny_bind (wpAny_field hos hds (x:=vu) rfl (wpAny_bind (wpAny_field hos hds (x:=.none) rfl (wpAny_pure ?_)))))))
 refine wpAny_bind (slicePart_none ?_)
 show wpAny _ _ (if ((1:Int) == 0)=true then _ else _) _ _ s
 rw [if_neg #[5]]
 refine wpAny_bind (qK7 pl (wpAny_bind (qK7 pu (wpAny_bind (wpAny_pure ?_)))))
 show wpAny _ _ (match Builtin.Slice.sliceAdjust lo hi 1 (n:Int) with | (lo,hi)=>pure (lo,(1:Int),Builtin.Slice.slicePlaces lo hi 1)) _ _ s
 rw [qUr lo hi n]
 show wpAny _ _ (pure (((sIx n 0 lo:Nat):Int),(1:Int),Builtin.Slice.slicePlaces ((sIx n 0 lo:Nat):Int) ((sIx n n hi:Nat):Int) 1)) _ _ s
 rw [qT1]
 exact wpAny_pure h
theorem qZq (xs:Array Value)(i k:Nat):((List.range k).filterMap fun (m:Nat)=>xs[((i:Int) + (m:Int) * 1).toNat]?).toArray=((xs.toList.drop i).take k).toArray:=by
 have e:(fun (m:Nat)=>xs[((i:Int) + (m:Int) * 1).toNat]?)=fun m=>xs[i + m]?:=by
  funext m
  have:((i:Int) + (m:Int) * 1).toNat=i + m:=by omega
  rw [this]
 rw [e]
 have:=pick_run xs i k
 rw [List.filterMap_map] at this
 have e2:((fun x=>xs[x]?) ∘ fun x=>i + x)=fun m=>xs[i + m]?:=rfl
 rw [e2] at this
 rw [this]
theorem getItem_tuple_cut {t sl:Addr}{items:Array Value}{vl vu:Value}{lo hi:Option Int}{Q:Value→Shared→Prop}(ht:IsTup s.heap t items)(hs:s.heap.IsSliceOf sl vl vu .none)(pl:IsPart vl lo)(pu:IsPart vu hi)
  (hw:¬ (sIx items.size 0 lo=0∧sIx items.size items.size hi=items.size))
  (h:Q #[52] { s with heap:=s.heap.push { cls:=.type "tuple",data:=.seq #[115].toArray } })
  (hsz:items.size≤sizeLine):wpAny #[22] A (getItem (.ref t) (.ref sl)) Q E s:=by
 have htake:sizeOk (.seq #[115].toArray):=by
  show #[115].toArray.size≤sizeLine
  rw [List.size_toArray,List.length_take,List.length_drop,Array.length_toList]
  omega
 have hj:sIx items.size items.size hi≤items.size:=sIx_le _ _ #[8] hi
 obtain ⟨os,hos,hcs,hds⟩:=id hs
 have hTs:s.TypeIs (.ref sl) "slice":=⟨os,hos,hcs⟩
 unfold getItem
 try with_reducible refine wpAny_holding ?_
 first | refine wpAny_bind (wpAny_pure ?_) | skip
 refine wpAny_bind (wpAny_sequenceKey ht.typeIs #[5] ?_)
 refine wpAny_bind (wpAny_callSpecial?_slot (name:=Str.ofString "__getitem__") ht.typeIs PyProof.Rows.slot_tuple_getitem
  (wpAny_call_entry PyProof.Rows.slot_tuple_getitem ht.typeIs entry_tuple_getitem ?_ (args_tuple_getitem _ _)))
 show wpAny _ _ (Builtin.Tuple.tupleItemsOf (.ref t)>>=_) _ _ s
 refine wpAny_bind (tupleItemsOf_ ht ?_)
 refine wpAny_bind (wpAny_typeOf hTs ?_)
 rw [if_pos #[5]]
 refine wpAny_bind (qEp hs pl pu ?_)
 have hno:¬ (#[101]=true):=by
  intro q
  rw [Bool.and_eq_true,Bool.and_eq_true] at q
  have q1:((sIx items.size 0 lo:Nat):Int)=0:=eq_of_beq q.1.1
  have q2:sIx items.size items.size hi - sIx items.size 0 lo=items.size:=eq_of_beq q.2
  exact hw ⟨by omega,by omega⟩
 show wpAny _ _ (if #[101]=true then _ else _) _ _ s
 rw [if_neg hno,qZq]
 first
  | exact wpAny_bind (m:=Builtin.Tuple.tupleExact _) (wpAny_newObj_type (wpAny_pure ⟨_,rfl,wpAny_pure h⟩) htake)
  | exact wpAny_bind (m:=Builtin.Tuple.tupleExact _) (wpAny_newObj_type (wpAny_bind (wpAny_pure (wpAny_pure ⟨_,rfl,wpAny_pure h⟩))) htake)
  | exact wpAny_bind (wpAny_bind (m:=Builtin.Tuple.tupleExact _) (wpAny_newObj_type (wpAny_pure (wpAny_pure ⟨_,rfl,wpAny_pure h⟩)) htake))
  | exact wpAny_bind (wpAny_bind (m:=Builtin.Tuple.tupleExact _) (wpAny_newObj_type (wpAny_pure ⟨_,rfl,wpAny_pure h⟩) htake))
end
end HT
namespace L2
open PySem PySem.Spec PyProof.Rows
abbrev TO:=St→Hp→(Option Int→Hp→Prop)→Prop
def PO (X:Cx)(e:Option Expr)(t:TO):Prop:=
 ∀ (pins:List #[10]) (s:Shared) (σ:St) (H:Hp) (Q:Option Int→Hp→Prop),Inv X pins σ H s→t σ H Q→
  wpAny #[12] X.A (evalPart e X.env) (fun u s'=>∃ o H',Inv X pins σ H' s'∧IsPart u o∧Q o H') X.xe s
def qck:TO:=fun _ H Q=>Q none H
def tPart (t:TE):TO:=fun σ H Q=>t σ H fun x H1=>∃ i,x=.int i∧Q (some i) H1
section
variable {X:Cx}{e:Expr}{te:TE}{lo hi:Option Expr}{tl th:TO}{pos p2:Pos}
theorem qdf:PO X none qck:=by
 intro pins s σ H Q I h
 rw [evalPart_none]
 exact wpAny_pure ⟨none,H,I,.none,h⟩
theorem qde (h:PE X e te):PO X (some e) (tPart te):=by
 intro pins s σ H Q I hw
 rw [evalPart_some]
 refine thn (h pins s σ H _ I hw) fun u s1 ⟨x,H1,I1,r1,q1⟩=>?_
 obtain ⟨i,rfl,q⟩:=q1
 obtain ⟨t,rfl⟩:=r1
 exact ⟨some i,H1,I1,.int i t,q⟩
def SlR (X:Cx)(r:V→Option Int→Option Int→Hp→VK→Prop):Prop:=
 ∀ (pins:List #[10]) (s:Shared) (σ:St) (H:Hp) (x:V) (v vl vu:Value) (lo hi:Option Int) (sl:Addr) (Q:VK),Inv X pins σ H s→RelV x v→s.heap.IsSliceOf sl vl vu .none→IsPart vl lo→IsPart vu hi→r x lo hi H Q→
  ∃ T id,typeLookup (.type T) "__getitem__"=pure (some (.builtin id))∧s.TypeIs v T∧wpAny #[12] X.A (getItem v (.ref sl)) (EP X pins σ Q) X.xe s
def tSl (r:V→Option Int→Option Int→Hp→VK→Prop)(te:TE)(tl th:TO):TE:=fun σ H Q=>te σ H fun x H1=>tl σ H1 fun l H2=>th σ H2 fun u H3=>r x l u H3 Q
theorem qZr {r:V→Option Int→Option Int→Hp→VK→Prop}(hr:SlR X r)(he:PE X e te)(hl:PO X lo tl)(hu:PO X hi th):PE X (.Subscript e (.Slice lo hi none p2) pos) (tSl r te tl th):=by
 intro pins s σ H Q I h
 refine Subscript_ (thn (he pins s σ H _ I h) fun v s1 ⟨x,H1,I1,r1,q1⟩=>?_)
 refine wpAny_Slice (thn (hl pins s1 σ H1 _ I1 q1) fun vl s2 ⟨l,H2,I2,pl,q2⟩=>thn (hu pins s2 σ H2 _ I2 q2) fun vu s3 ⟨u,H3,I3,pu,q3⟩=>?_)
 rw [evalPart_none]
 refine wpAny_pure ?_
 have I4:Inv X pins σ H3 { s3 with heap:=s3.heap.push { cls:=.type "slice",data:=.fields #[vl,vu,.none] } }:=I3.kept (t':=s3.toks) fun b ob q=>Heap.get?_push_of_some _ q
 obtain ⟨T,id,hT,ht,hg⟩:=hr pins { s3 with heap:=s3.heap.push { cls:=.type "slice",data:=.fields #[vl,vu,.none] } } σ H3 x v vl vu l u s3.heap.objs.size Q I4 r1 (Heap.IsSliceOf.new ..) pl pu q3
 show wpAny #[12] X.A (subscriptTail e (.Slice lo hi none p2) v (.ref s3.heap.objs.size)) (EP X pins σ Q) X.xe { s3 with heap:=s3.heap.push { cls:=.type "slice",data:=.fields #[vl,vu,.none] } }
 exact tail_any (ops:=[.ref s3.heap.objs.size,v]) ht hT hg #[65]
def qUl (xs:List V)(lo hi:Option Int):List V:=(xs.drop (HT.sIx xs.length 0 lo)).take (HT.sIx xs.length xs.length hi - HT.sIx xs.length 0 lo)
theorem qKl (xs:List V)(lo hi:Option Int):(qUl xs lo hi).length≤xs.length:=by
 unfold qUl
 rw [List.length_take,List.length_drop]
 omega
def rSlT (K:PySem.W.Frag):V→Option Int→Option Int→Hp→VK→Prop:=fun x lo hi H Q=>∃ a xs,x=.ref a∧SqT K H a xs∧
 ¬ (HT.sIx xs.length 0 lo=0∧HT.sIx xs.length xs.length hi=xs.length)∧∀ p,H p=none→Q (.ref p) (upd H p (.tup (qUl xs lo hi)))
theorem sl_tup:SlR X (rSlT X.K):=by
 intro pins s σ H x v vl vu lo hi sl Q I rx hs pl pu h
 obtain ⟨a,xs,rfl,hx,hw,q⟩:=h
 cases rx
 obtain ⟨its,r,ht,hz⟩:=I.tuple hx
 have hlen:its.toArray.size=xs.length:=by rw [List.size_toArray];exact r.length.symm
 refine ⟨"tuple",_,PyProof.Rows.slot_tuple_getitem.lookup,ht.typeIs,?_⟩
 refine HT.getItem_tuple_cut ht hs pl pu (by rw [hlen];exact hw) ?_ (by rw [hlen];exact hz)
 rw [hlen]
 refine ⟨.ref s.heap.objs.size,_,I.laid (t':=s.toks) (o:=.tup (qUl xs lo hi)) (fun b ob q=>Heap.get?_push_of_some _ q) #[8] ?_,rfl,q _ (I.hok.fresh #[8])⟩
 exact ⟨Nat.le_trans (qKl xs lo hi) hz,_,(r.drop (HT.sIx xs.length 0 lo)).take (HT.sIx xs.length xs.length hi - HT.sIx xs.length 0 lo),IsTup.new _ _⟩
def rCatT (K:PySem.W.Frag):R2:=fun x y H Q=>∃ a b xs ys,x=.ref a∧y=.ref b∧SqT K H a xs∧SqT K H b ys∧xs≠[]∧xs.length + ys.length≤sizeLine∧
 (ys=[]→Q (.ref a) H)∧(ys≠[]→∀ p,H p=none→Q (.ref p) (upd H p (.tup (xs++ys))))
theorem qBv.nil_iff {xs:List V}{us:List Value}(r:qBv xs us):us=[] ↔ xs=[]:=by
 cases r with
 | nil=>simp
 | cons _ _=>simp
theorem qdn:OpR X (binaryOp .Add) (rCatT X.K):=by
 intro pins s σ H x y v u Q I rx ry h
 obtain ⟨a,b,xs,ys,rfl,rfl,ha,hb,hx,hz,q1,q2⟩:=h
 cases rx
 cases ry
 obtain ⟨its,r1,p1,_⟩:=I.tuple ha
 obtain ⟨its2,r2,p2,_⟩:=I.tuple hb
 refine HT.cat_tup p1 p2 (fun z=>hx (r1.nil_iff.mp z)) (fun z=>⟨.ref a,H,I,rfl,q1 (r2.nil_iff.mp z)⟩) (fun z=>?_) (by rw [←r1.length,←r2.length];exact hz)
 refine ⟨.ref s.heap.objs.size,_,I.laid (t':=s.toks) (o:=.tup (xs++ys)) (fun b ob q=>Heap.get?_push_of_some _ q) #[8] ?_,rfl,q2 (fun w=>z (r2.nil_iff.mpr w)) _ (I.hok.fresh #[8])⟩
 exact ⟨by rw [List.length_append];exact hz,_,r1.append r2,IsTup.new _ _⟩
end
open PySem PySem.Spec PyProof.Rows
def ixN (n:Nat)(i:Int):Option Nat:=if 0≤i then (if i < n then some i.toNat else none) else if -(n:Int)≤i then some (i + n).toNat else none
def atI {α:Type}(xs:List α)(i:Int):Option α:=(ixN xs.length i).bind fun j=>xs[j]?
theorem qdy {n:Nat}{i:Int}{j:Nat}(h:ixN n i=some j):seqIndex? i n=some j∧j < n∧-(n:Int)≤i∧i < n:=by
 unfold ixN at h
 by_cases h0:0≤i
 ·rw [if_pos h0] at h
  by_cases h1:i < n
  ·rw [if_pos h1] at h
   have e:i.toNat=j:=Option.some.inj h
   exact ⟨by rw [seqIndex_of h0 h1,e],by omega,by omega,h1⟩
  ·rw [if_neg h1] at h;cases h
 ·rw [if_neg h0] at h
  by_cases h1:-(n:Int)≤i
  ·rw [if_pos h1] at h
   have e:(i + n).toNat=j:=Option.some.inj h
   exact ⟨by rw [seqIndex_neg #[0] h1,e],by omega,h1,by omega⟩
  ·rw [if_neg h1] at h;cases h
theorem qRr {α:Type}{xs:List α}{i:Int}{v:α}(h:atI xs i=some v):∃ j,seqIndex? i xs.length=some j∧xs[j]?=some v∧j < xs.length∧-(xs.length:Int)≤i∧i < xs.length:=by
 unfold atI at h
 cases e:ixN xs.length i with
 | none=>rw [e] at h;cases h
 | some j=>
  rw [e] at h
  obtain ⟨h1,h2,h3,h4⟩:=qdy e
  exact ⟨j,h1,h,h2,h3,h4⟩
def qYd (b:Expr):Prop:=∀ o i,subscripted b false o i=operate [o,i] (getItem o i)
def IxR (X:Cx)(r:R2):Prop:=
 ∀ (value slice:Expr) (pins:List #[10]) (s:Shared) (σ:St) (H:Hp) (x y:V) (v u:Value) (Q:VK),Inv X pins σ H s→RelV x v→RelV y u→r x y H Q→
  subscripted slice false v u=operate [v,u] (getItem v u)→wpAny #[12] X.A (subscriptTail value slice v u) (EP X pins σ Q) X.xe s
def MtR (X:Cx)(id:String)(r:V→List V→Hp→VK→Prop):Prop:=
 ∀ (pins:List #[10]) (s:Shared) (σ:St) (H:Hp) (x:V) (xs:List V) (v:Value) (us:List Value) (Q:VK),Inv X pins σ H s→RelV x v→qBv xs us→r x xs H Q→
  wpAny #[12] X.A (call (.builtin id) (v::us)) (EP X pins σ Q) X.xe s
section
variable {X:Cx}{a b:Expr}{ta tb:TE}{pos:Pos}
theorem pe_ix {r:R2}(hr:IxR X r)(ha:PE X a ta)(hb:PE X b tb)(hs:qYd b):PE X (.Subscript a b pos) (tOp r ta tb):=by
 intro pins s σ H Q I h
 exact Subscript_ (binT ha hb I h fun v u s2 x y H2 I2 rx ry q=>hr a b pins s2 σ H2 x y v u Q I2 rx ry q (hs _ _))
def rIxL (K:PySem.W.Frag):R2:=fun x y H Q=>∃ p xs i v,x=.ref p∧y=.int i∧SqL K H p xs∧atI xs i=some v∧Q v H
def rIxT (K:PySem.W.Frag):R2:=fun x y H Q=>∃ p xs i v,x=.ref p∧y=.int i∧SqT K H p xs∧atI xs i=some v∧Q v H
def rIxS:R2:=fun x y H Q=>∃ z i c,x=.str z∧y=.int i∧z.length≤sizeLine∧atI z.cps.toList i=some c∧Q (.str ⟨#[c]⟩) H
theorem qdv:IxR X (rIxL X.K):=by
 intro value slice pins s σ H x y v u Q I rx ry h hs
 obtain ⟨p,xs,i,z,rfl,rfl,hq,he,q⟩:=h
 cases rx
 obtain ⟨t,rfl⟩:=ry
 obtain ⟨its,r,pl,hz⟩:=I.list hq
 obtain ⟨j,h1,h2,h3,h4,h5⟩:=qRr he
 obtain ⟨w,ew,rw'⟩:=r.get h2
 have hl:=r.length
 have hn:=qJ6
 have fin:EP X pins σ Q w s:=⟨z,H,I,rw',q⟩
 by_cases h0:0≤i
 ·have hj:i.toNat=j:=by
   rw [seqIndex_of h0 h5] at h1
   exact Option.some.inj h1
  exact item_listR pl.isList h0 #[0] (by rw [hj];simpa using ew) fin hs
 ·have hj:(i + (its.toArray.size:Int)).toNat=j:=by
   rw [seqIndex_neg #[0] h4] at h1
   rw [List.size_toArray,←hl]
   exact Option.some.inj h1
  exact subscriptTail_builtinR (x:=w) pl.isList.typeIs slot_list_getitem.lookup
   (wpAny_getItem_list_neg (Q:=fun r s'=>r=w∧EP X pins σ Q r s') pl.isList #[0] (by rw [List.size_toArray] <;> omega) #[0] (by rw [hj];simpa using ew) ⟨rfl,fin⟩) hs
theorem ix_tup:IxR X (rIxT X.K):=by
 intro value slice pins s σ H x y v u Q I rx ry h hs
 obtain ⟨p,xs,i,z,rfl,rfl,hq,he,q⟩:=h
 cases rx
 obtain ⟨t,rfl⟩:=ry
 obtain ⟨its,r,pl,hz⟩:=I.tuple hq
 obtain ⟨j,h1,h2,h3,h4,h5⟩:=qRr he
 obtain ⟨w,ew,rw'⟩:=r.get h2
 have hl:=r.length
 have hn:=qJ6
 have fin:EP X pins σ Q w s:=⟨z,H,I,rw',q⟩
 exact subscriptTail_builtinR (x:=w) pl.typeIs slot_tuple_getitem.lookup
  (getItem_tuple (j:=j) (Q:=fun r s'=>r=w∧EP X pins σ Q r s') pl #[0] #[0] (by rw [List.size_toArray,←hl];exact h1) (by simpa using ew) ⟨rfl,fin⟩) hs
theorem ix_str:IxR X rIxS:=by
 intro value slice pins s σ H x y v u Q I rx ry h hs
 obtain ⟨z,i,c,rfl,rfl,hz,he,q⟩:=h
 obtain ⟨t,rfl⟩:=rx
 obtain ⟨t',rfl⟩:=ry
 obtain ⟨j,h1,h2,h3,h4,h5⟩:=qRr he
 have hl:z.cps.toList.length=z.length:=by simp [Str.length]
 rw [hl] at h1 h4 h5
 have hn:=qJ6
 exact tail_any (typeIs_str s z t) slot_str_getitem.lookup (getItem_str (c:=c) (by
  have e1:decide (i < -(2 ^ 63:Int))=false:=decide_eq_false #[0]
  have e2:decide (i ≥ 2 ^ 63)=false:=decide_eq_false #[0]
  rw [e1,e2,Bool.or_false]) (by rw [h1];simpa using h2) ⟨.str ⟨#[c]⟩,H,I.tok _,⟨_,rfl⟩,q⟩) hs
theorem Inv.lst {pins:List #[10]}{σ:St}{H:Hp}{s:Shared}{p:Addr}{xs:List V}(I:Inv X pins σ H s)(h:H p=some (.lst xs)) :
  ∃ (its:List Value) (n:Nat),qBv xs its∧s.heap.get? p=some { cls:=.type "list",data:=.seq its.toArray n }∧xs.length≤sizeLine:=by
 obtain ⟨z,its,n,r,e⟩:=I.hok p _ h
 exact ⟨its,n,r,e,z⟩
theorem qN5 (lo hi:Option Int)(n:Nat):(sliceBounds lo hi none n).1=((HT.sIx n 0 lo:Nat):Int)∧(sliceBounds lo hi none n).2.1=((HT.sIx n n hi:Nat):Int)∧(sliceBounds lo hi none n).2.2=1:=by
 refine ⟨?_,?_,rfl⟩
 ·cases lo with
  | none=>simp [sliceBounds,HT.sIx]
  | some i=>
   simp only [sliceBounds,HT.sIx,Option.getD_none,show (1:Int) > 0 by decide,if_true]
   by_cases h:i < 0
   ·simp only [h,if_true] <;> omega
   ·simp only [h,if_false] <;> omega
 ·cases hi with
  | none=>simp [sliceBounds,HT.sIx]
  | some i=>
   simp only [sliceBounds,HT.sIx,Option.getD_none,show (1:Int) > 0 by decide,if_true]
   by_cases h:i < 0
   ·simp only [h,if_true] <;> omega
   ·simp only [h,if_false] <;> omega
theorem qMm (its:List Value)(lo hi:Option Int):slicePick its.toArray lo hi none=((its.drop (HT.sIx its.length 0 lo)).take (HT.sIx its.length its.length hi - HT.sIx its.length 0 lo)).toArray:=by
 obtain ⟨h1,h2,h3⟩:=qN5 lo hi its.toArray.size
 unfold slicePick
 rw [h1,h2,h3]
 simp only [sliceRange_one,pick_run,List.size_toArray] <;> rfl
def rSlL (K:PySem.W.Frag):V→Option Int→Option Int→Hp→VK→Prop:=fun x lo hi H Q=>∃ a xs,x=.ref a∧SqL K H a xs∧∀ p,H p=none→Q (.ref p) (upd H p (.lst (qUl xs lo hi)))
theorem qcq:SlR X (rSlL X.K):=by
 intro pins s σ H x v vl vu lo hi sl Q I rx hs pl pu h
 obtain ⟨a,xs,rfl,hx,q⟩:=h
 cases rx
 obtain ⟨its,r,ht,hz⟩:=I.list hx
 have hlen:=r.length
 refine ⟨"list",_,slot_list_getitem.lookup,ht.isList.typeIs,?_⟩
 refine wpAny_getItem_list_slice ht.isList hs pl pu .none #[7] ?_ (by rw [List.size_toArray] <;> omega)
 rw [qMm,←hlen]
 refine ⟨.ref s.heap.objs.size,_,I.laid (t':=s.toks) (o:=.lst (qUl xs lo hi)) (fun b ob q=>Heap.get?_push_of_some _ q) #[8] ?_,rfl,q _ (I.hok.fresh #[8])⟩
 exact ⟨Nat.le_trans (qKl xs lo hi) hz,_,0,(r.drop (HT.sIx xs.length 0 lo)).take (HT.sIx xs.length xs.length hi - HT.sIx xs.length 0 lo),Heap.get?_push_size _ rfl⟩
theorem qP9:qEo X (.builtin "len") (fun xs H Q=>∃ p ys,xs=[.ref p]∧(SqL X.K H p ys∨SqT X.K H p ys)∧Q (.int ys.length) H):=by
 intro pins s σ H xs us Q I r h
 obtain ⟨p,ys,rfl,hq,q⟩:=h
 obtain ⟨u,rfl,rx⟩:=qQm r
 cases rx
 have hn:=qJ6
 rcases hq with hq | hq
 ·obtain ⟨its,r',pl,hz⟩:=I.list hq
  have hlen:=r'.length
  exact Calls.call_len_list pl.isList (by simp only [List.size_toArray] <;> omega) ⟨.int ys.length,H,I.tok _,⟨s.toks + 1,by rw [List.size_toArray,hlen]⟩,q⟩
 ·obtain ⟨its,r',pl,hz⟩:=I.tuple hq
  have hlen:=r'.length
  exact len_tuple pl (by simp only [List.size_toArray] <;> omega) ⟨.int ys.length,H,I.tok _,⟨s.toks + 1,by rw [List.size_toArray,hlen]⟩,q⟩
theorem qP8:qEo X (.builtin "len") (fun xs H Q=>∃ z,xs=[.str z]∧z.length≤sizeLine∧Q (.int z.length) H):=by
 intro pins s σ H xs us Q I r h
 obtain ⟨z,rfl,hz,q⟩:=h
 obtain ⟨u,rfl,t,rfl⟩:=qQm r
 have hn:=qJ6
 exact len_str #[0] ⟨.int z.length,H,I.tok _,⟨_,rfl⟩,q⟩
theorem qP7:qEo X (.type "list") (fun xs H Q=>∃ p ys,xs=[.ref p]∧(SqL X.K H p ys∨SqT X.K H p ys)∧∀ l,H l=none→Q (.ref l) (upd H l (.lst ys))):=by
 intro pins s σ H xs us Q I r h
 obtain ⟨p,ys,rfl,hq,q⟩:=h
 obtain ⟨u,rfl,rx⟩:=qQm r
 cases rx
 have fin:∀ (its:List Value),qBv ys its→ys.length≤sizeLine→∀ (h':Heap) (c':Nat),(∀ b o',s.heap.get? b=some o'→h'.get? b=some o')→
   h'.get? s.heap.objs.size=some { cls:=.type "list",dict:=none,data:=.seq its.toArray c',slots:=#[] }→EP X pins σ Q #[52] { s with heap:=h' }:=fun its r' hz h' c' kp e=>
  ⟨.ref s.heap.objs.size,_,I.laid (t':=s.toks) kp #[8] (show qB8 X.prog X.w _ h' _ (.lst ys) from ⟨hz,its,c',r',e⟩),rfl,q _ (I.hok.fresh #[8])⟩
 rcases hq with hq | hq
 ·obtain ⟨its,r',pl,hz⟩:=I.list hq
  have hlen:=r'.length
  obtain ⟨o,ho,hc,n,hd⟩:=pl.isList
  exact call_list_seq p (.inl rfl) ho hc hd (fun h' c' kp e=>fin its r' hz h' c' kp e) (by simp only [List.size_toArray] <;> omega)
 ·obtain ⟨its,r',pl,hz⟩:=I.tuple hq
  have hlen:=r'.length
  obtain ⟨o,ho,hc,n,hd⟩:=pl
  exact call_list_seq p (.inr rfl) ho hc hd (fun h' c' kp e=>fin its r' hz h' c' kp e) (by simp only [List.size_toArray] <;> omega)
theorem qHf:qEo X (.type "tuple") (fun xs H Q=>∃ p ys,xs=[.ref p]∧((SqL X.K H p ys∧∀ l,H l=none→Q (.ref l) (upd H l (.tup ys)))∨(SqT X.K H p ys∧Q (.ref p) H))):=by
 intro pins s σ H xs us Q I r h
 obtain ⟨p,ys,rfl,h⟩:=h
 obtain ⟨u,rfl,rx⟩:=qQm r
 cases rx
 rcases h with ⟨hq,q⟩ | ⟨hq,q⟩
 ·obtain ⟨its,r',pl,hz⟩:=I.list hq
  have hlen:=r'.length
  refine call_tuple_list pl.isList (fun h' kp=>?_) (by simp only [List.size_toArray] <;> omega)
  have I1:Inv X pins σ H { s with heap:=h' }:=I.kept (t':=s.toks) kp
  have I2:Inv X pins σ (upd H h'.objs.size (.tup ys)) { s with heap:=h'.push { cls:=.type "tuple",data:=.seq its.toArray } }:=
   I1.laid (t':=s.toks) (fun b o e=>Heap.get?_push_of_some _ e) #[8] (show qB8 X.prog X.w _ _ _ (.tup ys) from ⟨hz,its,r',IsTup.new _ _⟩)
  exact ⟨.ref h'.objs.size,_,I2,rfl,q _ (I1.hok.fresh #[8])⟩
 ·obtain ⟨its,r',pl,hz⟩:=I.tuple hq
  exact call_tuple_same pl ⟨.ref p,H,I,rfl,q⟩
def tyV (K:PySem.W.Frag)(T:String)(x:V)(H:Hp):Prop:=match x with
 | .str _=>T="str"
 | .int _=>T="int"
 | .ref p=>(T="list"∧∃ xs,SqL K H p xs)∨(T="tuple"∧∃ o,K.lookup p=some o∧o.cls=.type "tuple"∧o.dict=none)∨
   (T="dict"∧((∃ kvs,H p=some (.dK kvs))∨∃ kvs,H p=some (.dT kvs)))∨(T="set"∧∃ S n,H p=some (.set S n))
 | _=>False
theorem qbc {pins:List #[10]}{σ:St}{H:Hp}{s:Shared}{T:String}{x:V}{v:Value}(I:Inv X pins σ H s)(r:RelV x v)(ty:tyV X.K T x H) :
  s.TypeIs v T∧∀ a,v=.ref a→∃ ob,s.heap.get? a=some ob∧ob.dict=none:=by
 cases x with
 | str z=>
  obtain ⟨t,rfl⟩:=r
  cases (show T="str" from ty)
  exact ⟨typeIs_str s z t,fun _ e=>nomatch e⟩
 | int i=>
  obtain ⟨t,rfl⟩:=r
  cases (show T="int" from ty)
  exact ⟨typeIs_int s i t,fun _ e=>nomatch e⟩
 | ref p=>
  cases r
  rcases ty with ⟨rfl,xs,hq⟩ | ⟨rfl,o,hk,hc,hd⟩ | ⟨rfl,hk⟩ | ⟨rfl,S,n,hk⟩
  ·obtain ⟨its,_,pl,_⟩:=I.list hq
   refine ⟨pl.isList.typeIs,fun a e=>?_⟩
   cases e
   obtain ⟨o,n,e,c,hd,_⟩:=pl
   exact ⟨o,e,hd⟩
  ·refine ⟨⟨o,I.kIn p o hk,hc⟩,fun a e=>?_⟩
   cases e
   exact ⟨o,I.kIn _ o hk,hd⟩
  ·have z:∃ o,s.heap.get? p=some o∧o.ExactDict:=by
    rcases hk with ⟨kvs,hk⟩ | ⟨kvs,hk⟩
    ·obtain ⟨_,_,_,_,o,_,_,e,ex,_⟩:=I.hok p _ hk
     exact ⟨o,e,ex⟩
    ·obtain ⟨_,_,_,_,o,_,_,e,ex,_⟩:=I.hok p _ hk
     exact ⟨o,e,ex⟩
   obtain ⟨o,e,ex⟩:=z
   refine ⟨⟨o,e,ex.1⟩,fun a e2=>?_⟩
   cases e2
   exact ⟨o,e,ex.2.1⟩
  ·obtain ⟨o,_,_,_,e,ex,_⟩:=I.hok p _ hk
   refine ⟨⟨o,e,ex.1⟩,fun a e2=>?_⟩
   cases e2
   exact ⟨o,e,ex.2.1⟩
 | _=>exact False.elim ty
def tBM0 (K:PySem.W.Frag)(T:String)(r:V→List V→Hp→VK→Prop)(to:TE):TE:=fun σ H Q=>to σ H fun x H1=>tyV K T x H1∧r x [] H1 Q
def tBM (K:PySem.W.Frag)(T:String)(r:V→List V→Hp→VK→Prop)(to:TE)(t:TA):TE:=fun σ H Q=>to σ H fun x H1=>tyV K T x H1∧t σ H1 fun xs H2=>r x xs H2 Q
variable {o e:Expr}{es:List Expr}{to:TE}{t:TA}{name:Str}{apos cpos:Pos}{T id:String}{r:V→List V→Hp→VK→Prop}
theorem pe_bm0 (pa:PlainAttrs T)(slot:Slot T name id)(hty:typeOf (.builtin id)=pure (.type "method_descriptor"))(hm:MtR X id r)(ho:PE X o to)
  (hbase:attributeBase o name X.env (eval o X.env)=eval o X.env:=by rfl) (hline:#[79]=true:=by rfl):PE X (.Call (.Attribute o name apos) [] [] cpos) (tBM0 X.K T r to):=by
 intro pins s σ H Q I h
 refine wpAny_Call_method0_late hbase hline (thn (ho pins s σ H _ I h) fun v s1 ⟨x,H1,I1,r1,ty,q1⟩=>?_)
 obtain ⟨h1,h2⟩:=qbc I1 r1 ty
 exact ⟨T,id,pa,slot,hty,h1,h2,Calls.callWith_builtin rfl (PySem.evalArgs_none (hm pins s1 σ H1 x [] v [] Q I1 r1 .nil q1))⟩
theorem qZw (pa:PlainAttrs T)(slot:Slot T name id)(hty:typeOf (.builtin id)=pure (.type "method_descriptor"))(hm:MtR X id r)(ho:PE X o to)(ha:PA X (e::es) t)
  (hbase:attributeBase o name X.env (eval o X.env)=eval o X.env:=by rfl)
  (hfew:((backTo cpos (starEach (e::es) X.env)).all (fun x=>!x.1) && #[91].all (fun x=>x.1.isSome)
   && decide ((e::es).length + ([]:List Keyword).length + #[90] < 30))=true:=by rfl)
  (hline:#[79]=true:=by rfl) (hs:starEach (e::es) X.env=#[38]::starEach es X.env:=by rfl) (hplain:(backTo cpos (starEach es X.env)).any (·.1)=false:=by rfl) :
  PE X (.Call (.Attribute o name apos) (e::es) [] cpos) (tBM X.K T r to t):=by
 intro pins s σ H Q I h
 refine wpAny_Call_method_late hbase hfew hline rfl (thn (ho pins s σ H _ I h) fun v s1 ⟨x,H1,I1,r1,ty,q1⟩=>?_)
 obtain ⟨h1,h2⟩:=qbc I1 r1 ty
 refine ⟨T,id,pa,slot,hty,h1,h2,?_⟩
 have hA:=ha cpos pins s1 σ H1 _ I1 q1
 rw [hs] at hA ⊢
 refine Calls.callWith_builtin (by show (false || (backTo cpos (starEach es X.env)).any (·.1))=false;rw [hplain] <;> rfl) (Calls.evalArgs_plain ?_)
 exact thn hA fun us s2 ⟨vs,H2,I2,r2,q2⟩=>hm pins s2 σ H2 x vs v us Q I2 r1 r2 q2
end
open PySem PySem.Spec PyProof.Rows
def MtM (X:Cx)(id:String)(r:V→List V→Hp→VK→Prop):Prop:=
 ∀ (pins:List #[10]) (s:Shared) (σ:St) (H:Hp) (x:V) (xs:List V) (v:Value) (us:List Value) (Q:VK),Inv X pins σ H s→RelV x v→qBv xs us→r x xs H Q→
  wpAny #[12] X.A (call (.builtin id) (v::us)) (EP X pins σ Q) X.xe s
theorem qBv.one:∀ {x:V} {us:List Value},qBv [x] us→∃ u,us=[u]∧RelV x u
 | _,_,.cons r .nil=>⟨_,rfl,r⟩
theorem qBv.two:∀ {x y:V} {us:List Value},qBv [x,y] us→∃ u v,us=[u,v]∧RelV x u∧RelV y v
 | _,_,_,.cons r (.cons q .nil)=>⟨_,_,rfl,r,q⟩
theorem qBv.zero:∀ {us:List Value},qBv [] us→us=[]
 | _,.nil=>rfl
theorem qBv.dropLast {xs:List V}{us:List Value}(h:qBv xs us):qBv xs.dropLast us.dropLast:=by
 induction h with
 | nil=>exact .nil
 | cons r t ih=>
  cases t with
  | nil=>exact .nil
  | cons q t'=>exact .cons r ih
theorem qBv.eraseIdx:∀ {xs:List V} {us:List Value} (i:Nat),qBv xs us→qBv (xs.eraseIdx i) (us.eraseIdx i)
 | _,_,_,.nil=>.nil
 | _,_,0,.cons _ t=>t
 | _,_,i + 1,.cons r t=>.cons r (qBv.eraseIdx i t)
theorem qBv.reverse {xs:List V}{us:List Value}(h:qBv xs us):qBv xs.reverse us.reverse:=by
 induction h with
 | nil=>exact .nil
 | cons r t ih=>rw [List.reverse_cons,List.reverse_cons];exact qBv.append ih (.cons r .nil)
theorem qBv.rep {xs:List V}{us:List Value}(h:qBv xs us):∀ k:Nat,qBv (List.replicate k xs).flatten (List.replicate k us).flatten
 | 0=>.nil
 | k + 1=>by
  rw [List.replicate_succ,List.replicate_succ,List.flatten_cons,List.flatten_cons]
  exact qBv.append h (qBv.rep h k)
theorem qUk {α:Type}(l:List α):l.eraseIdx (l.length - 1)=l.dropLast:=by
 induction l with
 | nil=>rfl
 | cons a r ih=>
  cases r with
  | nil=>rfl
  | cons b r=>
   have e:(a::b::r).length - 1=((b::r).length - 1) + 1:=by
    have h1:(a::b::r).length=r.length + 2:=rfl
    have h2:(b::r).length=r.length + 1:=rfl
    omega
   rw [e,List.eraseIdx_cons_succ,ih]
   all_goals rfl
theorem qO5 {α:Type}:∀ (l:List α) (i:Nat),(l.eraseIdx i).length≤l.length
 | [],_=>Nat.le_refl _
 | _::_,0=>Nat.le_succ _
 | _::r,i + 1=>Nat.succ_le_succ (qO5 r i)
section
variable {X:Cx}{pins:List (Addr×Obj)}{σ:St}{H:Hp}{s:Shared}{l b:Addr}{xs ys zs:List V}
theorem Inv.lset {its its':List Value}{n:Nat}{f:Array Value→Array Value}{t':Nat}(I:Inv X pins σ H s)(hH:H l=some (.lst xs))
  (e:s.heap.get? l=some { cls:=.type "list",data:=.seq its.toArray n }) (hf:f its.toArray=its'.toArray) (hv:qBv ys its') (hz:ys.length≤sizeLine) :
  Inv X pins σ (upd H l (.lst ys)) { s with heap:=s.heap.update l (Obj.mapSeq f),toks:=t' }:=by
 have q:=PySem.IsL.update e f
 rw [hf] at q
 refine I.write (x:=l) (e:=l) (by rw [hH];exact trivial) (.inl rfl) (fun b' u hb hu=>(Heap.get?_update_other s.heap (Obj.mapSeq f) (Ne.symm hb)).trans hu) ⟨_,q⟩ ?_
 exact ⟨hz,its',_,hv,q⟩
theorem Inv.lnew {its:List Value}{t':Nat}(I:Inv X pins σ H s)(hv:qBv ys its)(hz:ys.length≤sizeLine) :
  Inv X pins σ (upd H s.heap.objs.size (.lst ys)) { s with heap:=s.heap.push { cls:=.type "list",data:=.seq its.toArray },toks:=t' }:=
 I.laid (fun _ _ q=>Heap.get?_push_of_some _ q) #[8] ⟨hz,its,0,hv,Heap.get?_push_size _ rfl⟩
theorem Inv.fresh (I:Inv X pins σ H s):H s.heap.objs.size=none:=I.hok.fresh #[8]
theorem Inv.lstM (I:Inv X pins σ H s)(hH:H l=some (.lst xs)):xs.length≤sizeLine∧∃ (its:List Value) (n:Nat),qBv xs its∧xs.length=its.length∧s.heap.get? l=some { cls:=.type "list",data:=.seq its.toArray n }:=by
 obtain ⟨z,its,n,r,e⟩:=I.hok l _ hH
 exact ⟨z,its,n,r,r.length,e⟩
theorem qZz {n:Nat}(h:n≤sizeLine):Builtin.List.listTooLong n=false:=by
 unfold Builtin.List.listTooLong
 exact decide_eq_false #[0]
end
section
variable {X:Cx}
def qc0:V→List V→Hp→VK→Prop:=fun x vs H Q=>∃ l xs y,x=.ref l∧vs=[y]∧H l=some (.lst xs)∧xs.length < sizeLine∧Q .non (upd H l (.lst (xs++[y])))
theorem qJ4:MtM X "list.append" qc0:=by
 intro pins s σ H x vs v us Q I rx rv h
 obtain ⟨l,xs,y,rfl,rfl,hH,hz,q⟩:=h
 cases rx
 obtain ⟨u,rfl,ru⟩:=rv.one
 obtain ⟨z,its,n,r,hl,e⟩:=I.lstM hH
 refine call_meets F.slot_list_append ⟨_,e,rfl⟩ F.entry_list_append (F.args_list_append_2 _ _) (PySem.list_append l its.toArray n u (by rw [List.size_toArray];omega)) ⟨e,?_⟩
 refine ⟨.non,_,I.lset (its':=its++[u]) hH e #[7] (r.append (.cons ru .nil)) ?_,rfl,q⟩
 rw [List.length_append,List.length_singleton]
 omega
def qcz:V→List V→Hp→VK→Prop:=fun x vs H Q=>∃ l b xs zs,x=.ref l∧vs=[.ref b]∧H l=some (.lst xs)∧H b=some (.lst zs)∧xs.length + zs.length≤sizeLine∧Q .non (upd H l (.lst (xs++zs)))
theorem qWm:MtM X "list.extend" qcz:=by
 intro pins s σ H x vs v us Q I rx rv h
 obtain ⟨l,b,xs,zs,rfl,rfl,hH,hB,hz,q⟩:=h
 cases rx
 obtain ⟨u,rfl,ru⟩:=rv.one
 cases ru
 obtain ⟨z,its,n,r,hl,e⟩:=I.lstM hH
 obtain ⟨z2,its2,n2,r2,hl2,e2⟩:=I.lstM hB
 have hsz:its.toArray.size + its2.toArray.size≤sizeLine:=by rw [List.size_toArray,List.size_toArray];omega
 have hlong:¬ (!its.toArray.isEmpty && Builtin.List.listTooLong (its.toArray.size + its2.toArray.size))=true:=by
  rw [qZz hsz,Bool.and_false]
  exact Bool.false_ne_true
 refine call_meets F.slot_list_extend ⟨_,e,rfl⟩ F.entry_list_extend (F.args_list_extend_2 _ _)
  (AutoSeq1.list_extend_list_list_0 l its.toArray n b its2.toArray n2 hlong (by rw [List.size_toArray];omega) #[0]) ⟨e,e2,?_⟩
 refine ⟨.non,_,I.lset (its':=its++its2) hH e #[7] (r.append r2) ?_,rfl,q⟩
 rw [List.length_append]
 omega
def rPop:V→List V→Hp→VK→Prop:=fun x vs H Q=>∃ l xs y,x=.ref l∧vs=[]∧H l=some (.lst xs)∧xs[xs.length - 1]?=some y∧Q y (upd H l (.lst xs.dropLast))
theorem mt_pop:MtM X "list.pop" rPop:=by
 intro pins s σ H x vs v us Q I rx rv h
 obtain ⟨l,xs,y,rfl,rfl,hH,hy,q⟩:=h
 cases rx
 have hus:=rv.zero
 subst hus
 obtain ⟨z,its,n,r,hl,e⟩:=I.lstM hH
 obtain ⟨u,hu,ru⟩:=r.get hy
 have hy':its.toArray[its.toArray.size - 1]?=some u:=by
  show its.toArray[its.length - 1]?=some u
  rw [←Array.getElem?_toList,←hl]
  exact hu
 refine call_meets F.slot_list_pop ⟨_,e,rfl⟩ F.entry_list_pop (F.args_list_pop_1 _) (MeetsSeq.list_pop_last l its.toArray n u hy' (by rw [List.size_toArray];omega)) ⟨e,?_⟩
 refine ⟨y,_,I.lset (its':=its.dropLast) hH e ?_ r.dropLast ?_,ru,q⟩
 ·show its.toArray.eraseIdxIfInBounds (its.toArray.size - 1)=its.dropLast.toArray
  rw [List.size_toArray,List.eraseIdxIfInBounds_toArray,qUk]
 ·rw [List.length_dropLast]
  omega
def rPopAt:V→List V→Hp→VK→Prop:=fun x vs H Q=>∃ l xs i k y,x=.ref l∧vs=[.int i]∧H l=some (.lst xs)∧-(2 ^ 63)≤i∧i < 2 ^ 63∧seqIndex? i xs.length=some k∧xs[k]?=some y∧Q y (upd H l (.lst (xs.eraseIdx k)))
theorem qZ1:MtM X "list.pop" rPopAt:=by
 intro pins s σ H x vs v us Q I rx rv h
 obtain ⟨l,xs,i,k,y,rfl,rfl,hH,h1,h2,hk,hy,q⟩:=h
 cases rx
 obtain ⟨u,rfl,ru⟩:=rv.one
 obtain ⟨t,rfl⟩:=ru
 obtain ⟨z,its,n,r,hl,e⟩:=I.lstM hH
 obtain ⟨w,hw,rw'⟩:=r.get hy
 refine call_meets F.slot_list_pop ⟨_,e,rfl⟩ F.entry_list_pop (F.args_list_pop_2 _ _)
  (MeetsSeq.list_pop_at l its.toArray n i t k w (fitsIndex_both h1 h2) (by rw [List.size_toArray,←hl];exact hk) (by rw [←Array.getElem?_toList];exact hw) (by rw [List.size_toArray];omega)) ⟨e,?_⟩
 refine ⟨y,_,I.lset (its':=its.eraseIdx k) hH e ?_ (r.eraseIdx k) ?_,rw',q⟩
 ·show its.toArray.eraseIdxIfInBounds k=(its.eraseIdx k).toArray
  rw [List.eraseIdxIfInBounds_toArray]
 ·have:=qO5 xs k
  omega
end
section
variable {prog:Program}{w:World}{A:Around}{E:Value→Shared→Prop}{s:Shared}
set_option maxRecDepth 100000 in
end
section
variable {X:Cx}
end
end L2
namespace Att
open PySem PySem.W PySem.Calls PyProof.Rows
theorem qJ9 {P:Params}{h:Heap}:∀ (ns:List Int) (vs:List Value),WellAll P h vs (ns.map WData.int)→IntsAre vs ns:=by
 intro ns
 induction ns with
 | nil=>
  intro vs w
  rw [List.map_nil] at w
  cases w
  exact .nil
 | cons n ns ih=>
  intro vs w
  rw [List.map_cons] at w
  cases w with
  | cons a b=>
   cases a
   exact .cons _ _ (ih _ b)
theorem qU9 {l:OpenLaw}{n:Nat}(hn:l.most=some n){P:Params}{h:Heap}{args:List WData}{vals:List Value}
  (hpre:l.row.toRowW.claim.pre args=true) (hwl:WellAll P h vals args) :
  ∃ a vs ns,vals=[Value.ref a]∧args=[WData.list (ns.map WData.int)]∧h.get? a=some { cls:=.type "list",data:=.seq vs.toArray }∧IntsAre vs ns∧ns.length≤n:=by
 have hsh:WShape.hasAll [] args [.list .int]=true:=(pre_splitW hpre).1
 have hc:l.pre.holds [] { args:=args }=true:=(pre_splitW hpre).2
 obtain ⟨d,r,rfl,h1,h2⟩:=hasAllW_cons hsh
 obtain rfl:=hasAllW_nil h2
 obtain ⟨xs,rfl,h3⟩:=hasW_list h1
 obtain ⟨ns,rfl⟩:=items_int h3
 have hlen:ns.length≤n:=by
  unfold OpenLaw.pre at hc
  have h4:(WTm.not (.lt (.lit (.int (n:Int))) (.len (.arg 0)))).holds [] { args:=[.list (ns.map .int)] }=true:=by
   have h4:=(holds_andW hc).1
   rw [hn] at h4
   exact h4
  have h5:=condW_of h4 (w_not (w_lt w_lit (w_len_list (w_arg rfl))))
  rw [List.length_map] at h5
  refine Nat.le_of_not_lt fun q=>?_
  have q':(n:Int) < ((ns.length:Nat):Int):=by omega
  first
   | (rw [decide_eq_true q'] at h5;exact absurd h5 (by decide))
   | (simp at h5;omega)
 cases hwl with
 | cons w1 w2=>
  cases w2
  cases w1 with
  | list ho hall=>exact ⟨_,_,ns,rfl,rfl,ho,qJ9 ns _ hall,hlen⟩
theorem qV6 (l:OpenLaw)(args:List WData):l.row.toRowW.claim.post args (.bool true) args=true:=
 postW_of (r:=l.row.toRowW) (X:=(true == true))
  (show WShape.has [] (.bool true) .bool=true by first | rfl | decide | simp [WShape.has,WShape.arms,WShape.armsAll])
  (show (WTm.eq .res (.lit (.bool true))).value [] { args:=args,res:=some (.bool true),after:=args }=some (.bool (true == true)) from w_eq_bool (w_res rfl) w_lit) rfl
theorem attach_call {l:OpenLaw}{n:Nat}{q:Program}{loose:List Str}{XP:(Str→Option Value)→Heap→Prop}{YP:World→Heap→Prop}{d:DefRec}
  (hn:l.most=some n) (hdf:d.params.defaults=[])
  (call:∀ (w:World) (s₀ s₁:Shared) (mg mb:Str→Option Value) (fa:Addr) (o:Obj) (pm cd doc:Value) (a:Addr) (vs:List Value) (ns:List Int),
   Ground q loose [] XP w s₀ mg mb s₁.heap→YP w s₁.heap→
   s₁.heap.get? fa=some o→o.data=.func (docDef d.name d.params d.body d.scope pm cd doc)→s₁.heap.CodeRec cd d.name→mg d.name=some (.ref fa)→
   s₁.heap.get? a=some { cls:=.type "list",data:=.seq vs.toArray }→IntsAre vs ns→ns.length≤n→s₁.gens=#[]→
   codeAny (model l.prog w) callerA (.call (.ref fa) ⟨[.ref a],[]⟩) #[116] s₁) :
  WalkO q loose XP YP l.row.toRowW d [] (fun f vs=>PySem.call f vs):=by
 intro w s₀ s₁ mg mb G Y fa o pm cd doc dV kV ho hd hcd hD hmg hg args vals as hpre hlay hrd hwl hlo
 obtain rfl:dV=.none:=Dflts.none hD hdf
 obtain rfl:kV=.none:=Dflts.noKw hD
 obtain ⟨a,vs,ns,rfl,rfl,hobj,hints,hlen⟩:=qU9 hn hpre hwl
 refine enter_call (codeAny_mono (call w s₀ s₁ mg mb fa o pm cd doc a vs ns G Y ho (fd_plain hd) hcd hmg hobj hints hlen hg) fun r s' hq=>?_)
 obtain ⟨rfl,h2,h3,h4⟩:=hq
 exact ⟨.inl ⟨.bool true,.bool true,[],rfl,fun _=>rfl,.bool true,qV6 l _,fun _=>⟨List.Pairwise.nil,fun _ hm=>(nomatch hm)⟩⟩,h2,h3,h4⟩
section
variable {prog:Program}{w:World}{A:Around}{E:Value→Shared→Prop}{s:Shared}{K:Frag}
end
end Att
namespace L2
open PySem PySem.Spec PyProof.Rows
theorem qNz:∀ {vs:List Value} {ns:List Int},IntsAre vs ns→qBv (ns.map V.int) vs
 | _,_,.nil=>.nil
 | _,_,.cons n t h=>.cons ⟨t,rfl⟩ (qNz h)
open PySem PySem.Spec PyProof.Rows
open PySem PySem.Spec PyProof.Rows
def qDf (s:Stmt):Arguments:=match s with
 | .FunctionDef _ a _ _ _ _ _ _ _ _=>a
 | _=>{ posonlyargs:=[],args:=[],vararg:=none,kwonlyargs:=[],kw_defaults:=[],kwarg:=none,defaults:=[] }
def qB6 (s:Stmt):List Stmt:=match s with
 | .FunctionDef _ _ b _ _ _ _ _ _ _=>b
 | _=>[]
def qAg (s:Stmt):Scope:=match s with
 | .FunctionDef _ _ _ _ _ _ sc _ _ _=>sc
 | _=>{ kind:=.function,names:=[],isGenerator:=false,isCoroutine:=false }
abbrev CX0:CXT:=fun _ _ _ _ _ _=>False
abbrev E0:XK:=fun _ _ _=>False
theorem qdm {X:Cx}:qYe CX0 X E0:=fun _ _ _ _ _ _ _ h=>h.elim
structure Fun (K:PySem.W.Frag) (x qual:Str) (st:Stmt) (f:Addr) (fd:FuncData):Prop where
 ex:∃ (oc:Value) (od:Option Addr) (kV doc pm:Value) (an:Option Addr) (cdv ct:Value) (osl:Array (Option Value)),
  fd=PySem.W.fnOf x qual (qDf st) (qB6 st) (qAg st) .none kV doc pm an cdv ct∧K.lookup f=some ⟨oc,od,.func fd,osl⟩∧PySem.W.codeIn K cdv qual=true
 kp:PySem.W.keepIn K (.ref f)=true
section
variable {P:Program}{w:World}{K:PySem.W.Frag}{mg:Str→Option Value}{base:Heap}
theorem Fun.ok {x qual:Str}{st:Stmt}{f:Addr}{fd:FuncData}{N ps:List Str}{k:Nat}{sp:Sp}(F:Fun K x qual st f fd)(S:FnScope N ps (qAg st))(len:∀ vs H Q E,sp vs H Q E→vs.length=ps.length)
  (hbody:∀ (cdv:Value) (A:Around) (outer:List Env) (s:Shared) (H:Hp) (vs:List V) (Q:VK) (E:XK),Room k (A.deeper (envOfC qual (qAg st) s.heap.objs.size f cdv))→sp vs H Q E→
   ∃ t,PSs (qRo CX0 P w K mg base N qual (qAg st) f cdv A outer s H E).nox (qB6 st) t∧t { nx:=fun _ H'=>Q .non H',rt:=Q } (start N vs) H):FnOk P w K mg base CX0 (k + 1) f fd ps sp:=by
 obtain ⟨oc,od,kV,doc,pm,an,cdv,ct,osl,rfl,lk,hcd⟩:=F.ex
 refine fn_of lk hcd S len fun A outer s H vs Q E hr hsp=>?_
 obtain ⟨t,h,q⟩:=hbody cdv A outer s H vs Q E hr hsp
 exact ⟨t,h.nox,q⟩
theorem Fun.binds {x qual:Str}{st:Stmt}{f:Addr}{fd:FuncData}{ps:List Str}(F:Fun K x qual st f fd)
  (h:∀ (kV doc pm:Value) (an:Option Addr) (cdv ct:Value) (us:List Value),us.length=ps.length→bindArgs (PySem.W.fnOf x qual (qDf st) (qB6 st) (qAg st) .none kV doc pm an cdv ct) ⟨us,[]⟩=pure (ps.zip us)):qKu K fd ps []:=by
 obtain ⟨oc,od,kV,doc,pm,an,cdv,ct,osl,rfl,lk,hcd⟩:=F.ex
 exact .all (h kV doc pm an cdv ct)
theorem fun_mk {x qual:Str}{st:Stmt}{f:Addr}{oc:Value}{od an:Option Addr}{osl:Array (Option Value)}{kV doc pm cdv ct:Value}(l:K.lookup f=some ⟨oc,od,.func (PySem.W.fnOf x qual (qDf st) (qB6 st) (qAg st) .none kV doc pm an cdv ct),osl⟩)
  (c:PySem.W.codeIn K cdv qual=true) (k:PySem.W.keepIn K (.ref f)=true):Fun K x qual st f (PySem.W.fnOf x qual (qDf st) (qB6 st) (qAg st) .none kV doc pm an cdv ct):=⟨⟨oc,od,kV,doc,pm,an,cdv,ct,osl,rfl,l,c⟩,k⟩
end
section
variable {X:Cx}
end
def qA5 (H H':Hp):Prop:=∀ b o,H b=some o→H' b=some o
theorem qA5.refl (H:Hp):qA5 H H:=fun _ _ h=>h
theorem qA5.trans {H H1 H2:Hp}(a:qA5 H H1)(b:qA5 H1 H2):qA5 H H2:=fun c o h=>b c o (a c o h)
theorem qA5.free {H H':Hp}(e:qA5 H H'){l:Addr}(h:H' l=Option.none):H l=Option.none:=by
 cases q:H l with
 | none=>rfl
 | some o=>
  rw [e l o q] at h
  cases h
theorem qA5.seq {K:PySem.W.Frag}{H H':Hp}{a:Addr}{xs:List V}(e:qA5 H H')(h:SqL K H a xs):SqL K H' a xs:=by
 rcases h with (h | ⟨o,h⟩) | h
 ·exact .inl (.inl (e _ _ h))
 ·exact .inl (.inr ⟨o,e _ _ h⟩)
 ·exact .inr h
open PySem PySem.Spec PyProof.Rows
theorem qZ6 {P:Program}{w:World}{K:PySem.W.Frag}{mg mb:Str→Option Value}{CX:CXT}{k:Nat}{fa a:Addr}{fd:FuncData}{x:Str}{sp:Sp}{s₁:Shared}{vs:List Value}{ns:List Int}
  (KX:K.In s₁.heap) (hns:s₁.heap.Ns mainGlobals mg) (hb:s₁.heap.Ns builtinsNs mb) (hbb:∀ x:Str,x≠"__name__"→mb x=bootBuiltins x) (hlim:s₁.heap.NoLimit) (hg:s₁.gens=#[])
  (ha:s₁.heap.get? a=some { cls:=.type "list",data:=.seq vs.toArray }) (hi:IntsAre vs ns) (hl:ns.length≤sizeLine) (hr:Room k callerA)
  (hnt:PySem.W.noTabs K=true)
  (hbm:∃ (bm:Addr) (ob:Obj),mg "__builtins__"=some (.ref bm)∧bm≠builtinsNs∧s₁.heap.get? bm=some ob∧ob.cls=.type "module"∧ob.dict=some builtinsNs∧ob.data=.plain)
  (hcode:∀ x c P,x∈qDa→PySem.W.tabIn K x=some (c,P)→PySem.W.CodeHd s₁.heap c P∧s₁.heap.get? P=some (PySem.W.tabObj #[]))
  (hinj:∀ x y c c' P,x∈qDa→y∈qDa→PySem.W.tabIn K x=some (c,P)→PySem.W.tabIn K y=some (c',P)→x=y)
  (F:∀ base:Heap,K.In base→base.Ns mainGlobals mg→FnOk P w K mg base CX k fa fd [x] sp) (hbind:∀ (s:Shared) (u:Value),BindsTo s fd ⟨[u],[]⟩ [(x,u)])
  (hsp:∀ H:Hp,SqL K H a (ns.map V.int)→sp [.ref a] H (fun v _=>v=.bl true) fun _ _ _=>False)
  (hCX:∀ H e s',CX [] H s₁ (fun _ _ _=>False) e s'→False) :
  codeAny (model P w) callerA (.call (.ref fa) ⟨[.ref a],[]⟩) #[116] s₁:=by
 have rv:=qNz hi
 have lenV:=hi.length
 let isT:Addr→Prop:=fun b=>∃ x c,x∈qDa∧PySem.W.tabIn K x=some (c,b)
 have tabT:∀ b,isT b→s₁.heap.get? b=some (PySem.W.tabObj #[]):=fun b ⟨x,c,h1,h2⟩=>(hcode x c b h1 h2).2
 have naT:¬ isT a:=fun z=>by
  have e:=tabT a z
  rw [ha] at e;cases e
 have notK:∀ b o,K.lookup b=some o→o≠PySem.W.tabObj #[]:=fun b o e q=>by
  have h2:=List.all_eq_true.mp hnt (b,o) (PySem.W.mem_of_lookupK e)
  subst q
  exact absurd (show false=true from h2) Bool.false_ne_true
 have core:∀ H:Hp,qa4 K H→SqL K H a (ns.map V.int)→HOk P w H s₁.heap→(∀ b,H b≠none→(b=a∧∃ o xs,H a=some (.frz o (.lst xs)))∨isT b)→(H a≠none→K.lookup a=none)→
   codeAny (model P w) callerA (.call (.ref fa) ⟨[.ref a],[]⟩) #[116] s₁:=by
  intro H hT hS hok hA hK
  have noA:∀ {b:Addr} {o:Obj},s₁.heap.get? b=some o→o≠{ cls:=.type "list",data:=.seq vs.toArray }→o≠PySem.W.tabObj #[]→H b=none:=fun {b o} e d1 d2=>by
   cases q:H b with
   | none=>rfl
   | some u=>
    rcases hA b (by rw [q];simp) with ⟨z,_⟩ | z
    ·subst z;rw [ha] at e;cases e;exact absurd rfl d1
    ·rw [tabT b z] at e;cases e;exact absurd rfl d2
  have base_of:∀ {b:Addr} {o:Obj},s₁.heap.get? b=some o→o≠{ cls:=.type "list",data:=.seq vs.toArray }→o≠PySem.W.tabObj #[]→(qag s₁.heap H).get? b=some o:=fun e d1 d2=>qSq e (noA e d1 d2)
  have nsK:∀ {b:Addr} {m:Str→Option Value},s₁.heap.Ns b m→(qag s₁.heap H).Ns b m:=fun {b m} ⟨o,es,ep,e,d,r⟩=>⟨o,es,ep,base_of e (fun q=>by rw [q] at d;cases d) (fun q=>by rw [q] at d;cases d),d,r⟩
  have hKb:K.In (qag s₁.heap H):=fun b o e=>qSq (KX b o e) (by
   cases q:H b with
   | none=>rfl
   | some u=>
    rcases hA b (by rw [q];simp) with ⟨z,_⟩ | z
    ·subst z
     rw [hK (by rw [q];simp)] at e;cases e
    ·have e2:=KX b o e
     rw [tabT b z] at e2
     exact absurd (Option.some.inj e2).symm (notK b o e))
  have hM:Mod K mg (qag s₁.heap H):=⟨hKb,nsK hns,⟨mb,nsK hb,hbb⟩,let ⟨mc,h1,h2⟩:=hlim;⟨mc,nsK h1,h2⟩,
   let ⟨bm,ob,b1,b2,b3,b4,b5,b6⟩:=hbm;⟨bm,ob,b1,b2,base_of b3 (fun q=>by rw [q] at b6;cases b6) (fun q=>by rw [q] at b6;cases b6),b4,b5,b6⟩,
   fun x c P h1 h2=>by
    obtain ⟨⟨o,vs',file,tf,flags,tg,inF,text,tt,e1,r1,r2⟩,_⟩:=hcode x c P h1 h2
    exact ⟨o,vs',file,tf,flags,tg,inF,text,tt,base_of e1 (fun q=>by rw [q] at r1;exact absurd (show Value.type "list"=Value.type "code" from r1) #[5]) (fun q=>by rw [q] at r1;exact absurd (show Value.none=Value.type "code" from r1) #[5]),r1,r2⟩⟩
  have e0:Env0 P w K mg (qag s₁.heap H) callerA [] s₁ H:=⟨rfl,hM,fun b o e=>qdo e,Nat.le_of_eq (qW8 _ _),trivial,fun b hb=>absurd (show b∈([]:List Addr) from hb) #[7],hok,.of_eq hg,hT⟩
  refine codeAny_mono ((F _ hKb (nsK hns)).run callerA [] s₁ H ⟨[.ref a],[]⟩ [.ref a] [.ref a] _ _ hr e0 (hbind s₁ (.ref a)) (.cons rfl .nil) (hsp H hS)) fun r s' h=>?_
  cases r with
  | error e=>exact (hCX H e s' h).elim
  | ok fl=>
   cases fl with
   | next=>exact False.elim h
   | brk=>exact False.elim h
   | cont=>exact False.elim h
   | ret u=>
    obtain ⟨v,H',os,bare,un,hok',r',q⟩:=h
    have q':v=.bl true:=q
    subst q'
    obtain rfl:u=Value.bool true:=r'
    refine ⟨rfl,⟨fun b o e=>?_,fun b o e=>un.there b o e #[7]⟩,os,bare⟩
    cases q:H b with
    | none=>exact .inl (un.keep b o e q (by intro z;exact absurd (show b∈([]:List Addr) from z) #[7]) #[7])
    | some u=>
     rcases hA b (by rw [q];simp) with ⟨rfl,ob,xs,z⟩ | z
     ·have z2:=un.frzs b ob _ z
      obtain ⟨e1,_⟩:=hok b _ z
      obtain ⟨e2,_⟩:=hok' b _ z2
      rw [e] at e1;cases e1
      exact .inl e2
     ·obtain ⟨y,c,h1,h2⟩:=z
      obtain ⟨hcd,hP⟩:=hcode y c b h1 h2
      rw [hP] at e;cases e
      obtain ⟨ps,e2,_⟩:=hok' b _ (un.tbls b _ (hT y c b h1 h2))
      exact .inr (.inl ⟨(hcd.tab hP).isCodeTable,rfl,#[],ps,rfl,by rw [Array.empty_append];exact e2⟩)
 classical
 let HT:Hp:=fun b=>if h:isT b then some (.tab (qYh (Classical.choose h))) else none
 have HTt:qa4 K HT:=fun x c P h1 h2=>by
  have z:isT P:=⟨x,c,h1,h2⟩
  show (if h:isT P then _ else _)=_
  rw [dif_pos z]
  obtain ⟨c',y1,y2⟩:=Classical.choose_spec z
  rw [hinj _ _ _ _ _ y1 h1 y2 h2]
 have HTs:∀ b u,HT b=some u→isT b∧∃ q,u=.tab q:=fun b u e=>by
  by_cases z:isT b
  ·have e':(if h:isT b then some (HO.tab (qYh (Classical.choose h))) else none)=some u:=e
   rw [dif_pos z] at e'
   exact ⟨z,_,(Option.some.inj e').symm⟩
  ·have e':(if h:isT b then some (HO.tab (qYh (Classical.choose h))) else none)=some u:=e
   rw [dif_neg z] at e';cases e'
 have okT:∀ (H:Hp) b q,isT b→qB8 P w H s₁.heap b (.tab q):=fun H b q z=>⟨#[],tabT b z,trivial,fun pos v e=>by cases e⟩
 cases hk:K.lookup a with
 | some o=>
  have e:=KX a o hk
  rw [ha] at e
  cases e
  refine core HT HTt (.inr ⟨_,vs.toArray,_,hk,rfl,rfl,rfl,by rw [List.size_toArray,lenV];exact hl,by simpa using rv⟩) (fun b u z=>?_) (fun b z=>?_) fun z=>?_
  ·obtain ⟨z1,q,rfl⟩:=HTs b u z
   exact okT _ b q z1
  ·cases q:HT b with
   | none=>exact absurd q z
   | some u=>exact .inr (HTs b u q).1
  ·cases q:HT a with
   | none=>exact absurd q z
   | some u=>exact absurd (HTs a u q).1 naT
 | none=>
  let H2:Hp:=upd HT a (.frz { cls:=.type "list",data:=.seq vs.toArray } (.lst (ns.map V.int)))
  have ne:∀ b,isT b→b≠a:=fun b z q=>by subst q;exact naT z
  refine core H2 (fun x c P h1 h2=>?_) (.inl (.inr ⟨{ cls:=.type "list",data:=.seq vs.toArray },qAu⟩)) (fun b u z=>?_) (fun b z=>?_) fun _=>hk
  ·show upd HT a _ P=_
   rw [qAr (ne P ⟨x,c,h1,h2⟩)]
   exact HTt x c P h1 h2
  ·by_cases hb:b=a
   ·subst hb
    rw [show H2 b=_ from qAu] at z
    cases z
    exact ⟨ha,by rw [List.length_map];exact hl,vs,_,rv,ha⟩
   ·rw [show H2 b=HT b from qAr hb] at z
    obtain ⟨z1,q,rfl⟩:=HTs b u z
    exact okT _ b q z1
  ·by_cases hb:b=a
   ·exact .inl ⟨hb,_,_,qAu⟩
   ·rw [show H2 b=HT b from qAr hb] at z
    cases q:HT b with
    | none=>exact absurd q z
    | some u=>exact .inr (HTs b u q).1
def qds (q:Program)(K:PySem.W.Frag):Bool:=
 PySem.W.noTabs K && (qDa.all fun x=>match PySem.W.tabIn K x with
  | none=>true
  | some (_,P)=>((recsOf q).find? (fun e=>e.name == x)).isSome && (qDa.all fun y=>match PySem.W.tabIn K y with
   | none=>true
   | some (_,P')=>!(P == P') || x == y))
theorem walk_of {l:PySem.W.OpenLaw}{n k:Nat}{q:Program}{loose:List Str}{XP:(Str→Option Value)→Heap→Prop}{YP:World→Heap→Prop}{d:DefRec}{K:Params→PySem.W.Frag}{CX:World→CXT}{sp:World→Sp}{x:Str}
  (hn:l.most=some n) (hn2:n≤sizeLine) (hdf:d.params.defaults=[]) (hr:Room k callerA)
  (hY:∀ (w:World) (h:Heap),YP w h→(K w.params).In h) (hlam:∀ w:World,qds q (K w.params)=true)
  (F:∀ (w:World) (mg:Str→Option Value) (fa:Addr) (h:Heap),(K w.params).In h→h.Ns mainGlobals mg→mg d.name=some (.ref fa)→
   ∃ fd:FuncData,(∀ (s:Shared) (u:Value),BindsTo s fd ⟨[u],[]⟩ [(x,u)])∧
    ∀ base:Heap,(K w.params).In base→base.Ns mainGlobals mg→FnOk l.prog w (K w.params) mg base (CX w) k fa fd [x] (sp w))
  (hsp:∀ (w:World) (H:Hp) (a:Addr) (ns:List Int),ns.length≤n→SqL (K w.params) H a (ns.map V.int)→sp w [.ref a] H (fun v _=>v=.bl true) fun _ _ _=>False)
  (hCX:∀ (w:World) (H:Hp) (s:Shared) (e:Value) (s':Shared),CX w [] H s (fun _ _ _=>False) e s'→False) :
  PySem.W.WalkO q loose XP YP l.row.toRowW d [] (fun f vs=>PySem.call f vs):=by
 refine Att.attach_call hn hdf fun w s₀ s₁ mg mb fa o pm cd doc a vs ns G Y ho hd hcd hmg hobj hints hlen hg=>?_
 have KX:=hY w _ Y
 obtain ⟨fd,hb,hF⟩:=F w mg fa _ KX G.T.g hmg
 have L:=hlam w
 unfold qds at L
 obtain ⟨L1,L2⟩:=Bool.and_eq_true_iff.mp L
 have L3:=List.all_eq_true.mp L2
 refine qZ6 KX G.T.g G.T.b G.T.builtins G.T.nolimit hg hobj hints (Nat.le_trans hlen hn2) hr L1 G.T.bmain (fun x c P h1 h2=>?_) (fun x y c c' P h1 h2 h3 h4=>?_) hF hb (fun H hS=>hsp w H a ns hlen hS) fun H e s'=>hCX w H s₁ e s'
 ·have q:=L3 x h1
  rw [h2] at q
  obtain ⟨q1,_⟩:=Bool.and_eq_true_iff.mp q
  obtain ⟨d',hd'⟩:=Option.isSome_iff_exists.mp q1
  exact PySem.W.tab_of G.T KX hd' h2
 ·have q:=L3 x h1
  rw [h3] at q
  obtain ⟨_,q2⟩:=Bool.and_eq_true_iff.mp q
  have q3:=List.all_eq_true.mp q2 y h2
  rw [h4] at q3
  simpa using q3
open PySem PySem.Spec PyProof.Rows
theorem qNm {p pos:Pos}{c v:Value}:∀ (l:List Value),TriplesOk l→codeAmong p (l++[rawInt pos.line,rawInt pos.col,c])=some v→codeAmong p l=some v∨v=c:=by
 intro l h e
 fun_induction TriplesOk l with
 | case1=>
  simp only [List.nil_append,codeAmong,rawInt] at e
  split at e
  ·exact .inr (Option.some.inj e).symm
  ·cases e
 | case2 a t b u x qFw ih=>
  simp only [List.cons_append,codeAmong] at e ⊢
  split at e
  ·rename_i hc
   rw [if_pos hc]
   exact .inl e
  ·rename_i hc
   rw [if_neg hc]
   exact ih h e
 | case3 l h1 h2=>exact h.elim
structure CloAt (s:Shared) (H:Hp) (f:Addr) (fd:FuncData) (cw:Addr) (u:Value):Prop where
 fo:s.heap.get? f=some { cls:=.type "function",data:=.func fd }
 fn:H f=none
 cd:∃ c oc vs t P,fd.code=.ref c∧H c=some (.frz oc (.own P))∧oc.data=.fields vs∧vs[1]?=some (.str fd.qualname t)
 ce:s.heap.IsCell cw (some u)
 cn:H cw=none
section
variable {X:Cx}{pins:List (Addr×Obj)}{σ:St}{H:Hp}{s:Shared}{fd:FuncData}{f cw:Addr}{u:Value}
theorem CloAt.later {fs ex:List Addr}{H':Hp}{s':Shared}(C:CloAt s H f fd cw u)(un:Un fs ex H H' s.heap s'.heap)(h1:f∉fs)(h2:cw∉fs)(h3:f∉ex)(h4:cw∉ex):CloAt s' H' f fd cw u:=by
 obtain ⟨o,ho,hd⟩:=C.ce
 obtain ⟨c,oc,vs,t,P,e1,e2,e3⟩:=C.cd
 exact ⟨un.keep _ _ C.fo C.fn h1 h3,un.free _ _ C.fo C.fn h3,⟨c,oc,vs,t,P,e1,un.frzs _ _ _ e2,e3⟩,⟨o,un.keep _ _ ho C.cn h2 h4,hd⟩,un.free _ _ ho C.cn h4⟩
theorem CloAt.code (C:CloAt s H f fd cw u){P:Program}{w:World}(hok:HOk P w H s.heap):s.heap.CodeRec fd.code fd.qualname:=by
 obtain ⟨c,oc,vs,t,P',e1,e2,e3,e4⟩:=C.cd
 exact ⟨c,oc,vs,t,e1,(hok _ _ e2).1,e3,e4⟩
theorem qZ7 {x y:Str}{c P:Addr}{params:Arguments}{body:Expr}{scope:Scope}{pos:Pos}{v:V}{i:Nat}{E:Value→Shared→Prop}{Q:Value→Shared→Prop}(I:Inv X pins σ H s)(hx:x∈qDa)(ht:PySem.W.tabIn X.K x=some (c,P))(hcode:X.env.code=.ref c)(hq:X.env.qual=x++".<locals>.")
  (hdef:defaultsOf params X.env=([],[])) (hcl:closureFor scope X.env=pure [(y,cw)]) (hyc:X.env.cells.lookup y=some cw) (hky:X.env.kindOf y=some .cell) (hfn:X.fn y=true) (hst:X.stack=X.env::X.outer) (hfr:X.env.frame=some X.env.locals) (hN:X.N[i]?=some y) (hv:σ[i]?=some (some v))
  (h:∀ f s' H' pm cdv ctv u,Inv X pins σ H' s'→(H'=H∨∃ c' o,H c'=none∧H'=upd H c' o)→RelV v u→CloAt s' H' f (PySem.W.kla_fn "<lambda>" (qYh x) params body scope [(y,cw)] pm cdv ctv) cw u→f∉frs X.stack→cw∉frs X.stack→Q (.ref f) s') :
  wpAny #[12] X.A (eval (.Lambda params body scope pos) X.env) Q E s:=by
 refine PySem.W.kla_eval hdef ?_
 have eq1:X.env.qual++"<lambda>"=qYh x:=by rw [hq];rfl
 rw [eq1]
 have hPt:H P=some (.tab (qYh x)):=I.base.tbls _ _ (I.ok.tab x c P hx ht)
 obtain ⟨ps,hP,htr,hall⟩:=I.hok _ _ hPt
 have hns:s.heap.Ns mainGlobals X.mg:=I.ok.mod.glob.keeps I.bk
 have C:PySem.W.CodeHd s.heap c P:=(I.ok.mod.code x c P hx ht).keeps I.bk
 have hgP:mainGlobals≠P:=fun q=>by
  obtain ⟨o,es,ep,e,hd,_⟩:=hns
  rw [q,hP] at e;cases e;cases hd
 obtain ⟨bm,ob,b1,b2,b3,b4,b5,b6⟩:=I.ok.mod.bm
 have b3':=I.bk _ _ b3
 have hbP:bm≠P:=fun q=>by
  rw [q,hP] at b3';cases b3';cases b4
 have hbG:bm≠mainGlobals:=fun q=>by
  obtain ⟨o,es,ep,e,hd,_⟩:=hns
  rw [q,e] at b3';cases b3';rw [hd] at b6;cases b6
 have BA:s.heap.BuiltinsAt X.mg P:=⟨bm,ob,b1,b2,hbG,hbP,b3',b4,b5,b6⟩
 have hcw:cw∉X.fs:=fun hb=>by
  obtain ⟨_,o,ho,_⟩:=I.ok.funs.mem hb
  exact absurd (Nat.lt_of_lt_of_le (Heap.lt_size ho) (I.ok.cab y cw hfn hyc)) (Nat.lt_irrefl _)
 have hcs:cw∉frs X.stack:=fun hb=>by
  rw [hst] at hb
  unfold frs at hb
  rw [List.filterMap_cons,hfr] at hb
  rcases List.mem_cons.mp hb with z | z
  ·exact I.cne y cw hyc z
  ·exact hcw z
 have fns:∀ f,s.heap.objs.size≤f→f∉frs X.stack:=fun f hf hb=>by
  rcases List.mem_cons.mp (I.stkSub f hb) with z | z
  ·have:=I.lt
   rw [←z] at this
   exact absurd (Nat.lt_of_lt_of_le this hf) (Nat.lt_irrefl _)
  ·exact I.nofs hf z
 have cellOf:∀ {H':Hp} {s':Shared},Inv X pins σ H' s'→∃ u,RelV v u∧s'.heap.IsCell cw (some u):=fun {H' s'} J=>by
  obtain ⟨m,_,hl⟩:=J.loc
  obtain ⟨u,r,l⟩:=hl i y v hN hv (.inr (.inl hky))
  rcases l with ⟨k,_⟩ | ⟨_,c1,e1,e2⟩
  ·rw [hky] at k;cases k
  ·rw [hyc] at e1;cases e1
   exact ⟨u,r,e2⟩
 cases hf:codeAmong pos ps.toList with
 | some cv=>
  obtain ⟨c',oc,vs,tk,rfl,z2,z3,z4⟩:=hall pos cv hf
  refine PySem.W.kla_makeFunctionHit (mg:=X.mg) hcl I.ok.glob hns hcode C hP htr hf BA fun ctv h' tk' hk hsz=>?_
  have J:Inv X pins σ H { s with heap:=h'.push { cls:=.type "function",data:=.func (PySem.W.kla_fn "<lambda>" (qYh x) params body scope [(y,cw)] ((X.mg "__name__").getD .none) (.ref c') ctv) },toks:=tk' }:=
   I.kept (t':=tk') fun b o e=>Heap.get?_push_of_some _ (hk b o e)
  obtain ⟨u,r,hc⟩:=cellOf J
  exact h _ _ H _ _ _ u J (.inl rfl) r ⟨Heap.get?_push_size _ rfl,I.hok.fresh hsz,⟨c',oc,vs,tk,P,rfl,z2,z3,z4⟩,hc,I.freeC y cw hyc⟩ (fns _ hsz) hcs
 | none=>
  refine PySem.W.kla_makeFunction (mg:=X.mg) hcl I.ok.glob hns hcode C hP htr hf hgP BA fun c' ctv h' tk' hx' hge hlt hrec htb=>?_
  obtain ⟨c2,oc,vs,t,e2,hoc,hd,hvs⟩:=hrec
  cases e2
  have hcn:H c'=none:=I.hok.fresh hge
  have old:∀ b o,b≠P→s.heap.get? b=some o→h'.get? b=some o:=hx'
  have ncP:c'≠P:=fun z=>by rw [z,hPt] at hcn;cases hcn
  let fo:Obj:=PySem.W.kla_obj "<lambda>" (qYh x) params body scope [(y,cw)] ((X.mg "__name__").getD .none) c' ctv
  have hk2:∀ b o,h'.get? b=some o→(h'.push fo).get? b=some o:=fun b o e=>Heap.get?_push_of_some _ e
  have nP:∀ b,H b=none→b≠P:=fun b n z=>by rw [z,hPt] at n;cases n
  have neC:∀ b o,s.heap.get? b=some o→b≠c':=fun b o e=>Nat.ne_of_lt (Nat.lt_of_lt_of_le #[45] hge)
  have hsz:s.heap.objs.size≤h'.objs.size:=Nat.le_trans hge (Nat.le_of_lt hlt)
  have un:Un X.fs [] H (upd H c' (.frz oc (.own P))) s.heap (h'.push fo):=by
   refine ⟨fun b o e n _ _=>hk2 b o (old b o (nP b n) e),fun b o e n _ _=>⟨o.slots,hk2 b o (old b o (nP b n) e)⟩,fun b o e n _=>by rw [qAr (neC b o e)];exact n,fun b o e _=>?_,
    fun b xs q=>by rw [qAr (qAn q hcn)];exact q,fun b o xs q=>by rw [qAr (qAn q hcn)];exact q,fun b q' q=>by rw [qAr (qAn q hcn)];exact q⟩
   by_cases hb:b=P
   ·subst hb;exact ⟨_,hk2 _ _ htb⟩
   ·exact ⟨o,hk2 b o (old b o hb e)⟩
  have hok:HOk X.prog X.w (upd H c' (.frz oc (.own P))) (h'.push fo):=fun b o e=>by
   by_cases hb:b=c'
   ·subst hb
    rw [qAu] at e;cases e
    exact ⟨hk2 _ _ hoc,_,hk2 _ _ hoc⟩
   ·rw [qAr hb] at e
    by_cases hbP':b=P
    ·subst hbP'
     rw [hPt] at e;cases e
     refine ⟨_,hk2 _ _ htb,?_,fun p v' e=>?_⟩
     ·rw [Array.toList_append];exact TriplesOk_snoc _ _ _ _ htr
     ·rw [Array.toList_append] at e
      rcases qNm _ htr e with z | z
      ·obtain ⟨c3,oc3,vs3,t3,y1,y2,y3⟩:=hall p v' z
       exact ⟨c3,oc3,vs3,t3,y1,by rw [qAr (qAn y2 hcn)];exact y2,y3⟩
      ·exact ⟨c',oc,vs,t,z,qAu,hd,hvs⟩
    ·refine (I.hok b o e).stay (fun b' u' hc q=>hk2 _ _ (old b' u' (fun z=>?_) q)) (fun b' q=>by rw [qAr (qAn q hcn)];exact q) (fun b' xs q=>by rw [qAr (qAn q hcn)];exact q) fun b' xs q=>by rw [qAr (qAn q hcn)];exact q
     subst z
     rcases hc with z | z
     ·exact hbP' z.symm
     ·rw [hPt] at z;cases z
  have J:=I.un (t':=tk') un hok
  obtain ⟨u,r,hc⟩:=cellOf J
  refine h _ _ _ _ _ _ u J (.inr ⟨c',_,hcn,rfl⟩) r ⟨Heap.get?_push_size _ rfl,?_,⟨c',oc,vs,t,P,rfl,qAu,hd,hvs⟩,hc,J.freeC y cw hyc⟩ (fns _ hsz) hcs
  rw [qAr (Nat.ne_of_gt hlt)]
  exact I.hok.fresh hsz
end
def qax (P:Program)(w:World)(K:PySem.W.Frag)(mg:Str→Option Value)(base:Heap)(N:List Str)(qual:Str)(scope:Scope)(f:Addr)(cd:Value)(cl:List (Str×Addr))(A:Around)(outer:List Env)(s:Shared)(H:Hp):Cx where
 prog:=P
 w:=w
 K:=K
 mg:=mg
 base:=base
 A:=A.deeper (PySem.W.envX qual scope s.heap.objs.size f cd cl)
 N:=N
 s₀:=s
 H₀:=H
 env:=PySem.W.envX qual scope s.heap.objs.size f cd cl
 outer:=outer
 stack:=PySem.W.envX qual scope s.heap.objs.size f cd cl::outer
 ex:=[]
 calm:=true
 fn:=fun _=>false
 pn:=[]
 xe:=fun _ _=>False
structure LamScope (x y:Str) (sc:Scope):Prop where
 kind:sc.kind=.function
 co:sc.isCoroutine=false
 gen:sc.isGenerator=false
 loc:sc.names.lookup x=some .local
 free:sc.names.lookup y=some .free
 nocell:∀ z∈sc.names,z.2≠.cell
 only:∀ z,sc.names.lookup z=some .free→z=y
theorem qdr {P:Program}{w:World}{K:PySem.W.Frag}{mg:Str→Option Value}{base:Heap}{A:Around}{outer:List Env}{s:Shared}{H:Hp}{Q:VK}{E:XK}{k:Nat}{f cw:Addr}{qual x y:Str}{params:Arguments}{body:Expr}{scope:Scope}{pm cdv ctv ux u:Value}{vx vu:V}
  (e0:Env0 P w K mg base A outer s H) (hr:Room (k + 1) A) (C:CloAt s H f #[108] cw u) (S:LamScope x y scope)
  (hb:bindArgs #[108] ⟨[ux],[]⟩=pure [(x,ux)]) (rx:RelV vx ux) (ru:RelV vu u)
  (hbody:Room k (A.deeper (PySem.W.envX qual scope s.heap.objs.size f cdv [(y,cw)]))→∃ te,PE (qax P w K mg base [x,y] qual scope f cdv [(y,cw)] A outer s H) body te∧te [some vx,some vu] H Q) :
  codeAny (model P w) A (.call (.ref f) ⟨[ux],[]⟩) (CR CX0 outer P w H s Q E) s:=by
 have lim:s.heap.NoLimit:=e0.mod.nolimit.keeps fun b o e=>(e0.bs b o e).1
 refine PySem.W.kla_callFunE hr.depth C.fo rfl S.co S.gen rfl (C.code e0.hok) ?_
 rw [hb]
 refine wpAny_pure (wpAny_newFunctionEnv S.nocell (fun z hz=>?_) (fun h₁ hns hsb=>?_) S.kind)
 ·cases List.mem_singleton.mp hz
  exact S.loc
 have hk₁:∀ b o,s.heap.get? b=some o→h₁.get? b=some o:=fun b o e=>hsb.extBut b o (Nat.ne_of_lt #[45]) #[78]
 refine ⟨lim.keeps hk₁,?_⟩
 obtain ⟨te,ht,hq⟩:=hbody (hr.deeper _)
 have noA:∀ b:Addr,b∉(qax P w K mg base [x,y] qual scope f cdv [(y,cw)] A outer s H).ex:=fun b z=>absurd (show b∈([]:List Addr) from z) #[7]
 have look:∀ z c,(([(y,cw)]:List (Str×Addr)).lookup z=some c)→z=y∧c=cw:=fun z c e=>by
  have:=PySem.mem_of_lookup e
  cases List.mem_singleton.mp this
  exact ⟨rfl,rfl⟩
 have ly:([(y,cw)]:List (Str×Addr)).lookup y=some cw:=by simp
 obtain ⟨oc,hoc,hdc⟩:=C.ce
 have I:Inv (qax P w K mg base [x,y] qual scope f cdv [(y,cw)] A outer s H) [] [some vx,some vu] H { s with heap:=h₁,toks:=s.toks + [(x,ux)].length }:=by
  refine ⟨⟨e0.mod,S.kind,rfl,rfl,Nat.le_refl _,fun z z' c h1 h2=>(look z c h1).1.trans (look z' c h2).1.symm,fun z hz=>?_,fun z c h _=>(nomatch h),fun _=>hr.hd,Around.frames_deeper e0.frames,.inr ⟨rfl,rfl⟩,fun b z=>absurd z (noA b),e0.bs,e0.bsz,fun b _ _=>noA b,fun b z=>absurd z (noA b),e0.funs,e0.frf,e0.tab⟩,
   rfl,e0.bare,Un.kept hk₁,⟨_,hns,fun i z v h1 h2 h3=>?_⟩,fun z c h=>?_,e0.hok.fresh #[8],fun z c h=>?_,fun p hp=>absurd (show p∈([]:List #[10]) from hp) #[7],e0.hok.kept hk₁,rfl⟩
  ·have hz:scope.names.lookup z=some .cell∨scope.names.lookup z=some .free:=hz
   rcases hz with hz | hz
   ·exact absurd rfl (S.nocell _ (PySem.mem_of_lookup hz))
   ·cases S.only z hz
    exact ⟨cw,ly⟩
  ·match i,h1,h2 with
   | 0,h1,h2=>
    cases (show some x=some z from h1)
    cases (show some (some vx)=some (some v) from h2)
    exact ⟨ux,rx,.inl ⟨S.loc,by simp⟩⟩
   | 1,h1,h2=>
    cases (show some y=some z from h1)
    cases (show some (some vu)=some (some v) from h2)
    exact ⟨u,ru,.inr ⟨.inr S.free,cw,ly,oc,hk₁ _ _ hoc,hdc⟩⟩
   | i + 2,h1,h2=>simp at h2
  ·obtain ⟨rfl,rfl⟩:=look z c h
   exact ⟨_,oc,hk₁ _ _ hoc,hdc⟩
  ·obtain ⟨rfl,rfl⟩:=look z c h
   exact C.cn
 refine PySem.W.kla_codeExpr (wpAny_mono (ht [] _ [some vx,some vu] H Q I hq) (fun u' s' hs=>?_) fun _ _ z=>z.elim)
 obtain ⟨v,H',J,rv,q⟩:=hs
 exact ⟨v,H',J.os,J.bare,J.base,J.hok,rv,q⟩
open PySem PySem.Spec PyProof.Rows
section
variable {κ:Type}[DecidableEq κ]
def qQk (kvs:List (κ×V))(k:κ):Option V:=(kvs.find? fun kv=>decide (kv.1=k)).map (·.2)
def qJu (kvs:List (κ×V))(k:κ)(v:V):List (κ×V):=
 if #[83]=true then kvs.map (fun kv=>if kv.1=k then (kv.1,v) else kv) else kvs++[(k,v)]
def dropK (kvs:List (κ×V))(k:κ):List (κ×V):=kvs.filter fun kv=>decide (kv.1≠k)
theorem qMf {p:κ×V}{r:List (κ×V)}{k:κ}(e:p.1=k):qQk (p::r) k=some p.2:=by simp [qQk,List.find?_cons,e]
theorem qMg {p:κ×V}{r:List (κ×V)}{k:κ}(e:¬ p.1=k):qQk (p::r) k=qQk r k:=by simp [qQk,List.find?_cons,e]
theorem qRw (k:κ):∀ kvs:List (κ×V),#[83]=(qQk kvs k).isSome
 | []=>rfl
 | p::r=>by
  rw [List.any_cons]
  by_cases e:p.1=k
  ·simp only [qMf e,decide_eq_true e,Bool.true_or,Option.isSome_some]
  ·rw [qMg e,decide_eq_false e,Bool.false_or];exact qRw k r
theorem qGg (kvs:List (κ×V))(k:κ)(v:V):(qJu kvs k v).length≤kvs.length + 1:=by
 unfold qJu
 split
 ·rw [List.length_map];omega
 ·rw [List.length_append,List.length_cons,List.length_nil];omega
theorem qYm.isSome_eq {o:Option V}{u:Option Value}(r:qYm o u):o.isSome=u.isSome:=by
 cases o with
 | none=>cases u with
  | none=>rfl
  | some _=>exact (show False from r).elim
 | some _=>cases u with
  | none=>exact (show False from r).elim
  | some _=>rfl
theorem qYm.getD {o:Option V}{u:Option Value}{d:V}{d':Value}(r:qYm o u)(rd:RelV d d'):RelV (o.getD d) (u.getD d'):=by
 cases o with
 | none=>cases u with
  | none=>exact rd
  | some _=>exact (show False from r).elim
 | some _=>cases u with
  | none=>exact (show False from r).elim
  | some _=>exact r
theorem KV.val {kvs:List (κ×V)}{vs:List (κ×Value)}(r:KV kvs vs)(k:κ):qYm (qQk kvs k) (valueAt vs k):=by
 unfold KV at r
 induction r with
 | nil=>exact True.intro
 | @cons p q ps qs h t ih=>
  obtain ⟨h1,h2⟩:=h
  by_cases e:p.1=k
  ·have e':q.1=k:=h1.symm.trans e
   have b:valueAt (q::qs) k=some q.2:=by simp [valueAt,List.find?_cons,e']
   rw [qMf e,b];exact h2
  ·have e':¬ q.1=k:=fun z=>e (h1.trans z)
   have b:valueAt (q::qs) k=valueAt qs k:=by simp [valueAt,List.find?_cons,e']
   rw [qMg e,b];exact ih
theorem KV.any {kvs:List (κ×V)}{vs:List (κ×Value)}(r:KV kvs vs)(k:κ):#[83]=vs.any fun kv=>decide (kv.1=k):=by
 unfold KV at r
 induction r with
 | nil=>rfl
 | cons h t ih=>rw [List.any_cons,List.any_cons,ih,h.1]
theorem KV.repl {kvs:List (κ×V)}{vs:List (κ×Value)}(r:KV kvs vs)(k:κ){y:V}{u:Value}(ry:RelV y u) :
  KV (kvs.map fun kv=>if kv.1=k then (kv.1,y) else kv) (vs.map fun kv=>if kv.1=k then (kv.1,u) else kv):=by
 unfold KV at r ⊢
 induction r with
 | nil=>exact .nil
 | @cons p q ps qs h t ih=>
  rw [List.map_cons,List.map_cons]
  refine .cons ?_ ih
  obtain ⟨h1,h2⟩:=h
  by_cases e:p.1=k
  ·rw [if_pos e,if_pos (h1.symm.trans e)];exact ⟨h1,ry⟩
  ·rw [if_neg e,if_neg (fun z=>e (h1.trans z))];exact ⟨h1,h2⟩
theorem KV.put {kvs:List (κ×V)}{vs:List (κ×Value)}(r:KV kvs vs)(k:κ){y:V}{u:Value}(ry:RelV y u):KV (qJu kvs k y) (stored vs k u):=by
 unfold qJu stored
 rw [r.any k]
 by_cases e:(vs.any fun kv=>decide (kv.1=k))=true
 ·rw [if_pos e,if_pos e];exact r.repl k ry
 ·rw [if_neg e,if_neg e];exact Paired.snoc r ⟨rfl,ry⟩
theorem KV.drop {kvs:List (κ×V)}{vs:List (κ×Value)}(r:KV kvs vs)(k:κ):KV (dropK kvs k) (without vs k):=by
 unfold KV at r ⊢
 unfold dropK without
 induction r with
 | nil=>exact .nil
 | @cons p q ps qs h t ih=>
  obtain ⟨h1,h2⟩:=h
  rw [List.filter_cons,List.filter_cons]
  by_cases e:p.1=k
  ·have a:¬ decide (p.1≠k)=true:=by simp [e]
   have b:¬ decide (q.1≠k)=true:=by simp [h1.symm.trans e]
   rw [if_neg a,if_neg b];exact ih
  ·have e':¬ q.1=k:=fun z=>e (h1.trans z)
   have a:decide (p.1≠k)=true:=by simp [e]
   have b:decide (q.1≠k)=true:=by simp [e']
   rw [if_pos a,if_pos b];exact .cons ⟨h1,h2⟩ ih
theorem KV.length {kvs:List (κ×V)}{vs:List (κ×Value)}(r:KV kvs vs):kvs.length=vs.length:=Paired.length r
end
theorem qZ9 {P:Program}{w:World}{k:Key}{u:Value}(r:RelV (kV k) u):(qCh P w).is k u=true:=by
 cases k with
 | inl i=>obtain ⟨t,e⟩:=(show ∃ t,u=Value.int i t from r);subst e;exact qQ8 P w i t
 | inr x=>obtain ⟨t,e⟩:=(show ∃ t,u=Value.str x t from r);subst e;exact qQ7 P w x t
theorem qO8 {P:Program}{w:World}:∀ {ks:List Key} {us:List Value},qBv (ks.map kV) us→ItemsAre (qCh P w) ks us
 | [],_,r=>by rw [List.map_nil] at r;cases r;exact .nil
 | k::ks,_,r=>by
  rw [List.map_cons] at r
  cases r with
  | cons h t=>exact .cons (qZ9 h) (qO8 t)
abbrev KT (H:Hp):List #[41]→List (List Key×Addr×Value)→Prop:=Paired fun p q=>p.1=q.1∧H q.2.1=some (.tup (p.1.map kV))∧RelV p.2 q.2.2
theorem KT.val {H:Hp}{kvs:List #[41]}{xs:List (List Key×Addr×Value)}(r:KT H kvs xs)(k:List Key):qYm (qQk kvs k) ((atKey xs k).map (·.2)):=by
 induction r with
 | nil=>exact True.intro
 | @cons p q ps qs h t ih=>
  obtain ⟨h1,_,h2⟩:=h
  by_cases e:p.1=k
  ·have e':q.1=k:=h1.symm.trans e
   have b:atKey (q::qs) k=some q.2:=by simp [atKey,List.find?_cons,e']
   rw [qMf e,b];exact h2
  ·have e':¬ q.1=k:=fun z=>e (h1.trans z)
   have b:atKey (q::qs) k=atKey qs k:=by simp [atKey,List.find?_cons,e']
   rw [qMg e,b];exact ih
theorem KT.repl {H:Hp}{kvs:List #[41]}{xs:List (List Key×Addr×Value)}(r:KT H kvs xs)(k:List Key){y:V}{u:Value}(ry:RelV y u) :
  KT H (kvs.map fun kv=>if kv.1=k then (kv.1,y) else kv) (xs.map (putAt k u)):=by
 induction r with
 | nil=>exact .nil
 | @cons p q ps qs h t ih=>
  rw [List.map_cons,List.map_cons]
  refine .cons ?_ ih
  obtain ⟨h1,h2,h3⟩:=h
  unfold putAt
  by_cases e:p.1=k
  ·rw [if_pos e,if_pos (h1.symm.trans e)];exact ⟨h1,h2,ry⟩
  ·rw [if_neg e,if_neg (fun z=>e (h1.trans z))];exact ⟨h1,h2,h3⟩
theorem KT.put {H:Hp}{kvs:List #[41]}{xs:List (List Key×Addr×Value)}(r:KT H kvs xs)(k:List Key){b:Addr}{y:V}{u:Value}(hb:H b=some (.tup (k.map kV)))(ry:RelV y u) :
  KT H (qJu kvs k y) (storedH xs k b u):=by
 have e:#[83]=(atKey xs k).isSome:=by
  rw [qRw,(r.val k).isSome_eq,Option.isSome_map]
 unfold qJu storedH
 rw [e]
 by_cases q:(atKey xs k).isSome=true
 ·rw [if_pos q,if_pos q];exact r.repl k ry
 ·rw [if_neg q,if_neg q];exact Paired.snoc r ⟨rfl,hb,ry⟩
theorem KT.keeps {H H':Hp}{kvs:List #[41]}{xs:List (List Key×Addr×Value)}(r:KT H kvs xs)(ht:∀ b ys,H b=some (.tup ys)→H' b=some (.tup ys)):KT H' kvs xs:=
 Paired.mapP r fun _ _ z=>⟨z.1,ht _ _ z.2.1,z.2.2⟩
section
variable {P:Program}{w:World}{H:Hp}{h:Heap}{a:Addr}
theorem rd_of {u:HO}(ok:HOk P w H h)(e:Rd H a u):qB8 P w H h a u:=e.ok ok
theorem qei {kvs:List (Key×V)}(ok:HOk P w H h)(e:Rd H a (.dK kvs)):kvs.length≤sizeLine∧(a == sysModules)=false∧∃ vs,KV kvs vs∧h.DictOf (qCh P w) a vs:=
 show qB8 P w H h a (.dK kvs) from rd_of ok e
theorem dk_of {kvs:List (Key×V)}(ok:HOk P w H h)(e:H a=some (.dK kvs)):kvs.length≤sizeLine∧(a == sysModules)=false∧∃ vs,KV kvs vs∧h.DictOf (qCh P w) a vs:=qei ok (.inl e)
theorem qO7 {ks:List Key}(ok:HOk P w H h)(e:H a=some (.tup (ks.map kV))):(tupleKind (qCh P w)).is h ks a:=by
 obtain ⟨_,its,r,o,h1,h2,n,h3⟩:=(show qB8 P w H h a (.tup (ks.map kV)) from ok a _ e)
 exact ⟨o,its.toArray,n,h1,h2,h3,by simpa using qO8 r⟩
theorem qef {kvs:List #[41]}(ok:HOk P w H h)(e:Rd H a (.dT kvs)):kvs.length≤sizeLine∧(a == sysModules)=false∧
  ∃ xs,KT H kvs xs∧h.DictOfH (tupleKind (qCh P w)) a xs:=by
 obtain ⟨z,y,xs,r,o,es,ep,h1,h2,h3,h4,h5⟩:=(show qB8 P w H h a (.dT kvs) from rd_of ok e)
 refine ⟨z,y,xs,r,o,es,ep,h1,h2,h3,h4,fun x hx=>?_,h5⟩
 have all:∀ {l:List #[41]} {m:List (List Key×Addr×Value)},KT H l m→∀ x∈m,(tupleKind (qCh P w)).is h x.1 x.2.1:=by
  intro l m q
  induction q with
  | nil=>intro x hx;exact nomatch hx
  | @cons p q ps qs hq t ih=>
   intro x hx
   rcases List.mem_cons.mp hx with e | hx
   ·subst e
    exact qO7 ok (by rw [←hq.1];exact hq.2.1)
   ·exact ih x hx
 exact all r x hx
theorem dt_of {kvs:List #[41]}(ok:HOk P w H h)(e:H a=some (.dT kvs)):kvs.length≤sizeLine∧(a == sysModules)=false∧
  ∃ xs,KT H kvs xs∧h.DictOfH (tupleKind (qCh P w)) a xs:=qef ok (.inl e)
end
def qYn (H:Hp)(a:Addr)(y:V)(r:Option V):Prop:=
 (∃ kvs k,Rd H a (.dK kvs)∧y=kV k∧r=qQk kvs k)∨∃ kvs k b,Rd H a (.dT kvs)∧y=.ref b∧H b=some (.tup (k.map kV))∧r=qQk kvs k
def qca (H:Hp)(a:Addr)(y v:V)(H':Hp):Prop:=
 (∃ kvs k,H a=some (.dK kvs)∧y=kV k∧kvs.length < sizeLine∧H'=upd H a (.dK (qJu kvs k v)))∨
 ∃ kvs k b,H a=some (.dT kvs)∧y=.ref b∧H b=some (.tup (k.map kV))∧kvs.length < sizeLine∧H'=upd H a (.dT (qJu kvs k v))
theorem qYn.k {H:Hp}{a:Addr}{kvs:List (Key×V)}{k:Key}(e:H a=some (.dK kvs)):qYn H a (kV k) (qQk kvs k):=.inl ⟨kvs,k,.inl e,rfl,rfl⟩
theorem qYn.t {H:Hp}{a b:Addr}{kvs:List #[41]}{k:List Key}(e:H a=some (.dT kvs))(eb:H b=some (.tup (k.map kV))):qYn H a (.ref b) (qQk kvs k):=.inr ⟨kvs,k,b,.inl e,rfl,eb,rfl⟩
theorem qca.k {H:Hp}{a:Addr}{kvs:List (Key×V)}{k:Key}{v:V}(e:H a=some (.dK kvs))(hl:kvs.length < sizeLine):qca H a (kV k) v (upd H a (.dK (qJu kvs k v))):=.inl ⟨kvs,k,e,rfl,hl,rfl⟩
theorem qca.t {H:Hp}{a b:Addr}{kvs:List #[41]}{k:List Key}{v:V}(e:H a=some (.dT kvs))(eb:H b=some (.tup (k.map kV)))(hl:kvs.length < sizeLine) :
  qca H a (.ref b) v (upd H a (.dT (qJu kvs k v))):=.inr ⟨kvs,k,b,e,rfl,eb,hl,rfl⟩
section
variable {X:Cx}{pins:List (Addr×Obj)}{σ:St}{H:Hp}{s:Shared}{a:Addr}{y v:V}{u r:Value}{o:Option V}{A:Around}{E:Value→Shared→Prop}
theorem Inv.big (I:Inv X pins σ H s):sysModules < s.heap.objs.size:=by
 have h:mainGlobals < s.heap.objs.size:=(I.mod.glob.keeps I.bk).lt
 exact Nat.lt_trans #[5] h
theorem d_in {Q:Value→Shared→Prop}(hu:A.units + 1 < cLine)(I:Inv X pins σ H s)(g:qYn H a y o)(ry:RelV y u)(h:∀ s',Inv X pins σ H s'→Q (.bool o.isSome) s') :
  wpAny #[12] A (compareOp .In u (.ref a)) Q E s:=by
 rcases g with ⟨kvs,k,e,ey,l⟩ | ⟨kvs,k,b,e,ey,eb,l⟩
 ·subst ey
  obtain ⟨z,hd,vs,rel,dd⟩:=qei I.hok e
  refine wpAny_in_of (qZ9 ry) hd dd.mapOf ?_
  rw [←(rel.val k).isSome_eq,←l]
  exact h _ (I.tok _)
 ·subst ey
  cases (show u=Value.ref b from ry)
  obtain ⟨z,hd,xs,rel,dd⟩:=qef I.hok e
  refine wpAny_in_heap (tupleKind_room_in1 hu) (qO7 I.hok eb) hd dd ?_
  have q:=(rel.val k).isSome_eq
  rw [Option.isSome_map] at q
  rw [←q,←l]
  exact h _ (I.tok _)
theorem qek {Q:Value→Shared→Prop}(hu:A.units + 1 < cLine)(I:Inv X pins σ H s)(g:qYn H a y o)(ry:RelV y u)(h:∀ s',Inv X pins σ H s'→Q (.bool (!o.isSome)) s') :
  wpAny #[12] A (compareOp .NotIn u (.ref a)) Q E s:=by
 rcases g with ⟨kvs,k,e,ey,l⟩ | ⟨kvs,k,b,e,ey,eb,l⟩
 ·subst ey
  obtain ⟨z,hd,vs,rel,dd⟩:=qei I.hok e
  refine wpAny_notIn_of (qZ9 ry) hd dd.mapOf ?_
  rw [←(rel.val k).isSome_eq,←l]
  exact h _ (I.tok _)
 ·subst ey
  cases (show u=Value.ref b from ry)
  obtain ⟨z,hd,xs,rel,dd⟩:=qef I.hok e
  refine wpAny_notIn_heap (tupleKind_room_in1 hu) (qO7 I.hok eb) hd dd ?_
  have q:=(rel.val k).isSome_eq
  rw [Option.isSome_map] at q
  rw [←q,←l]
  exact h _ (I.tok _)
theorem qRn {h':Heap}{t':Nat}{ob:HO}(I:Inv X pins σ H s)(mu:Mut (H a))(hs:Heap.SameBut a s.heap h')(he:∃ q,h'.get? a=some q)(new:qB8 X.prog X.w (upd H a ob) h' a ob) :
  Inv X pins σ (upd H a ob) { s with heap:=h',toks:=t' }:=
 I.write (x:=a) (e:=a) mu (.inl rfl) (fun b q hb z=>(hs.2 b hb).trans z) he new
theorem dk_new {P:Program}{w:World}{H':Hp}{h':Heap}{kvs:List (Key×V)}{vs:List (Key×Value)}(z:kvs.length≤sizeLine)(hd:(a == sysModules)=false)(rel:KV kvs vs)(dd:h'.DictOf (qCh P w) a vs) :
  qB8 P w H' h' a (.dK kvs):=⟨z,hd,vs,rel,dd⟩
theorem qXy {H':Hp}{Q:Unit→Shared→Prop}(hu:A.units + 1 < cLine)(I:Inv X pins σ H s)(g:qca H a y v H')(ry:RelV y u)(rv:RelV v r)(h:∀ s',Inv X pins σ H' s'→Q () s') :
  wpAny #[12] A (setItem (.ref a) u r) Q E s:=by
 rcases g with ⟨kvs,k,e,ey,l,eH⟩ | ⟨kvs,k,b,e,ey,eb,l,eH⟩
 ·subst ey eH
  obtain ⟨z,hd,vs,rel,dd⟩:=dk_of I.hok e
  have hz:vs.length≤sizeLine:=by rw [←rel.length];exact z
  have hl:(qJu kvs k v).length≤sizeLine:=by have:=qGg kvs k v;omega
  refine wpAny_setItem_pairs (hsz:=hz) (qZ9 ry) dd fun h' dd' hs=>h _ ?_
  have he:∃ q,h'.get? a=some q:=let ⟨q,_,_,hq,_⟩:=dd';⟨q,hq⟩
  exact qRn I (by rw [e];exact True.intro) hs he (dk_new hl hd (rel.put k rv) dd')
 ·subst ey eH
  cases (show u=Value.ref b from ry)
  obtain ⟨z,hd,xs,rel,dd⟩:=dt_of I.hok e
  have hz:xs.length≤sizeLine:=by rw [←Paired.length rel];exact z
  have hl:(qJu kvs k v).length≤sizeLine:=by have:=qGg kvs k v;omega
  refine wpAny_setItem_heap (hsz:=hz) (tupleKind_room_in1 hu) (qO7 I.hok eb) dd fun h' dd' hs=>h _ ?_
  obtain ⟨q,es,ep,hq,h2,h3,h4,_,h5⟩:=dd'
  refine qRn I (by rw [e];exact True.intro) hs ⟨q,hq⟩ ⟨hl,hd,_,(rel.put k eb rv).keeps fun c ys ec=>?_,q,es,ep,hq,h2,h3,h4,h5⟩
  rw [qAr (ne_of ec e #[58])]
  exact ec
end
section
variable {X:Cx}{pins:List (Addr×Obj)}{σ:St}{H:Hp}{s:Shared}{a:Addr}{kvs:List (Key×V)}{k:Key}{u:Value}{A:Around}{E:Value→Shared→Prop}
end
def tDIn (ty td:TE):TE:=fun σ H Q=>ty σ H fun y H1=>td σ H1 fun x H2=>∃ a o,x=.ref a∧qYn H2 a y o∧Q (.bl o.isSome) H2
def qcl (ty td:TE):TE:=fun σ H Q=>ty σ H fun y H1=>td σ H1 fun x H2=>∃ a o,x=.ref a∧qYn H2 a y o∧Q (.bl (!o.isSome)) H2
def sDPut (td ty tv:TE):TS:=fun D σ H=>tv σ H fun v H1=>td σ H1 fun x H2=>ty σ H2 fun y H3=>∃ a H4,x=.ref a∧qca H3 a y v H4∧D.nx σ H4
section
variable {X:Cx}{o i e value:Expr}{pos pos' tpos:Pos}{td ty tv:TE}
theorem pc_din (hu:X.A.units + 1 < cLine)(hi:PE X i ty)(ho:PE X o td):PC X .In i o (tDIn ty td):=by
 intro pins s σ H Q I h
 refine thn (hi pins s σ H _ I h) fun iv s1 ⟨y,H1,I1,ry,q1⟩=>thn (ho pins s1 σ H1 _ I1 q1) fun u s2 ⟨x,H2,I2,rx,a,ov,ex,g,q2⟩=>?_
 subst ex
 obtain rfl:u=Value.ref a:=rx
 exact d_in hu I2 g ry fun s3 I3=>⟨.bl ov.isSome,H2,I3,rfl,q2⟩
theorem qWa (hu:X.A.units + 1 < cLine)(hi:PE X i ty)(ho:PE X o td):PC X .NotIn i o (qcl ty td):=by
 intro pins s σ H Q I h
 refine thn (hi pins s σ H _ I h) fun iv s1 ⟨y,H1,I1,ry,q1⟩=>thn (ho pins s1 σ H1 _ I1 q1) fun u s2 ⟨x,H2,I2,rx,a,ov,ex,g,q2⟩=>?_
 subst ex
 obtain rfl:u=Value.ref a:=rx
 exact qek hu I2 g ry fun s3 I3=>⟨.bl (!ov.isSome),H2,I3,rfl,q2⟩
theorem qV4 (hu:X.A.units + 1 < cLine)(ho:PE X o td)(hi:PE X i ty)(hv:PE X value tv)(hs:swapsWith value (some (.Subscript o i pos')) pos.line X.env=pure false) :
  PS X (.Assign [.Subscript o i pos'] value pos) (sDPut td ty tv):=by
 intro pins s σ H D I h
 refine wpAny_Assign_Subscript (thn (hv pins s σ H _ I h) fun r s1 ⟨v,H1,I1,rv,q1⟩=>thn (ho pins s1 σ H1 _ I1 q1) fun u s2 ⟨x,H2,I2,rx,q2⟩=>thn (hi pins s2 σ H2 _ I2 q2) fun iv s3 ⟨y,H3,I3,ry,a,H4,ex,g,q3⟩=>?_) hs
 subst ex
 obtain rfl:u=Value.ref a:=rx
 exact qXy hu I3 g ry rv fun s4 I4=>⟨σ,H4,I4,q3⟩
end
theorem qau {P:Program}{w:World}{H:Hp}(h:Heap)(hb:sysModules < h.objs.size):qB8 P w H (h.push { cls:=.type "dict",data:=.dict #[] }) h.objs.size (.dK []):=
 ⟨Nat.zero_le _,beq_eq_false_iff_ne.mpr (Ne.symm (Nat.ne_of_lt hb)),[],.nil,Heap.DictOf.new h⟩
theorem qS6 {P:Program}{w:World}{H:Hp}(h:Heap)(hb:sysModules < h.objs.size):qB8 P w H (h.push { cls:=.type "dict",data:=.dict #[] }) h.objs.size (.dT []):=
 ⟨Nat.zero_le _,beq_eq_false_iff_ne.mpr (Ne.symm (Nat.ne_of_lt hb)),[],.nil,_,#[],0,Heap.get?_push_size _ rfl,⟨rfl,rfl,rfl⟩,rfl,rfl,List.nodup_nil⟩
def tDNewK:TE:=fun _ H Q=>∀ p,H p=none→Q (.ref p) (upd H p (.dK []))
def tDNewT:TE:=fun _ H Q=>∀ p,H p=none→Q (.ref p) (upd H p (.dT []))
section
variable {X:Cx}{pos:Pos}
theorem qZs:PE X (.Dict [] [] pos) tDNewK:=fun pins s σ H Q I h=>
 wpAny_Dict_empty ⟨.ref s.heap.objs.size,_,I.laid (a:=s.heap.objs.size) (o:=.dK []) (t':=s.toks) (fun _ _ q=>Heap.get?_push_of_some _ q) #[8] (qau s.heap I.big),rfl,h _ (I.hok.fresh #[8])⟩
theorem qSi:PE X (.Dict [] [] pos) tDNewT:=fun pins s σ H Q I h=>
 wpAny_Dict_empty ⟨.ref s.heap.objs.size,_,I.laid (a:=s.heap.objs.size) (o:=.dT []) (t':=s.toks) (fun _ _ q=>Heap.get?_push_of_some _ q) #[8] (qS6 s.heap I.big),rfl,h _ (I.hok.fresh #[8])⟩
end
structure M1 (X:Cx) (o:Expr) (m:Str) (apos:Pos) (e:Expr) (cpos:Pos):Prop where
 base:attributeBase o m X.env (eval o X.env)=eval o X.env
 few:((backTo cpos (starEach [e] X.env)).all (fun x=>!x.1) && #[91].all (fun x=>x.1.isSome)
  && decide (([e]:List Expr).length + ([]:List Keyword).length + #[90] < 30))=true
 line:#[79]=true
 trees:backTo cpos (starEach [e] X.env)=[#[38]]
structure M2 (X:Cx) (o:Expr) (m:Str) (apos:Pos) (e f:Expr) (cpos:Pos):Prop where
 base:attributeBase o m X.env (eval o X.env)=eval o X.env
 few:((backTo cpos (starEach [e,f] X.env)).all (fun x=>!x.1) && #[91].all (fun x=>x.1.isSome)
  && decide (([e,f]:List Expr).length + ([]:List Keyword).length + #[90] < 30))=true
 line:#[79]=true
 trees:backTo cpos (starEach [e,f] X.env)=[#[38],(false,eval f X.env)]
def IsD (H:Hp)(a:Addr):Prop:=(∃ kvs,Rd H a (.dK kvs))∨∃ kvs,Rd H a (.dT kvs)
section
variable {X:Cx}{pins:List (Addr×Obj)}{σ:St}{H:Hp}{s:Shared}{a:Addr}{y d:V}{u r:Value}{o:Option V}{A:Around}{E:Value→Shared→Prop}
end
section
variable {X:Cx}{o e f:Expr}{apos cpos:Pos}{td ty tx:TE}
end
section
variable {X:Cx}{pins:List (Addr×Obj)}{σ:St}{H:Hp}{s:Shared}{a:Addr}{kvs:List (Key×V)}{A:Around}{E:Value→Shared→Prop}
end
section
variable {X:Cx}{pins:List (Addr×Obj)}{σ:St}{H:Hp}{s:Shared}{a:Addr}{y:V}{u:Value}{A:Around}{E:Value→Shared→Prop}
end
open PySem PySem.Spec PyProof.Rows
section
variable {X:Cx}
end
section
variable {κ:Type}[DecidableEq κ]
end
open PySem PySem.Spec PyProof.Rows
theorem qH6 {env:Env}:∀ (names:List (Str×NameKind)) (cs:List (Str×Addr)),(∀ y∈names,y.2=.free→∃ c,env.cells.lookup y.1=some c)→
  ∃ cl,(forIn names cs fun (x:Str×NameKind) (r:List (Str×Addr))=>(if (x.2 == NameKind.free)=true then do let __do_lift ←cellOf env x.1;pure (ForInStep.yield ((x.1,__do_lift)::r)) else pure (ForInStep.yield r):Sem (ForInStep (List (Str×Addr)))))=pure cl∧
   (∀ y c,cl.lookup y=some c→env.cells.lookup y=some c∨cs.lookup y=some c)∧(∀ y,(cs.lookup y).isSome=true→(cl.lookup y).isSome=true)∧∀ y∈names,y.2=.free→(cl.lookup y.1).isSome=true
 | [],cs,_=>⟨cs,by rw [List.forIn_nil],fun y c e=>.inr e,fun y e=>e,fun y hy=>nomatch hy⟩
 | (n,k)::r,cs,h=>by
  have hr:∀ y∈r,y.2=.free→∃ c,env.cells.lookup y.1=some c:=fun y hy=>h y (List.mem_cons_of_mem _ hy)
  cases hk:(k == NameKind.free) with
  | false=>
   obtain ⟨cl,e1,e2,e3,e4⟩:=qH6 r cs hr
   refine ⟨cl,?_,e2,e3,fun y hy hf=>?_⟩
   ·rw [List.forIn_cons]
    simp only [hk,Bool.false_eq_true,if_false,pure_bind]
    exact e1
   ·rcases List.mem_cons.mp hy with z | z
    ·subst z
     have hf':k=.free:=hf
     subst hf'
     cases hk
    ·exact e4 y z hf
  | true=>
   have hk':k=.free:=by cases k <;> first | rfl | cases hk
   obtain ⟨c,hc⟩:=h (n,k) List.mem_cons_self hk'
   have hcell:cellOf env n=pure c:=by unfold cellOf;rw [hc]
   obtain ⟨cl,e1,e2,e3,e4⟩:=qH6 r ((n,c)::cs) hr
   refine ⟨cl,?_,fun y c' e=>?_,fun y e=>e3 y ?_,fun y hy hf=>?_⟩
   ·rw [List.forIn_cons]
    simp only [hk,if_true,hcell,pure_bind]
    exact e1
   ·rcases e2 y c' e with z | z
    ·exact .inl z
    ·rw [List.lookup_cons] at z
     cases hy:(y == n) with
     | true=>
      rw [hy] at z
      have:y=n:=by simpa using hy
      subst this
      cases z
      exact .inl hc
     | false=>rw [hy] at z;exact .inr z
   ·rw [List.lookup_cons]
    cases hy:(y == n) with
    | true=>rfl
    | false=>exact e
   ·rcases List.mem_cons.mp hy with z | z
    ·subst z
     exact e3 n (by rw [List.lookup_cons];simp)
    ·exact e4 y z hf
theorem qH5 {scope:Scope}{env:Env}(h:∀ y∈scope.names,y.2=.free→∃ c,env.cells.lookup y.1=some c) :
  ∃ cl,closureFor scope env=pure cl∧(∀ y c,cl.lookup y=some c→env.cells.lookup y=some c)∧∀ y∈scope.names,y.2=.free→(cl.lookup y.1).isSome=true:=by
 obtain ⟨cl,e1,e2,_,e4⟩:=qH6 scope.names [] h
 refine ⟨cl,?_,fun y c e=>?_,e4⟩
 ·simp only [closureFor]
  rw [e1]
  rfl
 ·rcases e2 y c e with z | z
  ·exact z
  ·cases z
def qB7 (X:Cx)(M:List Str)(s₀:Shared)(H₀:Hp)(C:Addr)(fp:List Addr)(x:Str)(scope:Scope)(cl:List (Str×Addr)):Cx:=
 { X with env:=compEnvC scope cl C X.env,N:=x::M,s₀:=s₀,H₀:=H₀,outer:=X.stack,stack:=X.stack,ex:=fp,fn:=fun _=>false,pn:=[],xe:=fun _ _=>False }
theorem qBm {env:Env}:∀ {names:List (Str×NameKind)} {x:Str},
  (names.map fun (n,k)=>if (k == NameKind.free && env.scope.kind == .function && env.kindOf n == some .cell) then (n,NameKind.cell) else (n,k)).lookup x =
   (names.lookup x).map fun k=>if (k == NameKind.free && env.scope.kind == .function && env.kindOf x == some .cell) then NameKind.cell else k
 | [],_=>rfl
 | (n,k)::r,x=>by
  have ih:=@qBm env r x
  show List.lookup x ((if (k == NameKind.free && env.scope.kind == .function && env.kindOf n == some .cell)=true then (n,NameKind.cell) else (n,k))::_)=_
  cases hx:x == n with
  | true=>
   have hx':x=n:=by simpa using hx
   subst hx'
   by_cases hc:(k == NameKind.free && env.scope.kind == .function && env.kindOf x == some .cell)=true
   ·simp only [if_pos hc,List.lookup_cons,hx,Option.map_some]
   ·simp only [if_neg hc,List.lookup_cons,hx,Option.map_some]
  | false=>
   by_cases hc:(k == NameKind.free && env.scope.kind == .function && env.kindOf n == some .cell)=true
   ·rw [if_pos hc];simp only [List.lookup_cons,hx];exact ih
   ·rw [if_neg hc];simp only [List.lookup_cons,hx];exact ih
structure CompScope (X:Cx) (M:List Str) (x:Str) (scope:Scope):Prop where
 cell:∀ y∈scope.names,y.2≠.cell
 kind:scope.kind=.function
 names:∀ y∈scope.names,y.2=.local→scope.names.lookup y.1=some .local
 one:∀ y∈scope.names,y.2=.local→y.1=x∨y.1=".0"
 vx:scope.names.lookup x=some .local
 free:∀ y∈scope.names,y.2=.free→X.env.kindOf y.1=some .cell∨X.env.kindOf y.1=some .free
 new:x∉M
 new0:(".0":Str)∉M
 same:∀ (i:Nat) (y:Str),M[i]?=some y→scope.names.lookup y=some .free→X.N[i]?=some y
 nd:M.Nodup
 len:M.length=X.N.length
section
variable {X:Cx}{M:List Str}{x:Str}{scope:Scope}
theorem CompScope.vis (S:CompScope X M x scope){y:Str}(h:Vis #[33] y):(y=x∨y=".0")∨scope.names.lookup y=some .free:=by
 have e:#[33].names.lookup y=(scope.names.lookup y).map fun k=>if #[94] then NameKind.cell else k:=qBm
 unfold Vis at h
 rw [e] at h
 cases q:scope.names.lookup y with
 | none=>rw [q] at h;rcases h with h | h | h <;> cases h
 | some k=>
  have hm:=PySem.mem_of_lookup q
  cases k with
  | «local»=>exact .inl (S.one _ hm rfl)
  | free=>exact .inr rfl
  | cell=>exact absurd rfl (S.cell _ hm)
  | _=>rw [q] at h;rcases h with h | h | h <;> cases h
theorem CompScope.xkind (S:CompScope X M x scope):#[33].names.lookup x=some .local:=by
 have e:#[33].names.lookup x=(scope.names.lookup x).map fun k=>if (k == NameKind.free && X.env.scope.kind == .function && X.env.kindOf x == some .cell) then NameKind.cell else k:=qBm
 rw [e,S.vx]
 rfl
theorem CompScope.fkind (S:CompScope X M x scope){y:Str}(h:scope.names.lookup y=some .free):#[33].names.lookup y=some .cell∨#[33].names.lookup y=some .free:=by
 have e:#[33].names.lookup y=(scope.names.lookup y).map fun k=>if #[94] then NameKind.cell else k:=qBm
 rw [e,h]
 simp only [Option.map_some]
 split
 ·exact .inl rfl
 ·exact .inr rfl
end
theorem Un.but {fs ex:List Addr}{H H':Hp}{h h1 h2:Heap}{C:Addr}(u:Un fs ex H H' h h1)(sb:Heap.SameBut C h1 h2)(hC:h.objs.size≤C):Un fs ex H H' h h2:=by
 have ne:∀ b o,h.get? b=some o→b≠C:=fun b o e=>Nat.ne_of_lt (Nat.lt_of_lt_of_le #[45] hC)
 refine ⟨fun b o e n hb hx=>(sb.2 b (ne b o e)).trans (u.keep b o e n hb hx),fun b o e n hb hx=>?_,u.free,fun b o e hx=>?_,u.tups,u.frzs,u.tbls⟩
 ·obtain ⟨sl,q⟩:=u.slot b o e n hb hx
  exact ⟨sl,(sb.2 b (ne b o e)).trans q⟩
 ·obtain ⟨o',q⟩:=u.there b o e hx
  exact ⟨o',(sb.2 b (ne b o e)).trans q⟩
theorem HOk.but {P:Program}{w:World}{H:Hp}{h h':Heap}{C:Addr}(x:HOk P w H h)(sb:Heap.SameBut C h h')(hC:H C=none):HOk P w H h':=fun b ob e=>by
 refine (x b ob e).stay (fun c v hc q=>(sb.2 c ?_).trans q) (fun _ q=>q) (fun _ _ q=>q) fun _ _ q=>q
 rintro rfl
 rcases hc with rfl | hc
 ·rw [hC] at e;cases e
 ·rw [hC] at hc;cases hc
section
variable {X:Cx}{pins:List (Addr×Obj)}{σ:St}{H:Hp}{s:Shared}{x:Str}{scope:Scope}{cl:List (Str×Addr)}{fp:List Addr}{C:Addr}{h':Heap}{t':Nat}
theorem qel (I:Inv X pins σ H s)(S:CompScope X M x scope)(hcl:∀ y c,cl.lookup y=some c→X.env.cells.lookup y=some c)(hcs:∀ y∈scope.names,y.2=.free→(cl.lookup y.1).isSome=true)
  (hC:s.heap.objs.size≤C) (hfp:∀ b∈fp,qK6 X pins H b∧b < s.heap.objs.size):(qB7 X M s H C fp x scope cl).Ok where
 mod:=I.ok.mod
 tab:=fun x c P h1 h2=>I.base.tbls _ _ (I.ok.tab x c P h1 h2)
 kind:=S.kind
 glob:=I.ok.glob
 blt:=I.ok.blt
 above:=hC
 inj:=fun y z c e1 e2=>I.ok.inj y z c (hcl y c e1) (hcl z c e2)
 has:=fun y hy=>by
  have q:scope.names.lookup y=some .free:=by
   have hv:Vis #[33] y:=by
    rcases hy with z | z
    ·exact .inr (.inl z)
    ·exact .inr (.inr z)
   have e:#[33].names.lookup y=(scope.names.lookup y).map fun k=>if #[94] then NameKind.cell else k:=qBm
   have hy':#[33].names.lookup y=some .cell∨#[33].names.lookup y=some .free:=hy
   rw [e] at hy'
   cases q:scope.names.lookup y with
   | none=>rw [q] at hy';rcases hy' with z | z <;> cases z
   | some k=>
    have hm:=PySem.mem_of_lookup q
    cases k with
    | free=>rfl
    | cell=>exact absurd rfl (S.cell _ hm)
    | _=>rw [q] at hy';rcases hy' with z | z <;> cases z
  have z:=hcs _ (PySem.mem_of_lookup q) rfl
  show ∃ c,cl.lookup y=some c
  cases e:cl.lookup y with
  | none=>
   have z':(cl.lookup y).isSome=true:=z
   rw [e] at z';cases z'
  | some c=>exact ⟨c,rfl⟩
 cab:=fun y c e=>by cases e
 hd:=I.ok.hd
 frames:=I.ok.frames
 stk:=.inl rfl
 exf:=fun b hb=>⟨Nat.ne_of_lt (Nat.lt_of_lt_of_le (hfp b hb).2 hC),fun y c e=>(hfp b hb).1.2.2.2.2.1 y c (hcl y c e)⟩
 bs:=I.bs
 bsz:=Nat.le_trans I.ok.bsz I.sz
 noex:=fun b o e hb=>by
  rcases (hfp b hb).1.2.2.2.1 with z | z
  ·exact I.ok.noex b o e z
  ·exact absurd (Nat.lt_of_lt_of_le (Nat.lt_of_lt_of_le #[45] I.ok.bsz) z) (Nat.lt_irrefl _)
 exfs:=fun b hb z=>by
  have hz:b∈frs X.stack:=z
  rcases List.mem_cons.mp (I.stkSub b hz) with e | e
  ·exact (hfp b hb).1.2.1 e
  ·exact (hfp b hb).1.2.2.1 e
 funs:=I.stack
 frf:=I.stkFree
theorem qay (I:Inv X pins σ H s)(S:CompScope X M x scope)(hcl:∀ y c,cl.lookup y=some c→X.env.cells.lookup y=some c)(hcs:∀ y∈scope.names,y.2=.free→(cl.lookup y.1).isSome=true)
  (hfp:∀ b∈fp,qK6 X pins H b∧b < s.heap.objs.size) {m:Str→Option Value} (hns:h'.Ns s.heap.objs.size m) (old:∀ b o,s.heap.get? b=some o→h'.get? b=some o) :
  Inv (qB7 X M s H s.heap.objs.size fp x scope cl) [] (none::σ) H { s with heap:=h',toks:=t' }:=by
 have fresh:H s.heap.objs.size=none:=I.hok.fresh #[8]
 refine ⟨qel I S hcl hcs #[8] hfp,rfl,I.bare,Un.kept old,⟨m,hns,fun i y v e1 e2 hv=>?_⟩,fun y c e=>?_,fresh,fun y c e=>I.freeC y c (hcl y c e),fun p hp=>?_,I.hok.kept old,?_⟩
 ·cases i with
  | zero=>
   have e2':(none:Option V)=some v:=Option.some.inj e2
   cases e2'
  | succ i=>
   have e1':M[i]?=some y:=e1
   have e2':σ[i]?=some (some v):=e2
   rcases S.vis hv with (z | z) | z
   ·subst z
    exact absurd (List.mem_of_getElem? e1') S.new
   ·subst z
    exact absurd (List.mem_of_getElem? e1') S.new0
   ·have hk:=S.free _ (PySem.mem_of_lookup z) rfl
    obtain ⟨mm,hn,hl⟩:=I.loc
    have hv':Vis X.env.scope y:=by
     rcases hk with k | k
     ·exact .inr (.inl k)
     ·exact .inr (.inr k)
    obtain ⟨u,r,l⟩:=hl i y v (S.same i y e1' z) e2' hv'
    refine ⟨u,r,?_⟩
    rcases l with ⟨k,_⟩ | ⟨_,c,e,q⟩
    ·rcases hk with z | z
     ·rw [show X.env.kindOf y=some .local from k] at z;cases z
     ·rw [show X.env.kindOf y=some .local from k] at z;cases z
    ·have ec:cl.lookup y=some c:=by
      have z2:=hcs _ (PySem.mem_of_lookup z) rfl
      cases e3:cl.lookup y with
      | none=>
       have z3:(cl.lookup y).isSome=true:=z2
       rw [e3] at z3;cases z3
      | some c'=>
       have:=hcl y c' e3
       rw [e] at this
       cases this
       rfl
     obtain ⟨oc,ho,hd⟩:=q
     exact .inr ⟨S.fkind z,c,ec,oc,old _ _ ho,hd⟩
 ·obtain ⟨v,o,ho,hd⟩:=I.cell y c (hcl y c e)
  exact ⟨v,o,old _ _ ho,hd⟩
 ·exact absurd (show p∈([]:List #[10]) from hp) #[7]
 ·show (none::σ).length=(x::M).length
  rw [List.length_cons,List.length_cons,I.len,S.len]
theorem qX0 {s1:Shared}{σ':St}{H':Hp}(I:Inv X pins σ H s)(J:Inv (qB7 X M s H s.heap.objs.size fp x scope cl) [] σ' H' s1)(hfp:∀ b∈fp,qK6 X pins H b∧b < s.heap.objs.size)
  (sb:Heap.SameBut s.heap.objs.size s1.heap h'):Inv X pins σ H' { s1 with heap:=h' }:=by
 have jb:Un (frs X.stack) fp H H' s.heap s1.heap:=J.base
 refine I.call' (s':={ s1 with heap:=h' }) (ch:=fp) J.os (jb.but sb #[8]) (J.hok.but sb J.free) J.bare fun b hb=>?_
 obtain ⟨f0,f1,f2,f3,f4,f5⟩:=(hfp b hb).1
 exact ⟨f3,f1,f4,f5⟩
end
def PTs (X:Cx)(ifs:List Expr)(t:TT):Prop:=
 ∀ (pins:List #[10]) (s:Shared) (σ:St) (H:Hp) (Q:Bool→Hp→Prop),Inv X pins σ H s→t σ H Q→
  wpAny #[12] X.A (forIn ifs true fun c r=>if r=true then do let ok ←isTrue c X.env (eval c X.env);pure (ForInStep.yield ok) else pure (ForInStep.yield r)) (TP X pins σ Q) X.xe s
def tNoIf:TT:=fun _ H Q=>Q true H
theorem qc8 {X:Cx}:PTs X [] tNoIf:=by
 intro pins s σ H Q I h
 rw [List.forIn_nil]
 exact wpAny_pure ⟨H,I,h⟩
theorem qc7 {X:Cx}{c:Expr}{t:TT}(hc:PT X c t):PTs X [c] t:=by
 intro pins s σ H Q I h
 rw [List.forIn_cons]
 simp only [if_true,List.forIn_nil]
 refine wpAny_bind (wpAny_bind (thn (hc pins s σ H Q I h) fun b s1 q=>?_))
 exact wpAny_pure (wpAny_pure q)
theorem qKo {prog:Program}{w:World}{A:Around}{R:Result→Shared→Prop}{s:Shared}{elt target iter:Expr}{ifs:List Expr}{scope:Scope}{pos:Pos}{it acc:Value}{env:Env}(I:Nat→Shared→Prop)
  (turn:∀ n s,I n s→wpAny #[22] A (pyNext it) (fun r s₁=>match r with
   | none=>R (.ok .next) s₁
   | some v=>wpAny #[22] A (letOwnedTupleGo target it v) (fun _ s₀=>wpAny #[22] A (assign target env v) (fun _ s₂=>
     wpAny #[22] A (forIn ifs true fun c r=>if r=true then do let ok ←isTrue c env (eval c env);pure (ForInStep.yield ok) else pure (ForInStep.yield r)) (fun ok s₃=>
      if ok=true then wpAny #[22] A (eval elt env) (fun x s₄=>
       wpAny #[22] A (call (.builtin "list.append") [acc,x]) (fun _ s₅=>∃ m,m < n∧I m s₅) (notedBy #[22] A env fun e s'=>R (.error e) s') s₄) (notedBy (model prog w) A env fun e s'=>R (.error e) s') s₃
      else ∃ m,m < n∧I m s₃) (notedBy (model prog w) A env fun e s'=>R (.error e) s') s₂) (notedBy (model prog w) A env fun e s'=>R (.error e) s') s₀) (notedBy (model prog w) A env fun e s'=>R (.error e) s') s₁) (notedBy (model prog w) A env fun e s'=>R (.error e) s') s)
  (n:Nat) (h:I n s) :
  codeAny #[22] A (.compLoop (.ListComp elt [⟨target,iter,ifs,0⟩] scope pos) 0 it acc env) R s:=by
 refine codeAny_loop rfl I (fun n s hI=>?_) n h
 show wpAny _ A ((compTurn (.ListComp elt [⟨target,iter,ifs,0⟩] scope pos) 0 it acc env).onRaise (fun x=>do noteFrame x env;theTreesLotGoes x)) _ _ s
 refine wpAny_noted ?_
 rw [compTurn_list]
 refine wpAny_bind (wpAny_standAt (wpAny_bind (wpAny_mono (turn n s hI) (fun r s₁ h₁=>?_) fun _ _ h'=>h')))
 cases r with
 | none=>exact wpAny_pure h₁
 | some v=>
  refine wpAny_bind (wpAny_mono h₁ (fun _ s₀ h₀=>?_) fun _ _ h'=>h')
  refine wpAny_bind (wpAny_mono h₀ (fun _ s₂ h₂=>wpAny_bind (wpAny_mono h₂ (fun ok s₃ h₃=>?_) fun _ _ h'=>h')) fun _ _ h'=>h')
  cases ok with
  | false=>exact wpAny_pure ⟨rfl,h₃⟩
  | true=>
   exact wpAny_bind (wpAny_bind (wpAny_mono h₃ (fun x s₄ h₄=>wpAny_bind (wpAny_mono h₄ (fun _ s₅ h₅=>wpAny_pure (wpAny_pure ⟨rfl,h₅⟩)) fun _ _ h'=>h')) fun _ _ h'=>h'))
def qcm (wi:TI)(tt:TT)(te:TE):TE:=fun σ H Q=>wi σ H fun J H1=>∀ l,H1 l=none→∃ W:Nat→List V→Nat→Hp→Prop,(∃ m,W 0 [] m (upd H1 l (.lst [])))∧
 ∀ i acc m H2,W i acc m H2→(J.stop i H2∧Q (.ref l) H2)∨(J.go i H2∧∀ x H3,J.yld i H2 x H3→tt (some x::σ) H3 fun b H4=>
  if b=true then te (some x::σ) H4 fun y H5=>H5 l=some (.lst acc)∧acc.length < sizeLine∧∃ m',m' < m∧W (i + 1) (acc++[y]) m' (upd H5 l (.lst (acc++[y])))
  else ∃ m',m' < m∧W (i + 1) acc m' H4)
theorem qL8 {X:Cx}{elt iter:Expr}{x:Str}{px:Pos}{ifs:List Expr}{scope:Scope}{cl:List (Str×Addr)}{pos:Pos}{tt:TT}{te:TE}{RR:Value→Addr→Result→Shared→Prop}{E:Value→Shared→Prop}
  {pins:List #[10]} {σ:St} {H2:Hp} {s2:Shared} {it:Addr} {fp:List Addr} {tn:Nat→Heap→Prop} {J:It} {Q:VK}
  (hc:X.calm=true) (S:CompScope X M x scope) (hcl:∀ y c,cl.lookup y=some c→X.env.cells.lookup y=some c) (hcs:∀ y∈scope.names,y.2=.free→(cl.lookup y.1).isSome=true) (hN:X.N.Nodup)
  (ht:∀ s₀ H₀ C fp,PTs #[62] ifs tt) (he:∀ s₀ H₀ C fp,PE #[62] elt te)
  (I2:Inv X pins σ H2 s2) (T:Turn X.prog X.w X.K (.Name x px) J fp it tn) (st2:tn 0 s2.heap) (f2:∀ b∈fp,qK6 X pins H2 b)
  (h:∀ l,H2 l=none→∃ W:Nat→List V→Nat→Hp→Prop,(∃ m,W 0 [] m (upd H2 l (.lst [])))∧
   ∀ i acc m H2,W i acc m H2→(J.stop i H2∧Q (.ref l) H2)∨(J.go i H2∧∀ x H3,J.yld i H2 x H3→tt (some x::σ) H3 fun b H4=>
    if b=true then te (some x::σ) H4 fun y H5=>H5 l=some (.lst acc)∧acc.length < sizeLine∧∃ m',m' < m∧W (i + 1) (acc++[y]) m' (upd H5 l (.lst (acc++[y])))
    else ∃ m',m' < m∧W (i + 1) acc m' H4))
  (hRR:∀ D C s1 H',s2.heap.objs.size=D→D < C→H' C=none→(∃ m,s1.heap.Ns C m)→Q (.ref D) H'→Inv X pins σ H' s1→RR (.ref D) C (.ok .next) s1)
  : wpAny #[12] X.A (newList []) (fun acc s₃=>wpAny #[12] X.A (newFunctionEnv scope X.env.globals cl [] X.env.qual none .none (some X.env)) (fun cenv s₄=>
   codeAny #[12] X.A (.compStart #[76] 0 (.ref it) acc { cenv with scope:=relabel scope X.env }) (RR acc cenv.locals) s₄) E s₃) E s2:=by
 refine wpAny_newObj_type (wpAny_newFunctionEnv S.cell (by intro y hy;simp at hy) (fun h₁ hns₁ hsb₁=>?_) S.kind)
 dsimp only at hns₁ hsb₁ ⊢
 have lf:H2 s2.heap.objs.size=none:=I2.hok.fresh #[8]
 have I3:Inv X pins σ (upd H2 s2.heap.objs.size (.lst [])) { s2 with heap:=s2.heap.push { cls:=.type "list",dict:=none,data:=.seq ([]:List Value).toArray } }:=
  I2.laid (t':=s2.toks) (fun b u e=>Heap.get?_push_of_some _ e) #[8] ⟨Nat.zero_le _,[],0,.nil,Heap.get?_push_size _ rfl⟩
 have f3:∀ b∈fp,qK6 X pins (upd H2 s2.heap.objs.size (.lst [])) b∧b < #[105].objs.size:=fun b hb=>by
  obtain ⟨o,ho,_⟩:=T.obj _ _ st2 b hb
  have hlt:=Heap.lt_size ho
  obtain ⟨f0,fr⟩:=f2 b hb
  exact ⟨⟨by rw [qAr (Nat.ne_of_lt hlt)];exact f0,fr⟩,by rw [Heap.size_push];exact Nat.lt_succ_of_lt hlt⟩
 have st3:tn 0 #[105]:=T.keep _ _ _ st2 fun b _ o e=>Heap.get?_push_of_some _ e
 obtain ⟨W,⟨m0,w0⟩,turn⟩:=h s2.heap.objs.size lf
 have hD:X.env.locals < s2.heap.objs.size:=I2.lt
 generalize hs3:({ s2 with heap:=s2.heap.push { cls:=.type "list",dict:=none,data:=.seq ([]:List Value).toArray } }:Shared)=s3 at I3
 have hsz:s3.heap.objs.size=s2.heap.objs.size + 1:=by rw [←hs3];exact Heap.size_push _ _
 have hp3:s2.heap.push { cls:=.type "list",dict:=none,data:=.seq ([]:List Value).toArray }=s3.heap:=by rw [←hs3]
 rw [hp3] at hns₁ hsb₁ f3 st3 ⊢
 generalize hl:s2.heap.objs.size=l at w0 turn I3 f3 hD hsz ⊢
 have hC:s3.heap.objs.size=l + 1:=hsz
 have old:∀ b o,s3.heap.get? b=some o→h₁.get? b=some o:=fun b o e=>hsb₁.extBut b o (Nat.ne_of_lt #[45]) #[78]
 have J0:Inv #[75] [] (none::σ) (upd H2 l (.lst [])) { s3 with heap:=h₁,toks:=s2.toks + ([]:List (Str×Value)).length }:=qay I3 S hcl hcs f3 hns₁ old
 have e4:({ s3 with heap:=h₁,toks:=s2.toks + ([]:List (Str×Value)).length }:Shared)={ s2 with heap:=h₁,toks:=s2.toks + ([]:List (Str×Value)).length }:=by rw [←hs3]
 rw [e4] at J0
 have st4:tn 0 h₁:=T.keep _ _ _ st3 fun b _ o e=>old b o e
 have stat:∀ {H':Hp},(∀ b∈fp,H' b=none)→∀ b∈fp,qK6 #[75] [] H' b:=fun {H'} hn b hb=>by
  obtain ⟨⟨f0,f1,f2,f4,f5,f6⟩,flt⟩:=f3 b hb
  refine ⟨hn b hb,Nat.ne_of_lt flt,fun z=>?_,.inl hb,fun y c e=>f5 y c (hcl y c e),fun p hp=>absurd (show p∈([]:List #[10]) from hp) #[7]⟩
  have hz:b∈frs X.stack:=z
  rcases List.mem_cons.mp (I2.stkSub b hz) with e | e
  ·exact f1 e
  ·exact f2 e
 have hN':#[75].N.Nodup:=List.nodup_cons.mpr ⟨S.new,S.nd⟩
 have loop:codeAny #[12] X.A (.compLoop #[76] 0 (.ref it) (.ref l) (compEnvC scope cl s3.heap.objs.size X.env)) (RR (.ref l) s3.heap.objs.size)
   { s2 with heap:=h₁,toks:=s2.toks + ([]:List (Str×Value)).length }:=by
  refine qKo (fun n s'=>∃ i acc ov H',Inv #[75] [] (ov::σ) H' s'∧tn i s'.heap∧(∀ b∈fp,H' b=none)∧W i acc n H') ?_ m0
   ⟨0,[],none,_,J0,st4,fun b hb=>(f3 b hb).1.1,w0⟩
  rintro n s5 ⟨i,acc,ov,H5,I5,st5,fr5,w5⟩
  rcases turn i acc n H5 w5 with ⟨stop,qn⟩ | ⟨go,step⟩
  ·refine thn (T.done #[75] rfl rfl rfl hc i [] s5 _ H5 _ I5 (stat fr5) st5 stop) fun r s6 ⟨hr,I6⟩=>?_
   subst hr
   have hCC:∃ m,s6.heap.Ns s3.heap.objs.size m:=let ⟨m,hn,_⟩:=I6.loc;⟨m,hn⟩
   exact hRR l _ s6 H5 hl (by rw [hC];exact Nat.lt_succ_self _) I6.free hCC qn (qX0 (h':=s6.heap) I3 I6 f3 (Heap.SameBut.refl _ _))
  ·refine wpAny_mono (T.item #[75] rfl rfl rfl hc i [] s5 _ H5 (fun _ _=>False) I5 (stat fr5) st5 go) (fun r s6 ⟨u,hr,h6⟩=>?_) fun _ _ q=>q.elim
   subst hr
   refine wpAny_mono h6 (fun _ s6' ⟨y,H6,I6,r6,y6,st6,fr6⟩=>?_) fun _ _ q=>q.elim
   have I6':=I6.pinned (stat fr6) (T.obj _ _ st6)
   refine wpAny_mono (wpAny_assign_Name (qMi (E:=fun _ _=>False) (i:=0) (x:=x) I6' hN' rfl (.inl S.xkind) r6 (fun s7 I7=>?_) (.inr S.xkind))) (fun _ _ q=>q) fun _ _ q=>q.elim
   have I7':Inv #[75] ([]++qIe fp s6'.heap) (some y::σ) H6 s7:=I7
   have again:∀ {ov':Option V} {H8:Hp} {s8:Shared} {acc':List V} {m:Nat},Inv #[75] ([]++qIe fp s6'.heap) (ov'::σ) H8 s8→m < n→W (i + 1) acc' m H8→
     ∃ m,m < n∧∃ i acc ov H',Inv #[75] [] (ov::σ) H' s8∧tn i s8.heap∧(∀ b∈fp,H' b=none)∧W i acc m H':=fun {ov' H8 s8 acc' m} I8 hm w8=>by
    refine ⟨m,hm,i + 1,acc',ov',H8,I8.unpinned,T.keep _ _ _ st6 fun b hb o e=>(I8.pin (b,o) #[95]).1,fun b hb=>?_,w8⟩
    obtain ⟨o,e,d⟩:=T.obj _ _ st6 b hb
    exact (I8.pin (b,o) #[95]).2.1
   refine wpAny_mono (ht s3 _ s3.heap.objs.size fp _ s7 _ H6 _ I7' (step y H6 y6)) (fun b s8 ⟨H8,I8,q8⟩=>?_) fun _ _ q=>q.elim
   cases b with
   | false=>
    rw [if_neg Bool.false_ne_true] at q8 ⊢
    obtain ⟨m',hm,w8⟩:=q8
    exact again I8 hm w8
   | true=>
    rw [if_pos rfl] at q8 ⊢
    refine wpAny_mono (he s3 _ s3.heap.objs.size fp _ s8 _ H8 _ I8 q8) (fun u9 s9 ⟨z,H9,I9,r9,e9,hz9,m',hm,w9⟩=>?_) fun _ _ q=>q.elim
    refine wpAny_mono (qJ4 (X:=qB7 X M s3 (upd H2 l (.lst [])) s3.heap.objs.size fp x scope cl) _ s9 _ H9 (.ref l) [z] (.ref l) [u9] (fun v H'=>v=.non∧H'=upd H9 l (.lst (acc++[z]))) I9 rfl (.cons r9 .nil)
     ⟨l,acc,z,rfl,rfl,e9,hz9,rfl,rfl⟩) (fun v10 s10 ⟨_,H10,I10,_,_,e10⟩=>?_) fun _ _ q=>q.elim
    subst e10
    exact again I10 hm w9
 exact codeAny_compStart_list loop (T.self X.A 0 _ _ _ st4 loop)
section
variable {X:Cx}{elt iter:Expr}{x y:Str}{px py:Pos}{ifs:List Expr}{scope:Scope}{pos spos:Pos}{wi:TI}{tt:TT}{te:TE}
theorem qdj (hc:X.calm=true)(hN:X.N.Nodup)(S:CompScope X M x scope)(hi:PI X (.Name x px) iter wi)
  (ht:∀ s₀ H₀ C fp cl,PTs #[62] ifs tt) (he:∀ s₀ H₀ C fp cl,PE #[62] elt te)
  (hs:∀ x,foldedSetIterable iter X.env x=pure x:=by intro _;rfl):PE X #[76] (qcm wi tt te):=by
 intro pins s σ H Q I h
 obtain ⟨cl,hclos,hcl,hcs⟩:=qH5 (env:=X.env) (scope:=scope) fun y hy hf=>I.ok.has y.1 (S.free y hy hf)
 rw [eval_ListComp]
 refine wpAny_comprehension_free (use:=none) rfl hs hclos S.kind S.names (thn (hi pins s σ H _ I h) fun v s1 h1=>thn h1 fun itv s2 h2=>?_)
 obtain ⟨it,fp,tn,J,H2,e,I2,T,st2,f2,hW⟩:=h2
 subst e
 refine qL8 (RR:=fun acc C=>compPost #[12] X.A X.xe none (EP X pins σ Q) acc C) hc S hcl hcs hN (fun s₀ H₀ C fp=>ht s₀ H₀ C fp cl) (fun s₀ H₀ C fp=>he s₀ H₀ C fp cl) I2 T st2 f2 hW ?_
 intro D C s1 H' hD hDC hCf hm q I1
 obtain ⟨m,hm⟩:=hm
 obtain ⟨g0,g1,g2,g3,g4,g5⟩:=I2.fpOk (b:=C) (H':=H') (by rw [hD];exact Nat.le_of_lt hDC) hCf
 exact ⟨m,hm,fun h' sb=>⟨.ref D,H',I1.turned (t':=s1.toks) (fun b o hb e=>(sb.2 b hb).trans e) g0 g1 g3 g4 g5,rfl,q⟩⟩
theorem qdd {i:Nat}(hc:X.calm=true)(hN:X.N.Nodup)(S:CompScope X M x scope)(hi:PI X (.Name x px) iter wi)(hiy:X.N[i]?=some y)(hy:X.env.scope.names.lookup y=some .local)
  (ht:∀ s₀ H₀ C fp cl,PTs #[62] ifs tt) (he:∀ s₀ H₀ C fp cl,PE #[62] elt te)
  (hsw:swapsWith #[76] (some (.Name y py)) spos.line X.env=pure true)
  (hs:∀ x,foldedSetIterable iter X.env x=pure x:=by intro _;rfl) :
  PS X (.Assign [.Name y py] #[76] spos) (fun D σ H=>qcm wi tt te σ H fun v H'=>D.nx (σ.set i (some v)) H'):=by
 intro pins s σ H D I h
 obtain ⟨cl,hclos,hcl,hcs⟩:=qH5 (env:=X.env) (scope:=scope) fun y hy hf=>I.ok.has y.1 (S.free y hy hf)
 rw [exec_Assign_Name_used _ _ _ _ hsw]
 refine wpAny_bind (wpAny_standAt (wpAny_bind ?_))
 show wpAny _ X.A (do let _ ←comprehension #[76] scope X.env _ (newList []) false (eval iter X.env) (some (assign (.Name y py) X.env))) _ _ s
 refine wpAny_bind (wpAny_mono (wpAny_comprehension_free (use:=some (assign (.Name y py) X.env)) (Q:=fun _ s'=>SP X pins D .next s') rfl hs hclos S.kind S.names
  (thn (hi pins s σ H _ I h) fun v s1 h1=>thn h1 fun itv s2 h2=>?_)) (fun _ s' hq=>wpAny_pure (wpAny_pure hq)) fun _ _ e=>e)
 obtain ⟨it,fp,tn,J,H2,e,I2,T,st2,f2,hW⟩:=h2
 subst e
 refine qL8 (Q:=fun v H'=>D.nx (σ.set i (some v)) H') (RR:=fun acc C=>compPost #[12] X.A X.xe (some (assign (.Name y py) X.env)) (fun _ s'=>SP X pins D .next s') acc C) hc S hcl hcs hN (fun s₀ H₀ C fp=>ht s₀ H₀ C fp cl) (fun s₀ H₀ C fp=>he s₀ H₀ C fp cl) I2 T st2 f2 hW ?_
 intro D' C s1 H' hD hDC hCf hm q I1
 obtain ⟨m,hm⟩:=hm
 obtain ⟨g0,g1,g2,g3,g4,g5⟩:=I2.fpOk (b:=C) (H':=H') (by rw [hD];exact Nat.le_of_lt hDC) hCf
 show wpAny _ X.A (assign (.Name y py) X.env (.ref D')) _ _ _
 refine wpAny_assign_Name (qN1 I1 hN hiy (.inl hy) (v:=.ref D') rfl (fun s2 I2' hsame=>?_) (.inr hy))
 obtain ⟨a,hsb,ha⟩:=hsame
 have hne:C≠a:=by
  rcases ha with z | ha
  ·rw [z];exact g1
  ·exact fun z=>g4 y a ha z.symm
 refine ⟨m,hm.sameBut hsb hne,fun h3 hs3=>?_⟩
 exact ⟨_,H',I2'.turned (t':=s2.toks) (fun b o hb e=>(hs3.2 b hb).trans e) g0 g1 g3 g4 g5,q⟩
end
def qKp (scope fs:Scope)(x:Str)(N:List Str):Bool:=
 scope.names.all (fun y=>(y.2 != .cell) && ((y.2 != .local) || ((scope.names.lookup y.1 == some .local) && (y.1 == x || y.1 == ".0"))) && ((y.2 != .free) || (fs.names.lookup y.1 == some .cell || fs.names.lookup y.1 == some .free)))
  && (scope.kind == .function) && (scope.names.lookup x == some .local) && !(N.contains x) && !(N.contains ".0")
theorem qBa {X:Cx}{x:Str}{scope:Scope}(fs:Scope)(N:List Str)(e1:X.env.scope=fs)(e2:X.N=N)(h:qKp scope fs x N=true)(hn:N.Nodup:=by decide +kernel):CompScope X N x scope:=by
 unfold qKp at h
 simp only [Bool.and_eq_true,Bool.not_eq_true',List.all_eq_true,Bool.or_eq_true,bne_iff_ne,beq_iff_eq] at h
 obtain ⟨⟨⟨⟨h1,h2⟩,h3⟩,h4⟩,h5⟩:=h
 refine ⟨fun y hy=>(h1 y hy).1.1,h2,fun y hy hl=>?_,fun y hy hl=>?_,h3,fun y hy hf=>?_,?_,?_,fun i y e _=>by rw [e2];exact e,hn,by rw [e2]⟩
 ·rcases (h1 y hy).1.2 with z | z
  ·exact absurd hl z
  ·exact z.1
 ·rcases (h1 y hy).1.2 with z | z
  ·exact absurd hl z
  ·exact z.2
 ·show X.env.scope.names.lookup y.1=_∨X.env.scope.names.lookup y.1=_
  rw [e1]
  rcases (h1 y hy).2 with z | z
  ·exact absurd hf z
  ·exact z
 ·intro z;rw [List.contains_iff_mem.mpr z] at h4;cases h4
 ·intro z;rw [List.contains_iff_mem.mpr z] at h5;cases h5
theorem qNk {X:Cx}{x:Str}{scope:Scope}(fs:Scope)(N M:List Str)(e1:X.env.scope=fs)(e2:X.N=N)(h:qKp scope fs x M=true)(hn:M.Nodup:=by decide +kernel)(hl:M.length=N.length:=by rfl)
  (hs:((M.zip N).all fun q=>q.1 == q.2 || scope.names.lookup q.1 != some .free)=true:=by decide +kernel):CompScope X M x scope:=by
 have S:CompScope { X with N:=M } M x scope:=qBa fs M e1 rfl h hn
 refine ⟨S.cell,S.kind,S.names,S.one,S.vx,S.free,S.new,S.new0,fun i y e z=>?_,hn,by rw [hl,e2]⟩
 have hi:i < M.length:=(List.getElem?_eq_some_iff.mp e).1
 have hj:i < N.length:=by omega
 have hm:(M[i],N[i])∈M.zip N:=by
  have:(M.zip N)[i]'(by rw [List.length_zip];omega)=(M[i],N[i]):=List.getElem_zip
  rw [←this];exact List.getElem_mem _
 have q:=List.all_eq_true.mp hs _ hm
 have ey:M[i]=y:=(List.getElem?_eq_some_iff.mp e).2
 rw [ey] at q
 simp only [Bool.or_eq_true,beq_iff_eq,bne_iff_ne,ne_eq,z,not_true,or_false] at q
 rw [e2,List.getElem?_eq_getElem hj,q]
open PySem PySem.Spec PyProof.Rows
def Its (z:Str):It:=⟨fun i _=>i < z.cps.size,fun i H v H'=>H'=H∧∃ c,z.cps[i]?=some c∧v=.str ⟨#[c]⟩,fun i _=>i=z.cps.size⟩
theorem qRx {P:Program}{w:World}{K:PySem.W.Frag}{tg:Expr}{T:String}(z:Str)(t:Tok)(it:Addr)(hT:["enumerate","zip","dict_itemiterator","dict_reverseitemiterator","odict_iterator","itertools.zip_longest","itertools.pairwise"].contains T=false)
  (hW:∀ A':Around,A'.handled=none→Walks P w A' it [it] [it] z.cps.size (SignAt z) (fun i h=>h.IsStrIter it T z t i))
  (hS:∀ (A:Around) (i:Nat) (s:Shared) (Q:Value→Shared→Prop) (E:Value→Shared→Prop),s.heap.IsStrIter it T z t i→Q (.ref it) s→wpAny (model P w) A (pyIter (.ref it)) Q E s):Turn P w K tg (Its z) [it] it (fun i h=>h.IsStrIter it T z t i) where
 mem:=by simp
 obj:=fun i h st b hb=>by
  have e:b=it:=by simpa using hb
  subst e
  obtain ⟨o,e,c,d⟩:=st
  exact ⟨o,e,fun v z=>by rw [d] at z;cases z⟩
 keep:=fun i h h' st k=>by
  obtain ⟨o,e,r⟩:=st
  exact ⟨o,k it #[7] o e,r⟩
 item:=by
  intro X hP hw hK hc i pins s σ H E I hf st hg
  subst hP hw hK
  obtain ⟨f0,f1,f2,f3,f4,f5⟩:=hf it #[7]
  refine (hW X.A (I.ok.hd hc)).item i s _ _ hg st fun v h' tk hv st' kk=>?_
  obtain ⟨c,u,hcu,rfl⟩:=hv
  have I1:Inv X pins σ H { s with heap:=h',toks:=tk }:=I.turned (fun b o hb e=>kk b o (by simpa using hb) e) f0 f1 f3 f4 f5
  obtain ⟨o,e,c',d⟩:=id st'
  exact ⟨_,rfl,qai (s:={ s with heap:=h',toks:=tk }) e c' d hT ⟨.str ⟨#[c]⟩,H,I1,⟨u,rfl⟩,⟨rfl,c,hcu,rfl⟩,st',fun b hb=>(hf b hb).1⟩⟩
 done:=by
  intro X hP hw hK hc i pins s σ H E I hf st hg
  subst hP hw hK
  obtain ⟨f0,f1,f2,f3,f4,f5⟩:=hf it #[7]
  have hg':i=z.cps.size:=hg
  subst hg'
  exact (hW X.A (I.ok.hd hc)).done s _ _ st fun h' tk kk=>⟨rfl,I.turned (fun b o hb e=>kk b o (by simpa using hb) e) f0 f1 f3 f4 f5⟩
 self:=hS
theorem Inv.laidTurn {X:Cx}{pins:List #[10]}{σ:St}{H:Hp}{s:Shared}{h':Heap}{t':Nat}{ch:List Addr}{a:Addr}{o:HO}(I:Inv X pins σ H s)(hf:∀ b∈ch,qK6 X pins H b)
  (k:∀ b u,b∉ch→s.heap.get? b=some u→h'.get? b=some u) (hp:s.heap.objs.size≤a) (new:qB8 X.prog X.w (upd H a o) h' a o):Inv X pins σ (upd H a o) { s with heap:=h',toks:=t' }:=by
 have hn:H a=none:=I.hok.fresh hp
 have ntr:∀ b u,H b=some u→b∉ch:=fun b u e z=>by rw [(hf b z).1] at e;cases e
 have nea:∀ b u,s.heap.get? b=some u→b≠a:=fun b u e=>Nat.ne_of_lt (Nat.lt_of_lt_of_le #[45] hp)
 refine I.step (g':=s.gens) (d':=s.drawn) (ch:=ch) (fun b hb=>?_) (fun b u _ _ hc e _=>k b u hc e) (fun b u _ _ hc e _=>⟨u.slots,k b u hc e⟩) (fun b u _ e n=>by rw [qAr (nea b u e)];exact n)
  (fun b u hc e=>⟨u,k b u hc e⟩) (fun b xs e=>by rw [qAr (qAn e hn)];exact e) (fun b u xs e=>by rw [qAr (qAn e hn)];exact e) (fun b ps e=>by rw [qAr (qAn e hn)];exact e) (fun m hm=>?_) (fun b u e=>?_) I.bare
 ·obtain ⟨f0,f1,f2,f3,f4,f5⟩:=hf b hb
  exact ⟨f3,f1,f4,f5⟩
 ·obtain ⟨ob,es,ep,ho,r⟩:=hm
  exact ⟨ob,es,ep,k _ ob (fun z=>(hf _ z).2.1 rfl) ho,r⟩
 ·by_cases hb:b=a
  ·subst hb;rw [qAu] at e;cases e;exact new
  ·rw [qAr hb] at e
   refine (I.hok b u e).stay (fun c v hc q=>k c v ?_ q) (fun c q=>by rw [qAr (qAn q hn)];exact q) (fun c xs q=>by rw [qAr (qAn q hn)];exact q) fun c xs q=>by rw [qAr (qAn q hn)];exact q
   rcases hc with z | z
   ·rw [z];exact ntr b u e
   ·exact ntr c _ z
section
variable {prog:Program}{w:World}{A:Around}{E:Value→Shared→Prop}{s:Shared}
theorem qEe {it l:Addr}{i:Nat}{items}{x:Value}{Q:Value→Shared→Prop}(hit:s.heap.IsTupleIter it l i)
  (hl:s.heap.IsTuple l items) (hx:items[i]?=some x)
  (hQ:∀ h',h'.IsTupleIter it l (i + 1)→Heap.SameBut it s.heap h'→Q x { s with heap:=h' }) :
  wpAny #[22] A (Builtin.SmallTypes.nextOf (.ref it)) Q E s:=by
 obtain ⟨o,ho,hc,hd⟩:=id hit
 obtain ⟨ol,hol,_,nl,hdl⟩:=hl
 unfold Builtin.SmallTypes.nextOf
 refine wpAny_bind (wpAny_callSpecial?_slot (name:=Str.ofString "__next__") hit.typeIs F.slot_tuple_iterator_next
  (wpAny_call_entry F.slot_tuple_iterator_next hit.typeIs F.entry_tuple_iterator_next ?_ (F.args_tuple_iterator_next_1 _)))
 show wpAny _ _ (field (.ref it) 0>>=_) _ _ s
 refine wpAny_bind (wpAny_field ho hd (x:=.ref l) rfl ?_)
 show wpAny _ _ (if (Value.ref l == Value.none)=true then _ else _) _ _ s
 rw [if_neg (show ¬ ((Value.ref l == Value.none)=true) from Bool.false_ne_true)]
 show wpAny _ _ (field (.ref it) 1>>=_) _ _ s
 refine wpAny_bind (wpAny_field ho hd (x:=.int i 0) rfl ?_)
 show wpAny _ _ (seqItems? (.ref l)>>=_) _ _ s
 refine wpAny_bind (wpAny_seqItems hol hdl ?_)
 simp only [Int.toNat_natCast,hx]
 refine wpAny_bind (wpAny_setField ho hd #[7] (wpAny_pure ⟨x,rfl,wpAny_pure (hQ _ ?_ (Heap.SameBut.update ..))⟩))
 exact ⟨_,Heap.get?_update_self _ ho (Obj.isFreed_of_fields (Obj.data_mapFields hd _)),(Obj.cls_mapFields ..).trans hc,by
  rw [Obj.data_mapFields hd];simp [rawInt]⟩
theorem qEs {it l:Addr}{i:Nat}{items}{Q:Value→Shared→Prop}(hh:A.handled=none)
  (hit:s.heap.IsTupleIter it l i) (hl:s.heap.IsTuple l items) (hx:items[i]?=none)
  (hE:∀ h' e,Heap.ExtBut it s.heap h'→(∃ o,h'.get? e=some o∧o.cls=.type "StopIteration")→E (.ref e) { s with heap:=h' }) :
  wpAny #[22] A (Builtin.SmallTypes.nextOf (.ref it)) Q E s:=by
 obtain ⟨o,ho,hc,hd⟩:=id hit
 obtain ⟨ol,hol,_,nl,hdl⟩:=hl
 unfold Builtin.SmallTypes.nextOf
 refine wpAny_bind (wpAny_callSpecial?_slot (name:=Str.ofString "__next__") hit.typeIs F.slot_tuple_iterator_next
  (wpAny_call_entry F.slot_tuple_iterator_next hit.typeIs F.entry_tuple_iterator_next ?_ (F.args_tuple_iterator_next_1 _)))
 show wpAny _ _ (field (.ref it) 0>>=_) _ _ s
 refine wpAny_bind (wpAny_field ho hd (x:=.ref l) rfl ?_)
 show wpAny _ _ (if (Value.ref l == Value.none)=true then _ else _) _ _ s
 rw [if_neg (show ¬ ((Value.ref l == Value.none)=true) from Bool.false_ne_true)]
 show wpAny _ _ (field (.ref it) 1>>=_) _ _ s
 refine wpAny_bind (wpAny_field ho hd (x:=.int i 0) rfl ?_)
 show wpAny _ _ (seqItems? (.ref l)>>=_) _ _ s
 refine wpAny_bind (wpAny_seqItems hol hdl ?_)
 simp only [Int.toNat_natCast,hx]
 refine wpAny_bind (wpAny_rule (wpAny_bind (wpAny_setField ho hd #[7] ?_)))
 show wpAny _ _ (newExc (.type "StopIteration") []>>=_) _ _ _
 refine wpAny_bind ?_
 simp only [newExc,newTuple]
 refine wpAny_bind (wpAny_newObj_type ?_ (by size_fits))
 refine wpAny_bind (m:=firstArgMember _ _) (wpAny_of_eq (a:=Value.none) (by first | rfl | (simp only [firstArgMember];rfl)) ?_)
 refine wpAny_newObj_type ?_ (by size_fits)
 simp only [raiseNew]
 refine wpAny_bind (wpAny_handled ?_)
 first | rw [show A.in1.handled=none from hh] | rw [hh]
 refine wpAny_bind (wpAny_pure (wpAny_throw ?_))
 exact hE _ _ (((Heap.SameBut.update ..).extBut.push _).push _) ⟨_,Heap.get?_push_size _ rfl,rfl⟩
theorem qL7 (hh:A.handled=none)(it l:Addr)(hne:l≠it)(items:Array Value) :
  Draws prog w A it [it,l] items.size (fun i v=>items[i]?=some v) (fun i h=>h.IsTupleIter it l i∧h.IsTuple l items) where
 live:=fun _ _ st=>let ⟨o,ho,_⟩:=st.1;⟨o,ho⟩
 frame:=fun _ _ _ st hk=>⟨let ⟨o,ho,r⟩:=st.1;⟨o,hk it #[7] o ho,r⟩,let ⟨o,ho,r⟩:=st.2;⟨o,hk l #[7] o ho,r⟩⟩
 item:=fun i s Q E hi st hQ=>by
  refine qEe st.1 st.2 (x:=items[i]) (by simp [hi]) fun h' hit' hs'=>?_
  exact hQ _ h' s.toks (by simp [hi]) ⟨hit',let ⟨o,ho,r⟩:=st.2;⟨o,hs'.extBut l o hne ho,r⟩⟩ hs'
 done:=fun s Q E st hE=>qEs hh st.1 st.2 #[7] hE
end
theorem qFs (l:Addr)(items:Array Value)(n:Nat)(dct:Option Addr)(sl:Array (Option Value)) :
  Meets (Builtin.«enumerate.__new__» ⟨[.type "enumerate",.ref l],[]⟩) (fun _ R s=>s.heap.get? l=some { cls:=.type "tuple",dict:=dct,data:=.seq items n,slots:=sl }∧
   R (.ok (.ret (.ref #[97].objs.size)))
    { s with heap:=#[97].push { cls:=.type "enumerate",data:=.fields #[.none,.bool false,.ref s.heap.objs.size,rawInt 0,.none,.none] } }):=
 .of_wp fun prog w A R s h=>by
  obtain ⟨hp,g,d,tk,os⟩:=s;obtain ⟨hl,h⟩:=h
  have hsub:=sub_enumerate
  have hL:Heap.IsTuple (Shared.heap ⟨hp,g,d,tk,os⟩) l items:=⟨_,hl,rfl,n,rfl⟩
  wp_walk using AutoSeq1.wpAny_loadPart' hl
  refine wpAny_stack_any fun st=>wpAny_pure ?_
  split
  ·rename_i c _ _ _ _ _
   cases (c == Value.type "enumerate")
   ·wp_walk using AutoSeq1.wpAny_loadPart' hl,wpAny_pyIter_tuple hL
    exact ⟨_,rfl,h⟩
   ·wp_walk using AutoSeq1.wpAny_loadPart' hl,wpAny_pyIter_tuple hL
    exact ⟨_,rfl,h⟩
  ·wp_walk using AutoSeq1.wpAny_loadPart' hl,wpAny_pyIter_tuple hL
   exact ⟨_,rfl,h⟩
theorem qFu {prog:Program}{w:World}{A:Around}{E:Value→Shared→Prop}{s:Shared}{l:Addr}{items:Array Value}{Q:Value→Shared→Prop}(hL:s.heap.IsTuple l items)
  (h:∀ h',IsEnum h' (s.heap.objs.size + 1) s.heap.objs.size 0 .none→h'.IsTupleIter s.heap.objs.size l 0→h'.objs.size=s.heap.objs.size + 2→
   (∀ b o,s.heap.get? b=some o→h'.get? b=some o)→Q (.ref (s.heap.objs.size + 1)) { s with heap:=h' }) :
  wpAny #[22] A (call (.type "enumerate") [.ref l]) Q E s:=by
 obtain ⟨⟨c,dct,dt,sl⟩,hl,hc,n,hd⟩:=hL
 replace hc:c=.type "tuple":=hc
 replace hd:dt=.seq items n:=hd
 subst hc hd
 refine callType_new F.called_enumerate #[5] (F.typeCall_enumerate_1 _) (F.newCall_enumerate_1 _) (fun obj=>F.args_object_init_2 obj _) F.entry_enumerate_new
  (qFs l items n dct sl) ⟨hl,?_⟩
 have hz:#[97].objs.size=s.heap.objs.size + 1:=Heap.size_push ..
 show _∧_
 rw [hz]
 have he:IsEnum (#[97].push
   { cls:=.type "enumerate",data:=.fields #[.none,.bool false,.ref s.heap.objs.size,rawInt 0,.none,.none] }) (s.heap.objs.size + 1) s.heap.objs.size 0 .none:=by
  have:=Heap.get?_push_size #[97]
   (o:={ cls:=.type "enumerate",data:=.fields #[.none,.bool false,.ref s.heap.objs.size,rawInt 0,.none,.none] }) rfl
  rw [hz] at this;exact this
 refine ⟨⟨_,he,rfl⟩,h _ he ⟨_,Heap.get?_push_of_some _ (Heap.get?_push_size _ rfl),rfl,rfl⟩ (by rw [Heap.size_push,hz]) fun b o x=>Heap.get?_push_of_some _ (Heap.get?_push_of_some _ x)⟩
def IeL (K:PySem.W.Frag)(a:Addr):It:=
 ⟨fun i H=>∃ xs x,SqL K H a xs∧xs[i]?=some x,fun i H x H'=>∃ p v,x=.ref p∧H p=none∧(∀ xs,SqL K H a xs→xs[i]?=some v)∧H'=upd H p (.tup [.int (i:Int),v]),fun i H=>∃ xs,SqL K H a xs∧xs.length=i⟩
theorem qTf {P:Program}{w:World}{K:PySem.W.Frag}{elts:List Expr}{kk:Nat}{tpos:Pos}(a it e:Addr)(hei:e≠it)(hai:a≠it) :
  Turn P w K (.Tuple elts kk tpos) (IeL K a) [e,it] e (fun i h=>(∃ old,IsEnum h e it i old)∧h.IsListIter it a i) where
 mem:=by simp
 obj:=fun i h st b hb=>by
  obtain ⟨⟨old,he⟩,o,ho,c,d⟩:=st
  rcases List.mem_cons.mp hb with rfl | hb
  ·exact ⟨_,he,fun v z=>by
    have z':Data.fields _=Data.cell v:=z
    cases z'⟩
  ·have:b=it:=by simpa using hb
   subst this
   exact ⟨o,ho,fun v z=>by rw [d] at z;cases z⟩
 keep:=fun i h h' st k=>by
  obtain ⟨⟨old,he⟩,o,ho,r⟩:=st
  exact ⟨⟨old,k e #[7] _ he⟩,o,k it #[7] o ho,r⟩
 item:=by
  intro X hP hw hK hc i pins s σ H E I hf st hg
  subst hP hw hK
  obtain ⟨xs,x,hq,hx⟩:=hg
  obtain ⟨its,rv,p,hz⟩:=I.list hq
  obtain ⟨u,hu,ru⟩:=rv.get hx
  obtain ⟨⟨old,he⟩,hit⟩:=st
  have hil:i < its.length:=(List.getElem?_eq_some_iff.mp hu).1
  have hea:e≠a:=fun z=>by
   subst z
   obtain ⟨oa,na,ea,ec,_⟩:=p
   rw [he] at ea;cases ea
   exact absurd (show Value.type "enumerate"=Value.type "list" from ec) #[5]
  have D:=Draws.list (prog:=X.prog) (w:=X.w) (A:=X.A.in1) (I.ok.hd hc) it a hai its.toArray
  refine wpAny_pyNext_enum_itemD D he ⟨hit,p.isList⟩ (by simpa using hil) hei (by simp [hei,hea]) fun y h' tk hy ho hs' hT hsz hk=>?_
  have ey:y=u:=by
   have hy':its[i]?=some y:=by simpa using hy
   rw [hu] at hy'
   exact (Option.some.inj hy').symm
  subst ey
  refine ⟨_,rfl,wpAny_letOwnedTupleGo_enum ho fun h2 he2 hs2=>?_⟩
  have hlt:e < s.heap.objs.size:=Heap.lt_size he
  have keep2:∀ b o,b∉[e,it]→s.heap.get? b=some o→h2.get? b=some o:=fun b o hb q=>by
   have hb1:b≠e:=fun z=>hb (by simp [z])
   have hb2:b≠it:=fun z=>hb (by simp [z])
   exact (hs2.2 b hb1).trans (hk b o hb1 hb2 q)
  have hTe:s.heap.objs.size≠e:=Nat.ne_of_gt hlt
  have hT2:h2.get? s.heap.objs.size=some { cls:=.type "tuple",data:=.seq #[.int i tk,y] }:=(hs2.2 _ hTe).trans hT
  have I2:Inv X pins σ (upd H s.heap.objs.size (.tup [.int (i:Int),x])) { s with heap:=h2,toks:=tk + 1 }:=
   I.laidTurn (ch:=[e,it]) hf keep2 #[8] ⟨by rw [show ([.int (i:Int),x]:List V).length=2 from rfl,sizeLine_eq];decide,[.int i tk,y],.cons ⟨tk,rfl⟩ (.cons ru .nil),_,hT2,rfl,_,rfl⟩
  have fr:H s.heap.objs.size=none:=I.hok.fresh #[8]
  refine ⟨.ref s.heap.objs.size,_,I2,rfl,⟨_,x,rfl,fr,fun ys hy=>by rw [I.list_inj hy hq];exact hx,rfl⟩,⟨⟨y,by simpa using he2⟩,?_⟩,fun b hb=>?_⟩
  ·obtain ⟨⟨o,ho',r⟩,_⟩:=hs'
   exact ⟨o,(hs2.2 it (Ne.symm hei)).trans ho',r⟩
  ·have hb2:b < s.heap.objs.size:=by
    rcases List.mem_cons.mp hb with rfl | hb
    ·exact hlt
    ·have:b=it:=by simpa using hb
     subst this
     obtain ⟨o,ho',_⟩:=hit
     exact Heap.lt_size ho'
   rw [qAr (Nat.ne_of_lt hb2)]
   exact (hf b hb).1
 done:=by
  intro X hP hw hK hc i pins s σ H E I hf st hg
  subst hP hw hK
  obtain ⟨xs,hq,hx⟩:=hg
  obtain ⟨its,rv,p,hz⟩:=I.list hq
  obtain ⟨⟨old,he⟩,hit⟩:=st
  have hl:=rv.length
  have D:=Draws.list (prog:=X.prog) (w:=X.w) (A:=X.A.in1) (I.ok.hd hc) it a hai its.toArray
  have hn:its.toArray.size=i:=by simp;omega
  refine wpAny_pyNext_enum_endD D he (by rw [hn];exact ⟨hit,p.isList⟩) fun h' eb=>⟨rfl,?_⟩
  obtain ⟨f0,f1,f2,f3,f4,f5⟩:=hf it #[7]
  exact I.turned (t':=s.toks) (fun b o hb q=>eb b o hb q) f0 f1 f3 f4 f5
 self:=fun A i s Q E st h=>by
  obtain ⟨⟨old,he⟩,_⟩:=st
  exact wpAny_pyIter_enum he h
def IeT (K:PySem.W.Frag)(a:Addr):It:=
 ⟨fun i H=>∃ xs x,SqT K H a xs∧xs[i]?=some x,fun i H x H'=>∃ p v,x=.ref p∧H p=none∧(∀ xs,SqT K H a xs→xs[i]?=some v)∧H'=upd H p (.tup [.int (i:Int),v]),fun i H=>∃ xs,SqT K H a xs∧xs.length=i⟩
theorem qTe {P:Program}{w:World}{K:PySem.W.Frag}{elts:List Expr}{kk:Nat}{tpos:Pos}(a it e:Addr)(hei:e≠it)(hai:a≠it) :
  Turn P w K (.Tuple elts kk tpos) (IeT K a) [e,it] e (fun i h=>(∃ old,IsEnum h e it i old)∧h.IsTupleIter it a i) where
 mem:=by simp
 obj:=fun i h st b hb=>by
  obtain ⟨⟨old,he⟩,o,ho,c,d⟩:=st
  rcases List.mem_cons.mp hb with rfl | hb
  ·exact ⟨_,he,fun v z=>by
    have z':Data.fields _=Data.cell v:=z
    cases z'⟩
  ·have:b=it:=by simpa using hb
   subst this
   exact ⟨o,ho,fun v z=>by rw [d] at z;cases z⟩
 keep:=fun i h h' st k=>by
  obtain ⟨⟨old,he⟩,o,ho,r⟩:=st
  exact ⟨⟨old,k e #[7] _ he⟩,o,k it #[7] o ho,r⟩
 item:=by
  intro X hP hw hK hc i pins s σ H E I hf st hg
  subst hP hw hK
  obtain ⟨xs,x,hq,hx⟩:=hg
  obtain ⟨its,rv,p,hz⟩:=I.tuple hq
  obtain ⟨u,hu,ru⟩:=rv.get hx
  obtain ⟨⟨old,he⟩,hit⟩:=st
  have hil:i < its.length:=(List.getElem?_eq_some_iff.mp hu).1
  have hea:e≠a:=fun z=>by
   subst z
   obtain ⟨oa,ea,ec,_⟩:=p
   rw [he] at ea;cases ea
   exact absurd (show Value.type "enumerate"=Value.type "tuple" from ec) #[5]
  have D:=qL7 (prog:=X.prog) (w:=X.w) (A:=X.A.in1) (I.ok.hd hc) it a hai its.toArray
  refine wpAny_pyNext_enum_itemD D he ⟨hit,p⟩ (by simpa using hil) hei (by simp [hei,hea]) fun y h' tk hy ho hs' hT hsz hk=>?_
  have ey:y=u:=by
   have hy':its[i]?=some y:=by simpa using hy
   rw [hu] at hy'
   exact (Option.some.inj hy').symm
  subst ey
  refine ⟨_,rfl,wpAny_letOwnedTupleGo_enum ho fun h2 he2 hs2=>?_⟩
  have hlt:e < s.heap.objs.size:=Heap.lt_size he
  have keep2:∀ b o,b∉[e,it]→s.heap.get? b=some o→h2.get? b=some o:=fun b o hb q=>by
   have hb1:b≠e:=fun z=>hb (by simp [z])
   have hb2:b≠it:=fun z=>hb (by simp [z])
   exact (hs2.2 b hb1).trans (hk b o hb1 hb2 q)
  have hTe:s.heap.objs.size≠e:=Nat.ne_of_gt hlt
  have hT2:h2.get? s.heap.objs.size=some { cls:=.type "tuple",data:=.seq #[.int i tk,y] }:=(hs2.2 _ hTe).trans hT
  have I2:Inv X pins σ (upd H s.heap.objs.size (.tup [.int (i:Int),x])) { s with heap:=h2,toks:=tk + 1 }:=
   I.laidTurn (ch:=[e,it]) hf keep2 #[8] ⟨by rw [show ([.int (i:Int),x]:List V).length=2 from rfl,sizeLine_eq];decide,[.int i tk,y],.cons ⟨tk,rfl⟩ (.cons ru .nil),_,hT2,rfl,_,rfl⟩
  have fr:H s.heap.objs.size=none:=I.hok.fresh #[8]
  refine ⟨.ref s.heap.objs.size,_,I2,rfl,⟨_,x,rfl,fr,fun ys hy=>by rw [I.tuple_inj hy hq];exact hx,rfl⟩,⟨⟨y,by simpa using he2⟩,?_⟩,fun b hb=>?_⟩
  ·obtain ⟨⟨o,ho',r⟩,_⟩:=hs'
   exact ⟨o,(hs2.2 it (Ne.symm hei)).trans ho',r⟩
  ·have hb2:b < s.heap.objs.size:=by
    rcases List.mem_cons.mp hb with rfl | hb
    ·exact hlt
    ·have:b=it:=by simpa using hb
     subst this
     obtain ⟨o,ho',_⟩:=hit
     exact Heap.lt_size ho'
   rw [qAr (Nat.ne_of_lt hb2)]
   exact (hf b hb).1
 done:=by
  intro X hP hw hK hc i pins s σ H E I hf st hg
  subst hP hw hK
  obtain ⟨xs,hq,hx⟩:=hg
  obtain ⟨its,rv,p,hz⟩:=I.tuple hq
  obtain ⟨⟨old,he⟩,hit⟩:=st
  have hl:=rv.length
  have D:=qL7 (prog:=X.prog) (w:=X.w) (A:=X.A.in1) (I.ok.hd hc) it a hai its.toArray
  have hn:its.toArray.size=i:=by simp;omega
  refine wpAny_pyNext_enum_endD D he (by rw [hn];exact ⟨hit,p⟩) fun h' eb=>⟨rfl,?_⟩
  obtain ⟨f0,f1,f2,f3,f4,f5⟩:=hf it #[7]
  exact I.turned (t':=s.toks) (fun b o hb q=>eb b o hb q) f0 f1 f3 f4 f5
 self:=fun A i s Q E st h=>by
  obtain ⟨⟨old,he⟩,_⟩:=st
  exact wpAny_pyIter_enum he h
section
variable {X:Cx}{elts:List Expr}{kk:Nat}{tpos p pos:Pos}{a:Expr}{ta:TA}
def iEnum (K:PySem.W.Frag)(ta:TA):TI:=fun σ H R=>ta σ H fun vs H1=>∃ a,vs=[.ref a]∧(((∃ xs,SqL K H1 a xs)∧R (IeL K a) H1)∨((∃ xs,SqT K H1 a xs)∧R (IeT K a) H1))
theorem qdh (hg:Gl X "enumerate")(hm:X.mg "enumerate"=none)(ha:PA X [a] ta)(hs:starEach [a] X.env=[(false,eval a X.env)]:=by rfl):PI X (.Tuple elts kk tpos) (.Call (.Name "enumerate" p) [a] [] pos) (iEnum X.K ta):=by
 intro pins s σ H R I h
 refine Call_ (qFc I hg hm boot_enumerate (PyProof.Rows.callWith_type1 (thn (ha pos pins s σ H _ I h) fun us s1 ⟨vs,H1,I1,r1,q1⟩=>?_) hs rfl))
 obtain ⟨c,e,q⟩:=q1
 subst e
 cases r1 with
 | cons r rr=>
  cases rr
  cases (show _=Value.ref c from r)
  rcases q with ⟨⟨xs,hq⟩,q⟩ | ⟨⟨xs,hq⟩,q⟩
  ·obtain ⟨its,rv,pl,hz⟩:=I1.list hq
   refine call_enumerate_list pl.isList fun h' he hit hsz hk=>?_
   refine wpAny_pyIter_enum he ?_
   have hc:c < s1.heap.objs.size:=pl.lt
   refine ⟨s1.heap.objs.size + 1,[s1.heap.objs.size + 1,s1.heap.objs.size],_,_,H1,rfl,I1.kept (t':=s1.toks) hk,qTf c s1.heap.objs.size (s1.heap.objs.size + 1) (Nat.ne_of_gt (Nat.lt_succ_self _)) (Nat.ne_of_lt hc),⟨⟨_,he⟩,hit⟩,fun b hb=>?_,q⟩
   have hb2:s1.heap.objs.size≤b:=by
    rcases List.mem_cons.mp hb with z | z
    ·rw [z];exact Nat.le_succ _
    ·have:b=s1.heap.objs.size:=by simpa using z
     rw [this];exact Nat.le_refl _
   exact I1.fpOk hb2 (I1.hok.fresh hb2)
  ·obtain ⟨its,rv,pl,hz⟩:=I1.tuple hq
   refine qFu (show s1.heap.IsTuple c its.toArray from pl) fun h' he hit hsz hk=>?_
   refine wpAny_pyIter_enum he ?_
   have hc:c < s1.heap.objs.size:=by obtain ⟨o,e,_⟩:=pl;exact Heap.lt_size e
   refine ⟨s1.heap.objs.size + 1,[s1.heap.objs.size + 1,s1.heap.objs.size],_,_,H1,rfl,I1.kept (t':=s1.toks) hk,qTe c s1.heap.objs.size (s1.heap.objs.size + 1) (Nat.ne_of_gt (Nat.lt_succ_self _)) (Nat.ne_of_lt hc),⟨⟨_,he⟩,hit⟩,fun b hb=>?_,q⟩
   have hb2:s1.heap.objs.size≤b:=by
    rcases List.mem_cons.mp hb with z | z
    ·rw [z];exact Nat.le_succ _
    ·have:b=s1.heap.objs.size:=by simpa using z
     rw [this];exact Nat.le_refl _
   exact I1.fpOk hb2 (I1.hok.fresh hb2)
def iSeq (K:PySem.W.Frag)(tl:TE):TI:=fun σ H R=>tl σ H fun x H1=>(∃ a,x=.ref a∧(((∃ xs,SqL K H1 a xs)∧R (Itl K a) H1)∨((∃ xs,SqT K H1 a xs)∧R (Itt K a) H1)))∨∃ z,x=.str z∧R (Its z) H1
theorem qV8 {tg l:Expr}{tl:TE}(hl:PE X l tl):PI X tg l (iSeq X.K tl):=by
 intro pins s σ H R I h
 refine thn (hl pins s σ H _ I h) fun v s1 ⟨x,H1,I1,r1,q1⟩=>?_
 have fp1:∀ b∈[s1.heap.objs.size],qK6 X pins H1 b:=fun b hb=>by
  have e:b=s1.heap.objs.size:=by simpa using hb
  subst e
  exact I1.fpOk #[8] (I1.hok.fresh #[8])
 rcases q1 with ⟨c,e,q⟩ | ⟨z,e,q⟩
 ·subst e
  cases r1
  rcases q with ⟨⟨xs,hq⟩,q⟩ | ⟨⟨xs,hq⟩,q⟩
  ·obtain ⟨its,rv,p,hz⟩:=I1.list hq
   refine wpAny_pyIter_list p.isList ?_
   exact ⟨s1.heap.objs.size,[s1.heap.objs.size],_,_,H1,rfl,I1.kept (t':=s1.toks) fun b o e=>Heap.get?_push_of_some _ e,qUy c _,⟨_,Heap.get?_push_size _ rfl,rfl,rfl⟩,fp1,q⟩
  ·obtain ⟨its,rv,p,hz⟩:=I1.tuple hq
   refine wpAny_pyIter_tuple (show s1.heap.IsTuple c its.toArray from p) ?_
   exact ⟨s1.heap.objs.size,[s1.heap.objs.size],_,_,H1,rfl,I1.kept (t':=s1.toks) fun b o e=>Heap.get?_push_of_some _ e,qTc c _,⟨_,Heap.get?_push_size _ rfl,rfl,rfl⟩,fp1,q⟩
 ·subst e
  obtain ⟨t,rfl⟩:=r1
  cases ha:z.cps.all (· < 128)
  ·refine wpAny_pyIter_wide ha ?_
   exact ⟨s1.heap.objs.size,[s1.heap.objs.size],_,_,H1,rfl,I1.kept (t':=s1.toks) fun b o e=>Heap.get?_push_of_some _ e,qRx (T:="str_iterator") z t _ #[5] (fun A' hA=>Walks.strWide hA _ z t) (fun A i s Q E st h=>wpAny_pyIter_striter_wide st h),⟨_,Heap.get?_push_size _ rfl,rfl,rfl⟩,fp1,q⟩
  ·refine wpAny_pyIter_ascii ha ?_
   exact ⟨s1.heap.objs.size,[s1.heap.objs.size],_,_,H1,rfl,I1.kept (t':=s1.toks) fun b o e=>Heap.get?_push_of_some _ e,qRx (T:="str_ascii_iterator") z t _ #[5] (fun A' hA=>Walks.strAscii hA _ z t) (fun A i s Q E st h=>wpAny_pyIter_striter_ascii st h),⟨_,Heap.get?_push_size _ rfl,rfl,rfl⟩,fp1,q⟩
end
open PySem PySem.Spec PyProof.Rows
def qKw (σ:List Str)(v:Str):List Str:=if σ.any (· == v) then σ else σ++[v]
def qHj (val:Nat→Str):Nat→List Str
 | 0=>[]
 | i + 1=>qKw (qHj val i) (val i)
theorem qU3 (σ:List Str)(v k:Str):(qKw σ v).any (· == k)=(σ.any (· == k) || decide (k=v)):=by
 unfold qKw
 by_cases h:σ.any (· == v)=true
 ·rw [if_pos h]
  by_cases e:k=v
  ·subst e;rw [h];simp
  ·simp [e]
 ·rw [if_neg h,List.any_append]
  by_cases e:k=v
  ·subst e;simp
  ·have hb:(v == k)=false:=by simpa [beq_iff_eq] using (fun h':v=k=>e h'.symm)
   simp [hb,e]
theorem qN3 (σ:List Str)(v:Str):(qKw σ v).length=if σ.any (· == v) then σ.length else σ.length + 1:=by
 unfold qKw;split <;> simp
theorem qSo (val:Nat→Str):∀ i,(qHj val i).length≤i
 | 0=>Nat.le_refl _
 | i + 1=>by
  have ih:=qSo val i
  rw [qHj,qN3]
  split <;> omega
section
variable {prog:Program}{w:World}{A:Around}{R:Result→Shared→Prop}{I:Addr}{fp wr:List Addr}{n:Nat}{P:Nat→Value→Prop}{St:Nat→Heap→Prop}
theorem qS2 (W:Walks prog w A.in1 I fp wr n P St)(S:Addr)(hSf:S∉fp)(val:Nat→Str)(hval:∀ i v,P i v→∃ t,v=.str (val i) t)(hb:n + 1 < scanBound) :
  ∀ (k i:Nat) (s:Shared),n - i=k→i≤n→St i s.heap→s.heap.SetOf (strKind prog w) S (fun k'=>(qHj val i).any (· == k')) (qHj val i).length→
   (∀ h' tk,(∀ b o,b∉S::wr→s.heap.get? b=some o→h'.get? b=some o)→h'.SetOf (strKind prog w) S (fun k'=>(qHj val n).any (· == k')) (qHj val n).length→R (.ok (.ret .none)) { s with heap:=h',toks:=tk })→
   codeAny #[22] A (.builtin "set.update.loop" ⟨[.ref S,.ref I],[]⟩) R s:=by
 have hSw:S∉wr:=fun h=>hSf (W.sub _ h)
 intro k
 induction k with
 | zero=>
  intro i s hk hi hst hS hR
  obtain rfl:i=n:=by omega
  refine codeAny_builtin PyProof.Rows.F.entry_set_update_loop ?_
  rw [Around.under_plainId PyProof.Rows.F.plain_set_update_loop _]
  show wpAny _ A.in1 (pyNext (.ref I)>>=_) _ _ s
  refine wpAny_bind (W.done s _ _ hst fun h' tk kp=>?_)
  show wpAny _ A.in1 (ret Value.none) _ _ _
  obtain ⟨o,es,ep,t,ho,qFw⟩:=hS
  exact wpAny_pure (hR h' tk (fun b o hb e=>kp b o (fun z=>hb (List.mem_cons_of_mem _ z)) e) ⟨o,es,ep,t,kp S o hSw ho,qFw⟩)
 | succ k ih=>
  intro i s hk hi hst hS hR
  have hlt:i < n:=by omega
  refine codeAny_builtin PyProof.Rows.F.entry_set_update_loop ?_
  rw [Around.under_plainId PyProof.Rows.F.plain_set_update_loop _]
  show wpAny _ A.in1 (pyNext (.ref I)>>=_) _ _ s
  refine wpAny_bind (W.item i s _ _ hlt hst fun v h1 tk1 hP hst1 kp=>?_)
  obtain ⟨t,rfl⟩:=hval i v hP
  have hS1:h1.SetOf (strKind prog w) S (fun k'=>(qHj val i).any (· == k')) (qHj val i).length:=by
   obtain ⟨o,es,ep,tb,ho,qFw⟩:=hS
   exact ⟨o,es,ep,tb,kp S o hSw ho,qFw⟩
  show wpAny _ A.in1 (holding [Value.str (val i) t] (setAdd S (.str (val i) t))>>=_) _ _ _
  refine wpAny_bind (wpAny_holding ?_)
  unfold setAdd
  refine wpAny_holding ?_
  have his:(strKind prog w).is (val i) (.str (val i) t)=true:=strKind_is _ _ _ _
  refine wpAny_bind ((strKind prog w).pyHash (k:=val i) his ?_)
  have hroom:(qHj val i).length + 1 < scanBound:=by have:=qSo val i;omega
  refine wpAny_setAddHashed_of (knd:=strKind prog w) (s:={ s with heap:=h1,toks:=tk1 + 1 }) his rfl hS1 hroom fun h2 hsb hS2=>?_
  have hSi:h2.SetOf (strKind prog w) S (fun k'=>(qHj val (i + 1)).any (· == k')) (qHj val (i + 1)).length:=
   SetOf_congr hS2 (fun k'=>by rw [qHj,qU3]) (by rw [qHj,qN3])
  refine wpAny_pure ⟨plainId_quiet PyProof.Rows.F.plain_set_update_loop _,ih (i + 1) _ #[0] hlt (W.frame _ h1 _ hst1 fun b hb o e=>?_) hSi fun h3 tk3 kp3 hS3=>hR h3 tk3 (fun b o hb e=>kp3 b o hb ?_) hS3⟩
  ·rw [hsb.2 b (fun h:b=S=>hSf (by rw [←h];exact hb))];exact e
  ·rw [hsb.2 b (fun h:b=S=>hb (by rw [h];exact List.mem_cons_self))];exact kp b o (fun z=>hb (List.mem_cons_of_mem _ z)) e
end
theorem qMh:isSubtype (.type "list") (.type "set")=pure false:=by rw [isSubtype_type];kernel_rfl
theorem qF4:isSubtype (.type "list") (.type "frozenset")=pure false:=by rw [isSubtype_type];kernel_rfl
theorem qQo {prog:Program}{w:World}{A:Around}{E:Value→Shared→Prop}{s:Shared}{l:Addr}{items:Array Value}{val:Nat→Str}{Q:Value→Shared→Prop}
  (hh:A.handled=none) (hl:s.heap.IsList l items) (hi:∀ (i:Nat) (v:Value),items[i]?=some v→∃ t,v=Value.str (val i) t) (hb:items.size + 1 < scanBound)
  (h:∀ (h':Heap) (tk:Nat),h'.SetOf (strKind prog w) s.heap.objs.size (fun k'=>(qHj val items.size).any (· == k')) (qHj val items.size).length→
   (∀ b o,b < s.heap.objs.size→s.heap.get? b=some o→h'.get? b=some o)→Q #[52] { s with heap:=h',toks:=tk }) :
  wpAny #[22] A (call (.type "set") [.ref l]) Q E s:=by
 obtain ⟨c,tl,hmro⟩:=PySem.F.called_set.mro
 have hmade:=PySem.F.called_set.made
 have hsub:=PySem.F.called_set.sub
 refine wpAny_call (codeAny_of_tree ?_)
 show wpAny _ _ (callAny (.type "set") _) _ _ _
 refine wpAny_pure ⟨Code.quiet_builtin _ #[19],codeAny_builtin PySem.F.entry_type_call ?_⟩
 rw [Around.under_plain (weight_type_call_type "set" [.ref l] []) rfl]
 have h1:=PySem.F.called_set.notType
 have h2:=PySem.F.called_set.canCreate
 have hct:=PySem.F.typeCall_set_1 (.ref l)
 repeat (any_goals (first | assumption | wp_step))
 refine codeAny_mono #[119] fun r s₁ hr=>?_
 cases r with
 | error e=>exact hr
 | ok fl=>
  cases fl with
  | ret obj=>
   obtain ⟨led,rfl,rfl⟩:=hr
   have hS:#[60].get? s.heap.objs.size=some { cls:=.type "set",dict:=none,data:=.set #[] 0 (.fresh 0 0 led) }:=Heap.get?_push_size _ rfl
   have hT:Shared.TypeIs { s with heap:=s.heap.push { cls:=.type "set",dict:=none,data:=.set #[] 0 (.fresh 0 0 led) } } #[52] "set":=⟨_,hS,rfl⟩
   have hli:=PySem.F.called_set.init.lookup
   have hbi:=PySem.F.called_set.init.bind #[52]
   repeat (any_goals (first | assumption | wp_step))
   refine codeAny_mono (codeAny_call_builtin (R:=wants (fun r s₂=>r=.none∧∃ h' tk,s₂={ s with heap:=h',toks:=tk }∧
     h'.SetOf (strKind prog w) s.heap.objs.size (fun k'=>(qHj val items.size).any (· == k')) (qHj val items.size).length∧
     (∀ b o,b < s.heap.objs.size→s.heap.get? b=some o→h'.get? b=some o)) E) PySem.F.called_set.init.plain PySem.F.entry_set_init (check_set_init_1 hT ?_)) fun r₂ s₂ hr₂=>?_
   ·obtain ⟨⟨ocls,odict,odata,oslots⟩,hol,hcl,nl,hdl⟩:=hl
    simp only at hcl hdl
    subst hcl;subst hdl
    have hol':#[60].get? l=some { cls:=.type "list",dict:=odict,data:=.seq items nl,slots:=oslots }:=Heap.get?_push_of_some _ hol
    have hsls:=qMh
    have hslf:=qF4
    have hne:(Value.type "list" == Value.type "dict")=false:=by decide
    have hl1:#[60].IsList l items:=⟨_,hol',rfl,nl,rfl⟩
    unfold Builtin.«set.__init__» noKeywords Builtin.Frozenset.updateFrom
    generalize hPI:pyIter=PI
    wp_walk
    subst hPI
    refine wpAny_pyIter_list hl1 ?_
    refine wpAny_bind (wpAny_runValue ?_)
    have hlS:l < s.heap.objs.size:=Heap.lt_size hol
    have hh3:A.in1.in1.in1.handled=none:=by simp [hh]
    have hneI:l≠#[60].objs.size:=by
     rw [Heap.size_push];exact Nat.ne_of_lt (Nat.lt_succ_of_lt hlS)
    have hSf:s.heap.objs.size∉[#[60].objs.size,l]:=by
     rw [Heap.size_push];simp only [List.mem_cons,List.mem_singleton,List.not_mem_nil,or_false,not_or]
     exact ⟨Nat.ne_of_lt (Nat.lt_succ_self _),Nat.ne_of_gt hlS⟩
    refine qS2 (Walks.list hh3 _ l hneI items) s.heap.objs.size hSf val hi hb (items.size - 0) 0 _ #[0] #[50] ⟨⟨_,Heap.get?_push_size _ rfl,rfl,rfl⟩,?hl2⟩ ?hS0 ?hR
    case hl2=>exact ⟨_,Heap.get?_push_of_some _ hol',rfl,nl,rfl⟩
    case hS0=>
     have hget:(#[60].push { cls:=.type "list_iterator",data:=.fields #[.ref l,.int 0 0] }).get? s.heap.objs.size
       = some { cls:=.type "set",dict:=none,data:=.set #[] 0 (.fresh 0 0 led) }:=Heap.get?_push_of_some _ hS
     exact SetOf_congr ((setObjOf_fresh (knd:=strKind prog w) led).setOf hget (by unfold scanBound;omega)) (fun _=>rfl) rfl
    case hR=>
     intro h' tk' kp hS'
     show wpAny _ _ _ _ _ _
     refine wpAny_pure ?_
     show wpAny _ _ (ret Value.none) _ _ _
     refine wpAny_pure ⟨rfl,h',tk',rfl,hS',fun b o hb e=>?_⟩
     have hb1:b≠s.heap.objs.size:=Nat.ne_of_lt hb
     have hb2:b≠#[60].objs.size:=by
      rw [Heap.size_push];exact Nat.ne_of_lt (Nat.lt_succ_of_lt hb)
     exact kp b o (by simp only [List.mem_cons,List.mem_singleton,List.not_mem_nil,or_false,not_or];exact ⟨hb1,hb2⟩) (Heap.get?_push_of_some _ #[78])
   ·cases r₂ with
    | error e=>exact hr₂
    | ok fl₂=>
     cases fl₂ with
     | ret r=>
      obtain ⟨rfl,h',tk,rfl,hS',hk'⟩:=hr₂
      repeat (any_goals (first | assumption | wp_step))
      exact h _ _ hS' hk'
     | _=>exact hr₂.elim
  | _=>exact hr.elim
theorem qKv:isSubtype (.type "tuple") (.type "set")=pure false:=by rw [isSubtype_type];kernel_rfl
theorem qFr:isSubtype (.type "tuple") (.type "frozenset")=pure false:=by rw [isSubtype_type];kernel_rfl
theorem qN6 {prog:Program}{w:World}{A:Around}{E:Value→Shared→Prop}{s:Shared}{l:Addr}{items:Array Value}{val:Nat→Str}{Q:Value→Shared→Prop}
  (hh:A.handled=none) (hl:s.heap.IsTuple l items) (hi:∀ (i:Nat) (v:Value),items[i]?=some v→∃ t,v=Value.str (val i) t) (hb:items.size + 1 < scanBound)
  (h:∀ (h':Heap) (tk:Nat),h'.SetOf (strKind prog w) s.heap.objs.size (fun k'=>(qHj val items.size).any (· == k')) (qHj val items.size).length→
   (∀ b o,b < s.heap.objs.size→s.heap.get? b=some o→h'.get? b=some o)→Q #[52] { s with heap:=h',toks:=tk }) :
  wpAny #[22] A (call (.type "set") [.ref l]) Q E s:=by
 obtain ⟨c,tl,hmro⟩:=PySem.F.called_set.mro
 have hmade:=PySem.F.called_set.made
 have hsub:=PySem.F.called_set.sub
 refine wpAny_call (codeAny_of_tree ?_)
 show wpAny _ _ (callAny (.type "set") _) _ _ _
 refine wpAny_pure ⟨Code.quiet_builtin _ #[19],codeAny_builtin PySem.F.entry_type_call ?_⟩
 rw [Around.under_plain (weight_type_call_type "set" [.ref l] []) rfl]
 have h1:=PySem.F.called_set.notType
 have h2:=PySem.F.called_set.canCreate
 have hct:=PySem.F.typeCall_set_1 (.ref l)
 repeat (any_goals (first | assumption | wp_step))
 refine codeAny_mono #[119] fun r s₁ hr=>?_
 cases r with
 | error e=>exact hr
 | ok fl=>
  cases fl with
  | ret obj=>
   obtain ⟨led,rfl,rfl⟩:=hr
   have hS:#[60].get? s.heap.objs.size=some { cls:=.type "set",dict:=none,data:=.set #[] 0 (.fresh 0 0 led) }:=Heap.get?_push_size _ rfl
   have hT:Shared.TypeIs { s with heap:=s.heap.push { cls:=.type "set",dict:=none,data:=.set #[] 0 (.fresh 0 0 led) } } #[52] "set":=⟨_,hS,rfl⟩
   have hli:=PySem.F.called_set.init.lookup
   have hbi:=PySem.F.called_set.init.bind #[52]
   repeat (any_goals (first | assumption | wp_step))
   refine codeAny_mono (codeAny_call_builtin (R:=wants (fun r s₂=>r=.none∧∃ h' tk,s₂={ s with heap:=h',toks:=tk }∧
     h'.SetOf (strKind prog w) s.heap.objs.size (fun k'=>(qHj val items.size).any (· == k')) (qHj val items.size).length∧
     (∀ b o,b < s.heap.objs.size→s.heap.get? b=some o→h'.get? b=some o)) E) PySem.F.called_set.init.plain PySem.F.entry_set_init (check_set_init_1 hT ?_)) fun r₂ s₂ hr₂=>?_
   ·obtain ⟨⟨ocls,odict,odata,oslots⟩,hol,hcl,nl,hdl⟩:=hl
    simp only at hcl hdl
    subst hcl;subst hdl
    have hol':#[60].get? l=some { cls:=.type "tuple",dict:=odict,data:=.seq items nl,slots:=oslots }:=Heap.get?_push_of_some _ hol
    have hsls:=qKv
    have hslf:=qFr
    have hne:(Value.type "tuple" == Value.type "dict")=false:=by decide
    have hl1:#[60].IsTuple l items:=⟨_,hol',rfl,nl,rfl⟩
    unfold Builtin.«set.__init__» noKeywords Builtin.Frozenset.updateFrom
    generalize hPI:pyIter=PI
    wp_walk
    subst hPI
    refine wpAny_pyIter_tuple hl1 ?_
    refine wpAny_bind (wpAny_runValue ?_)
    have hlS:l < s.heap.objs.size:=Heap.lt_size hol
    have hh3:A.in1.in1.in1.handled=none:=by simp [hh]
    have hneI:l≠#[60].objs.size:=by
     rw [Heap.size_push];exact Nat.ne_of_lt (Nat.lt_succ_of_lt hlS)
    have hSf:s.heap.objs.size∉[#[60].objs.size,l]:=by
     rw [Heap.size_push];simp only [List.mem_cons,List.mem_singleton,List.not_mem_nil,or_false,not_or]
     exact ⟨Nat.ne_of_lt (Nat.lt_succ_self _),Nat.ne_of_gt hlS⟩
    refine qS2 (Walks.tuple hh3 _ l hneI items) s.heap.objs.size hSf val hi hb (items.size - 0) 0 _ #[0] #[50] ⟨⟨_,Heap.get?_push_size _ rfl,rfl,rfl⟩,?hl2⟩ ?hS0 ?hR
    case hl2=>exact ⟨_,Heap.get?_push_of_some _ hol',rfl,nl,rfl⟩
    case hS0=>
     have hget:(#[60].push { cls:=.type "tuple_iterator",data:=.fields #[.ref l,.int 0 0] }).get? s.heap.objs.size
       = some { cls:=.type "set",dict:=none,data:=.set #[] 0 (.fresh 0 0 led) }:=Heap.get?_push_of_some _ hS
     exact SetOf_congr ((setObjOf_fresh (knd:=strKind prog w) led).setOf hget (by unfold scanBound;omega)) (fun _=>rfl) rfl
    case hR=>
     intro h' tk' kp hS'
     show wpAny _ _ _ _ _ _
     refine wpAny_pure ?_
     show wpAny _ _ (ret Value.none) _ _ _
     refine wpAny_pure ⟨rfl,h',tk',rfl,hS',fun b o hb e=>?_⟩
     have hb1:b≠s.heap.objs.size:=Nat.ne_of_lt hb
     have hb2:b≠#[60].objs.size:=by
      rw [Heap.size_push];exact Nat.ne_of_lt (Nat.lt_succ_of_lt hb)
     exact kp b o (by simp only [List.mem_cons,List.mem_singleton,List.not_mem_nil,or_false,not_or];exact ⟨hb1,hb2⟩) (Heap.get?_push_of_some _ #[78])
   ·cases r₂ with
    | error e=>exact hr₂
    | ok fl₂=>
     cases fl₂ with
     | ret r=>
      obtain ⟨rfl,h',tk,rfl,hS',hk'⟩:=hr₂
      repeat (any_goals (first | assumption | wp_step))
      exact h _ _ hS' hk'
     | _=>exact hr₂.elim
  | _=>exact hr.elim
open PySem PySem.Spec PyProof.Rows
theorem qT5:typeLookup (.type "list_reverseiterator") "__len__"=pure none:=by rw [typeLookup_type,builtinLookup_eq_fast];kernel_rfl
theorem qZ5:typeLookup (.type "list_reverseiterator") "__length_hint__"=pure (some (.builtin "list_reverseiterator.__length_hint__")):=by rw [typeLookup_type,builtinLookup_eq_fast];kernel_rfl
section
variable {prog:Program}{w:World}{A:Around}{E:Value→Shared→Prop}{s:Shared}{r:Addr}
theorem qY7 {Q:Bool→Shared→Prop}(hT:s.TypeIs (.ref r) "list_reverseiterator")(h:Q false s):wpAny #[22] A (Builtin.List.listLengthHint (.ref r)) Q E s:=by
 unfold Builtin.List.listLengthHint
 refine wpAny_bind (wpAny_specialOf hT qT5 ?_)
 show wpAny _ _ (specialOf (Value.ref r) (Str.ofString "__length_hint__")>>=_) _ _ _
 refine wpAny_bind (wpAny_specialOf hT qZ5 ?_)
 generalize hid:("list_reverseiterator.__length_hint__":String)=id0
 wp_delta
 rw [show splitId id0=some ("list_reverseiterator","__length_hint__") from by subst hid;decide +kernel]
 subst hid
 refine wpAny_bind (wpAny_isInstance (T:="list_reverseiterator") (b:=true) hT (by rw [isSubtype_type];kernel_rfl) ?_)
 refine wpAny_ite_split (fun hab=>absurd hab #[5]) (fun _=>?_)
 refine wpAny_ite_split (fun _=>?_) (fun hab=>absurd #[19] hab)
 refine wpAny_ite_split (fun hab=>absurd hab #[19]) (fun _=>?_)
 exact wpAny_pure h
theorem qTx {l I:Addr}{items:Array Value}{R:Result→Shared→Prop}(hh:A.handled=none)(hne:l≠I)(S:Addr)(hSI:S≠I)(hSl:S≠l)(res:Value)(c₀:Nat)(hit:s.heap.IsRevIter I l ((items.size:Int) - 1))(hl:s.heap.IsList l items)(hS:s.heap.get? S=some { cls:=.type "list",data:=.seq #[] c₀ })
  (hR:∀ h' tk acc' c',(∀ b o,b≠S→b≠I→s.heap.get? b=some o→h'.get? b=some o)→h'.get? S=some { cls:=.type "list",dict:=none,data:=.seq acc' c',slots:=#[] }→ItemsOf (fun i v=>items[items.size - 1 - i]?=some v) acc' items.size→R (.ok (.ret res)) { s with heap:=h',toks:=tk }) (hn:items.size≤sizeLine) :
  wpAny #[22] A.in1 (Builtin.List.listExtendWith (.ref S) (.ref I) res)
   (fun fin s'=>match fin with | .done f=>R (.ok f) s' | .again c'=>c'.quiet=true∧codeAny #[22] A c' R s') (fun e s'=>R (.error e) s') s:=by
 have W:=Walks.listRev (prog:=prog) (w:=w) (A:=A.in1) hh I l hne items
 have hSf:S∉[I,l]:=by simp only [List.mem_cons,List.not_mem_nil,or_false,not_or];exact ⟨hSI,hSl⟩
 unfold Builtin.List.listExtendWith
 refine wpAny_bind (wpAny_typeOf hit.typeIs ?_)
 have h1:Builtin.List.listSameRef (.ref S) (.ref I)=false:=by simp [Builtin.List.listSameRef,hSI]
 have h2:(Value.type "list_reverseiterator" == Value.type "list")=false:=by decide
 have h3:(Value.type "list_reverseiterator" == Value.type "tuple")=false:=by decide
 simp only [h1,h2,h3,Bool.or_false,Bool.false_eq_true,if_false]
 refine wpAny_bind (wpAny_pyIter_revIter hit ?_)
 refine wpAny_bind (wpAny_holding (qY7 hit.typeIs ?_))
 refine wpAny_ite_split (fun hab=>absurd hab #[19]) (fun _=>?_)
 refine wpAny_pure ⟨plainId_quiet PySem.F.plain_extend_loop _,codeAny_extend_loopS W.toS hn S hSf res items.size 0 _ #[] c₀ rfl #[50] ⟨Nat.zero_le _,by simpa using hit,hl⟩ hS (ItemsOf.nil _) fun s' acc' c' hm hS' hacc=>?_⟩
 rw [Moved.eq_with hm]
 refine hR s'.heap s'.toks acc' c' (fun b o hb hb2 e=>hm.heap b o (fun hmem=>?_) e) hS' hacc
 rcases List.mem_cons.mp hmem with e' | hmem
 ·exact hb e'
 ·exact hb2 (List.mem_singleton.mp hmem)
theorem qY6 {l:Addr}{items:Array Value}{Q:Value→Shared→Prop}(hh:A.handled=none)(hl:s.heap.IsList l items)(hn:items.size≤sizeLine)
  (hQ:∀ h' tk acc' c' n,s.heap.objs.size≤n→(∀ b o,s.heap.get? b=some o→h'.get? b=some o)→h'.get? n=some { cls:=.type "list",dict:=none,data:=.seq acc' c',slots:=#[] }→ItemsOf (fun i v=>items[items.size - 1 - i]?=some v) acc' items.size→Q (.ref n) { s with heap:=h',toks:=tk }) :
  wpAny #[22] A (call (.type "reversed") [.ref l]) (fun v s'=>wpAny #[22] A (call (.type "list") [v]) Q E s') E s:=by
 refine call_reversed_list hl ?_
 have hI:(s.heap.push (revObj l ((items.size:Int) - 1))).IsRevIter s.heap.objs.size l ((items.size:Int) - 1):=⟨_,Heap.get?_push_size _ rfl,rfl,rfl⟩
 have hl2:(s.heap.push (revObj l ((items.size:Int) - 1))).IsList l items:=hl.at fun o e=>Heap.get?_push_of_some _ e
 generalize hg:s.heap.push (revObj l ((items.size:Int) - 1))=g at *
 have hgs:s.heap.objs.size < g.objs.size:=by obtain ⟨o,ho,_⟩:=hI;exact Heap.lt_size ho
 have hlt:l < s.heap.objs.size:=by obtain ⟨o,ho,_⟩:=hl;exact Heap.lt_size ho
 refine callType_codes (Q₁:=fun obj s₁=>obj=.ref g.objs.size∧s₁={ s with heap:=g.push { cls:=.type "list",data:=.seq #[] } }) PySem.F.called_list (PySem.F.typeCall_list_1 _) PySem.F.entry_list_init
  (code_list_new _ ⟨rfl,rfl⟩) fun obj s₁ h₁=>?_
 obtain ⟨rfl,rfl⟩:=h₁
 have hS:(g.push { cls:=.type "list",data:=.seq #[] }).get? g.objs.size=some { cls:=.type "list",data:=.seq #[] }:=Heap.get?_push_size _ rfl
 refine ⟨⟨_,hS,rfl⟩,PySem.F.args_list_init_2 _ _,?_⟩
 show wpAny _ _ (do let old ←Builtin.List.listItems (.ref g.objs.size);Builtin.List.listUpdate (.ref g.objs.size) (fun _=>#[]);letGo old.toList.reverse;Builtin.List.listExtendWith (.ref g.objs.size) #[52] .none) _ _ _
 refine wpAny_bind ?_
 unfold Builtin.List.listItems
 refine wpAny_bind (wpAny_seqItems hS rfl (wpAny_pure ?_))
 show wpAny _ _ (updateSeq g.objs.size (fun _=>#[])>>=fun _=>letGo (#[]:Array Value).toList.reverse>>=fun _=>Builtin.List.listExtendWith (.ref g.objs.size) #[52] .none) _ _ _
 refine wpAny_bind (wpAny_updateSeq hS rfl ?_)
 have hS₂:=Heap.get?_update_self (Obj.mapSeq (fun _=>(#[]:Array Value))) hS rfl
 have oth:∀ b o,b≠g.objs.size→g.get? b=some o→((g.push { cls:=.type "list",data:=.seq #[] }).update g.objs.size (Obj.mapSeq (fun _=>(#[]:Array Value)))).get? b=some o:=
  fun b o hb e=>(Heap.get?_update_other _ _ (Ne.symm hb)).trans #[78]
 refine wpAny_bind (wpAny_letGo ?_)
 refine qTx (A:=A.in1) (I:=s.heap.objs.size) (l:=l) (items:=items) hh (Nat.ne_of_lt hlt) g.objs.size (Nat.ne_of_gt hgs) (Nat.ne_of_gt (Nat.lt_trans hlt hgs)) .none _ (hI.at fun o e=>oth _ o (Nat.ne_of_lt hgs) e) (hl2.at fun o e=>oth _ o (Nat.ne_of_lt (Nat.lt_trans hlt hgs)) e) hS₂ (fun h' tk acc' c' hk hS' hacc=>?_) hn
 refine ⟨rfl,hQ h' tk acc' c' _ (Nat.le_of_lt hgs) (fun b o e=>?_) hS' hacc⟩
 have hb:=Heap.lt_size e
 refine hk b o (Nat.ne_of_lt (Nat.lt_trans hb hgs)) (Nat.ne_of_lt hb) (oth b o (Nat.ne_of_lt (Nat.lt_trans hb hgs)) ?_)
 rw [←hg];exact Heap.get?_push_of_some _ e
end
open PySem PySem.Spec PyProof.Rows PySem.W
def OkT {α:Type}(lt:Nat→Nat→Bool)(n:Nat)(P:α→Prop):KasT α→Prop
 | .ret a=>P a
 | .ask i j k=>i < n∧j < n∧OkT lt n P (k (lt i j))
section
variable {lt:Nat→Nat→Bool}{n:Nat}
theorem ok_bind {α β:Type}{P:α→Prop}{R:β→Prop}{f:α→KasT β}:∀ (t:KasT α),OkT lt n P t→(∀ a,P a→OkT lt n R (f a))→OkT lt n R (t.bind f)
 | .ret a,h,hf=>hf a h
 | .ask i j k,h,hf=>⟨h.1,h.2.1,ok_bind (k (lt i j)) h.2.2 hf⟩
theorem qGa {α:Type}{P R:α→Prop}(hf:∀ a,P a→R a):∀ (t:KasT α),OkT lt n P t→OkT lt n R t
 | .ret a,h=>hf a h
 | .ask i j k,h=>⟨h.1,h.2.1,qGa hf (k (lt i j)) h.2.2⟩
theorem ok_wp {α:Type}{cmp:Nat→Nat→(Bool→Shared→Prop)→Shared→Prop}{P:α→Prop}{Q:α→Shared→Prop}{J:Shared→Prop}(hc:∀ i j C s,i < n→j < n→J s→(∀ s',J s'→C (lt i j) s')→cmp i j C s)
  (hq:∀ a s,P a→J s→Q a s):∀ (t:KasT α) (s:Shared),OkT lt n P t→J s→t.kasWp cmp Q s
 | .ret a,s,h,hj=>hq a s h hj
 | .ask i j k,s,h,hj=>hc i j _ s h.1 h.2.1 hj fun s' hj'=>ok_wp hc hq (k (lt i j)) s' h.2.2 hj'
def Up (lt:Nat→Nat→Bool)(p:Array Nat)(a k:Nat):Prop:=∀ i j,a≤i→i < j→j < k→lt (p.getD j 0) (p.getD i 0)=false
def Dn (lt:Nat→Nat→Bool)(p:Array Nat)(k:Nat):Prop:=∀ i j,i < j→j < k→lt (p.getD i 0) (p.getD j 0)=false
def Al (lt:Nat→Nat→Bool)(p:Array Nat)(a k:Nat):Prop:=∀ i j,a≤i→i < k→a≤j→j < k→lt (p.getD i 0) (p.getD j 0)=false
structure Pm (n:Nat) (p:Array Nat):Prop where
 sz:p.size=n
 lo:∀ i,p.getD i 0 < n
 pm:p.Perm (List.range n).toArray
theorem qdg (h0:0 < n){p:Array Nat}(h:p.Perm (List.range n).toArray):Pm n p:=by
 have sz:p.size=n:=by rw [h.size_eq];simp
 refine ⟨sz,fun i=>?_,h⟩
 by_cases hi:i < p.size
 ·have e:p.getD i 0=p[i]:=by simp [Array.getD,hi]
  have:p[i]∈(List.range n).toArray:=h.mem_iff.mp (Array.getElem_mem hi)
  rw [e];simpa using this
 ·have e:p.getD i 0=0:=by simp [Array.getD,hi]
  rw [e];exact h0
theorem qD4 {p q:Array Nat}{i j:Nat}(h:p[i]?=q[j]?):p.getD i 0=q.getD j 0:=by
 rw [Array.getD_eq_getD_getElem?,Array.getD_eq_getD_getElem?,h]
theorem qLf {p:Array Nat}{i j:Nat}(hj:j≤p.size)(hij:i≤j)(k:Nat):(kas_rev p i j).getD k 0=if i≤k∧k < j then p.getD (i + j - 1 - k) 0 else p.getD k 0:=by
 unfold kas_rev
 have e:=getElem?_mirror (xs:=p) (i:=i) (j:=j) hj ((j - i) / 2) #[0] k
 by_cases h:i≤k∧k < j
 ·rw [if_pos h]
  apply qD4
  rw [e]
  by_cases h2:(i≤k∧k < i + (j - i) / 2)∨(j - (j - i) / 2≤k∧k < j)
  ·rw [if_pos h2]
  ·rw [if_neg h2]
   have:i + j - 1 - k=k:=by omega
   rw [this]
 ·rw [if_neg h]
  apply qD4
  rw [e,if_neg #[0]]
theorem qSb (h0:0 < n){p:Array Nat}(h:Pm n p)(i j:Nat):Pm n (kas_rev p i j):=qdg h0 ((mirror_perm _ _ _ _).trans h.pm)
theorem qb6 {p:Array Nat}{k l:Nat}(hk:k < p.size)(hl:l≤k)(i:Nat):(bubble p k (k - l)).getD i 0=if i=l then p.getD k 0 else if l < i∧i≤k then p.getD (i - 1) 0 else p.getD i 0:=by
 have e:=getElem?_bubble (xs:=p) (src:=k) hk (k - l) #[0] i
 have e2:k - (k - l)=l:=by omega
 rw [e2] at e
 by_cases h:i=l
 ·rw [if_pos h];apply qD4;rw [e,if_pos h]
 ·rw [if_neg h]
  by_cases h2:l < i∧i≤k
  ·rw [if_pos h2];apply qD4;rw [e,if_neg h,if_pos h2]
  ·rw [if_neg h2];apply qD4;rw [e,if_neg h,if_neg h2]
variable (as:∀ i j,lt i j=true→lt j i=false)(tr:∀ i j k,lt j i=false→lt k j=false→lt k i=false)
include as tr
theorem irr (i:Nat):lt i i=false:=by
 cases h:lt i i with
 | false=>rfl
 | true=>have:=as i i h;rw [h] at this;exact this
theorem up_one (p:Array Nat){k:Nat}(hk:1≤k)(u:Up lt p 0 k)(h:lt (p.getD k 0) (p.getD (k - 1) 0)=false):Up lt p 0 (k + 1):=fun i j ha hi hj=>by
 by_cases e:j=k
 ·subst e
  by_cases e2:i=j - 1
  ·subst e2;exact h
  ·exact tr _ _ _ (u i (j - 1) ha #[0] #[0]) h
 ·exact u i j ha hi #[0]
theorem qWg {p:Array Nat}(hp:Pm n p):∀ (f m:Nat),1≤m→Up lt p 0 m→OkT lt n (fun r=>m≤r∧r≤m + f∧Up lt p 0 r∧(r < m + f→lt (p.getD r 0) (p.getD (r - 1) 0)=true)) (kas_asc p f m)
 | 0,m,h1,u=>⟨Nat.le_refl _,by omega,u,fun h=>absurd h #[0]⟩
 | f + 1,m,h1,u=>by
  refine ⟨hp.lo _,hp.lo _,?_⟩
  cases h:lt (p.getD m 0) (p.getD (m - 1) 0) with
  | true=>exact ⟨Nat.le_refl _,by omega,u,fun _=>h⟩
  | false=>exact qGa (fun r q=>⟨by omega,by omega,q.2.2.1,fun z=>q.2.2.2 #[0]⟩) _ (qWg hp f (m + 1) #[0] (up_one as tr p h1 u h))
theorem qb4 {p:Array Nat}{k:Nat}(hk:1≤k)(u:Dn lt p k)(h:lt (p.getD (k - 1) 0) (p.getD k 0)=false):Dn lt p (k + 1):=fun i j hi hj=>by
 by_cases e:j=k
 ·subst e
  by_cases e2:i=j - 1
  ·subst e2;exact h
  ·exact tr _ _ _ h (u i (j - 1) #[0] #[0])
 ·exact u i j hi #[0]
theorem qb3 {p:Array Nat}{m q k:Nat}(hm:m≤p.size)(hq:q < m)(hk:m≤k)(u:Dn lt p k)(al:Al lt p (m - (q + 1)) m):Dn lt (kas_rev p (m - (q + 1)) m) k:=fun i j hi hj=>by
 rw [qLf hm #[0],qLf hm #[0]]
 by_cases h1:m - (q + 1)≤i∧i < m
 ·rw [if_pos h1]
  by_cases h2:m - (q + 1)≤j∧j < m
  ·rw [if_pos h2];exact al _ _ #[0] #[0] #[0] #[0]
  ·rw [if_neg h2];exact u _ _ #[0] hj
 ·rw [if_neg h1]
  by_cases h2:m - (q + 1)≤j∧j < m
  ·rw [if_pos h2];exact u _ _ #[0] #[0]
  ·rw [if_neg h2];exact u _ _ hi hj
theorem qM2 (h0:0 < n):∀ (f:Nat) (p:Array Nat) (m q:Nat),Pm n p→q < m→m + f≤n→Dn lt p m→Al lt p (m - (q + 1)) m→
  OkT lt n (fun r=>Pm n r.1∧m≤r.2.1∧r.2.1≤m + f∧r.2.2 < r.2.1∧Dn lt r.1 r.2.1∧Al lt r.1 (r.2.1 - (r.2.2 + 1)) r.2.1) (kas_desc f p m q)
 | 0,p,m,q,hp,hq,hf,u,al=>⟨hp,Nat.le_refl _,Nat.le_add_right _ _,hq,u,al⟩
 | f + 1,p,m,q,hp,hq,hf,u,al=>by
  refine ⟨hp.lo _,hp.lo _,?_⟩
  have one:∀ (p':Array Nat),Al lt p' (m + 1 - (0 + 1)) (m + 1):=fun p' i j a b c d=>by
   have e1:i=m:=by omega
   have e2:j=m:=by omega
   subst e1;subst e2;exact irr as tr _
  cases h:lt (p.getD m 0) (p.getD (m - 1) 0) with
  | true=>
   simp only [if_true]
   have u':Dn lt p (m + 1):=qb4 as tr #[0] u (as _ _ h)
   by_cases hq0:q > 0
   ·rw [if_pos hq0]
    exact qGa (fun r z=>⟨z.1,by omega,by omega,z.2.2.2.1,z.2.2.2.2.1,z.2.2.2.2.2⟩) _ (qM2 h0 f _ (m + 1) 0 (qSb h0 hp _ _) #[0] #[0] (qb3 as tr (by rw [hp.sz];omega) hq #[0] u' al) (one _))
   ·rw [if_neg hq0]
    exact qGa (fun r z=>⟨z.1,by omega,by omega,z.2.2.2.1,z.2.2.2.2.1,z.2.2.2.2.2⟩) _ (qM2 h0 f _ (m + 1) 0 hp #[0] #[0] u' (one _))
  | false=>
   simp only [Bool.false_eq_true,if_false]
   refine ⟨hp.lo _,hp.lo _,?_⟩
   cases h':lt (p.getD (m - 1) 0) (p.getD m 0) with
   | true=>simp only [if_true];exact ⟨hp,Nat.le_refl _,Nat.le_add_right _ _,hq,u,al⟩
   | false=>
    simp only [Bool.false_eq_true,if_false]
    refine qGa (fun r z=>⟨z.1,by omega,by omega,z.2.2.2.1,z.2.2.2.2.1,z.2.2.2.2.2⟩) _ (qM2 h0 f _ (m + 1) (q + 1) hp #[0] #[0] (qb4 as tr #[0] u h') fun i j a b c d=>?_)
    by_cases e1:i=m
    ·by_cases e2:j=m
     ·subst e1;subst e2;exact irr as tr _
     ·subst e1;exact tr _ _ _ (al _ _ #[0] #[0] #[0] #[0]) h
    ·by_cases e2:j=m
     ·subst e2;exact tr _ _ _ h' (al _ _ #[0] #[0] #[0] #[0])
     ·exact al i j #[0] #[0] #[0] #[0]
theorem qSk (h0:0 < n){p:Array Nat}{m:Nat}(hp:Pm n p)(h1:1≤m)(hm:m≤n)(u:Dn lt p m):OkT lt n (fun r=>Pm n r.2∧1≤r.1∧r.1≤n∧Up lt r.2 0 r.1) (kas_tail3 m n p):=by
 have hr:=qSb h0 hp 0 m
 have up:Up lt (kas_rev p 0 m) 0 m:=fun i j ha hi hj=>by
  rw [qLf (by rw [hp.sz];exact hm) #[0],qLf (by rw [hp.sz];exact hm) #[0],if_pos #[0],if_pos #[0]]
  exact u _ _ #[0] #[0]
 exact ok_bind _ (qWg as tr hr (n - m) m h1 up) fun r q=>⟨hr,by omega,by omega,q.2.2.1⟩
theorem qJ0 (h0:0 < n){p:Array Nat}{m:Nat}(hp:Pm n p)(h1:1≤m)(hm:m + 1≤n)(u:Dn lt p (m + 1)):OkT lt n (fun r=>Pm n r.2∧1≤r.1∧r.1≤n∧Up lt r.2 0 r.1) (kas_descPart m n p):=by
 refine ok_bind _ (qM2 as tr h0 (n - (m + 1)) p (m + 1) 0 hp #[0] #[0] u fun i j a b c d=>?_) fun r z=>?_
 ·have e1:i=m:=by omega
  have e2:j=m:=by omega
  subst e1;subst e2;exact irr as tr _
 ·obtain ⟨z1,z2,z3,z4,z5,z6⟩:=z
  by_cases hq:r.2.2 > 0
  ·rw [if_pos hq]
   exact qSk as tr h0 (qSb h0 z1 _ _) #[0] #[0] (qb3 as tr (by rw [z1.sz];omega) z4 #[8] z5 z6)
  ·rw [if_neg hq]
   exact qSk as tr h0 z1 #[0] #[0] z5
theorem qZy (h0:0 < n){p:Array Nat}(hp:Pm n p):OkT lt n (fun r=>Pm n r.2∧1≤r.1∧r.1≤n∧Up lt r.2 0 r.1) (kas_count n p):=by
 refine ok_bind _ (qWg as tr hp (n - 1) 1 #[8] fun i j a b c=>absurd c #[0]) fun m z=>?_
 obtain ⟨z1,z2,z3,z4⟩:=z
 by_cases e1:(m == n)=true
 ·rw [if_pos e1];exact ⟨hp,z1,by omega,z3⟩
 ·rw [if_neg e1]
  have hmn:m≠n:=fun q=>e1 (by rw [q];exact beq_self_eq_true _)
  have hlt:=z4 #[0]
  by_cases e2:m > 1
  ·rw [if_pos e2]
   refine ⟨hp.lo _,hp.lo _,?_⟩
   cases h:lt (p.getD 0 0) (p.getD (m - 1) 0) with
   | true=>simp only [if_true];exact ⟨hp,z1,by omega,z3⟩
   | false=>
    simp only [Bool.false_eq_true,if_false]
    refine qJ0 as tr h0 (qSb h0 hp _ _) z1 #[0] ?_
    have al:Al lt p 0 m:=fun i j _ hi _ hj=>by
     have a1:lt (p.getD i 0) (p.getD 0 0)=false:=by
      by_cases z:i=0
      ·subst z;exact irr as tr _
      ·exact z3 0 i #[8] #[0] hi
     have a2:lt (p.getD (m - 1) 0) (p.getD j 0)=false:=by
      by_cases z:j=m - 1
      ·subst z;exact irr as tr _
      ·exact z3 j (m - 1) #[50] #[0] #[0]
     exact tr _ _ _ a2 (tr _ _ _ h a1)
    intro i j hi hj
    rw [qLf (by rw [hp.sz];omega) #[0],qLf (by rw [hp.sz];omega) #[0],if_pos #[0]]
    by_cases e:j=m
    ·subst e
     rw [if_neg #[0]]
     exact tr _ _ _ (as _ _ hlt) (al _ _ #[0] #[0] #[0] #[0])
    ·rw [if_pos #[0]]
     exact al _ _ #[0] #[0] #[0] #[0]
  ·rw [if_neg e2]
   refine qJ0 as tr h0 hp z1 #[0] fun i j hi hj=>?_
   have e:m=1:=by omega
   subst e
   have e3:i=0:=by omega
   have e4:j=1:=by omega
   subst e3;subst e4
   exact as _ _ hlt
theorem qM1 {p:Array Nat}{k:Nat}(hp:Pm n p)(u:Up lt p 0 k):∀ (f l r:Nat),l≤r→r≤k→r - l≤f→(∀ i,i < l→lt (p.getD k 0) (p.getD i 0)=false)→(∀ i,r≤i→i < k→lt (p.getD k 0) (p.getD i 0)=true)→
  OkT lt n (fun x=>x≤k∧(∀ i,i < x→lt (p.getD k 0) (p.getD i 0)=false)∧(∀ i,x≤i→i < k→lt (p.getD k 0) (p.getD i 0)=true)) (kas_place p k f l r)
 | 0,l,r,h1,h2,h3,a,b=>⟨by omega,a,fun i hi=>b i #[0]⟩
 | f + 1,l,r,h1,h2,h3,a,b=>by
  unfold kas_place
  by_cases e:l ≥ r
  ·rw [if_pos e];exact ⟨by omega,a,fun i hi=>b i #[0]⟩
  ·rw [if_neg e]
   refine ⟨hp.lo _,hp.lo _,?_⟩
   cases h:lt (p.getD k 0) (p.getD ((l + r) / 2) 0) with
   | true=>
    simp only [if_true]
    refine qM1 hp u f l _ #[0] #[0] #[0] a fun i hi hk=>?_
    by_cases z:i=(l + r) / 2
    ·subst z;exact h
    ·cases q:lt (p.getD k 0) (p.getD i 0) with
     | true=>rfl
     | false=>
      have:=tr _ _ _ (u ((l + r) / 2) i #[50] #[0] hk) q
      rw [h] at this;exact this.symm
   | false=>
    simp only [Bool.false_eq_true,if_false]
    refine qM1 hp u f _ r #[0] h2 #[0] (fun i hi=>?_) b
    by_cases z:i=(l + r) / 2
    ·subst z;exact h
    ·exact tr _ _ _ (u i ((l + r) / 2) #[50] #[0] #[0]) h
theorem qbq (h0:0 < n):∀ (f:Nat) (p:Array Nat) (k:Nat),Pm n p→1≤k→k + f=n→Up lt p 0 k→OkT lt n (fun p=>Pm n p∧Up lt p 0 n) (kas_bin f p k)
 | 0,p,k,hp,h1,h2,u=>by
  have e:k=n:=by omega
  subst e;exact ⟨hp,u⟩
 | f + 1,p,k,hp,h1,h2,u=>by
  refine ok_bind _ (qM1 as tr hp u k 0 k #[50] #[8] #[0] (fun i hi=>absurd hi #[0]) fun i hi hk=>absurd hk #[0]) fun l z=>?_
  obtain ⟨z1,z2,z3⟩:=z
  have hk:k < p.size:=by rw [hp.sz];omega
  refine qbq h0 f _ (k + 1) (qdg h0 ((bubble_perm _ _ _).trans hp.pm)) #[0] #[0] fun i j _ hi hj=>?_
  rw [qb6 hk z1,qb6 hk z1]
  by_cases e1:i=l
  ·rw [if_pos e1,if_neg #[0],if_pos #[0]]
   exact as _ _ (z3 _ #[0] #[0])
  ·rw [if_neg e1]
   by_cases e2:l < i∧i≤k
   ·rw [if_pos e2,if_neg #[0],if_pos #[0]]
    exact u _ _ #[50] #[0] #[0]
   ·rw [if_neg e2]
    by_cases e3:j=l
    ·rw [if_pos e3];exact z2 _ #[0]
    ·rw [if_neg e3]
     by_cases e4:l < j∧j≤k
     ·rw [if_pos e4]
      exact u _ _ #[50] #[0] #[0]
     ·rw [if_neg e4];exact u _ _ #[50] hi #[0]
theorem qWf (h0:0 < n):OkT lt n (fun p=>Pm n p∧Up lt p 0 n) (kas_sort n):=by
 refine ok_bind _ (qZy as tr h0 (qdg h0 (Array.Perm.refl _))) fun r z=>?_
 obtain ⟨z1,z2,z3,z4⟩:=z
 by_cases h:r.1 < n
 ·rw [if_pos h]
  have e:max r.1 1=r.1:=by omega
  rw [e]
  exact qbq as tr h0 _ _ _ z1 z2 #[0] z4
 ·rw [if_neg h]
  have e:r.1=n:=by omega
  rw [e] at z4
  exact ⟨z1,z4⟩
end
open PySem PySem.Spec PyProof.Rows PySem.W
theorem qU8:∀ {vs:List Value},vs.length < 2→(vs.toArray.zip vs.toArray).map (·.2)=List.toArray ((List.range vs.length).toArray.toList.map fun i=>vs.getD i Value.none)
 | [],_=>by simp
 | [v],_=>by simp [List.range_succ]
 | _::_::_,h=>absurd h #[7]
section
variable {prog:Program}{w:World}{A:Around}{E:Value→Shared→Prop}{s:Shared}{a:Addr}{vs:List Value}{κ:SortKind}{lt:Nat→Nat→Bool}{PP:Array Nat→Prop}
theorem qRz {n:Nat}{P:PySem.Fin→Shared→Prop}(ho:s.heap.get? a=some (seqObj "list" vs.toArray n))(h64:vs.length < 64)
  (hkind:2≤vs.length→∀ h1:Heap,(∀ b o,b≠a→s.heap.get? b=some o→h1.get? b=some o)→∀ Q:SortKind→Shared→Prop,Q κ { s with heap:=h1 }→wpAny #[22] A (keyKind' vs.toArray) Q (fun _ _=>False) { s with heap:=h1 })
  (hcmp:∀ (h1:Heap) (tk i j:Nat) (C:Bool→Shared→Prop),(∀ b o,b≠a→s.heap.get? b=some o→h1.get? b=some o)→i < vs.length→j < vs.length→(∀ tk',C (lt i j) { s with heap:=h1,toks:=tk' })→kas_ask prog w A κ vs i j C { s with heap:=h1,toks:=tk })
  (ok:2≤vs.length→OkT lt vs.length PP (kas_sort vs.length)) (ok1:vs.length < 2→PP (List.range vs.length).toArray)
  (hQ:∀ (h':Heap) (tk c:Nat) (p:Array Nat),PP p→(∀ b o,b≠a→s.heap.get? b=some o→h'.get? b=some o)→h'.get? a=some (seqObj "list" #[110] c)→P (.done (.ret .none)) { s with heap:=h',toks:=tk }) :
  wpAny #[22] A (Builtin.«list.sort» ⟨[.ref a],[]⟩) P E s:=by
 have ha:a < s.heap.objs.size:=Heap.lt_size ho
 obtain ⟨e1,ho1⟩:∃ e1,(s.heap.update a (Obj.mapSeq fun _=>(#[]:Array Value))).get? a=some (seqObj "list" #[] e1):=⟨_,get?_update_seq ho fun _=>#[]⟩
 have s1:=Heap.SameBut.update s.heap a (Obj.mapSeq fun _=>(#[]:Array Value))
 have kp:∀ b o,b≠a→s.heap.get? b=some o→(#[103].push (seqObj "list" #[] 0)).get? b=some o:=fun b o hb e=>
  Heap.get?_push_of_some _ (Heap.get?_push_of_some _ ((s1.2 b hb).trans e))
 have ho6:(#[103].push (seqObj "list" #[] 0)).get? a=some (seqObj "list" #[] e1):=Heap.get?_push_of_some _ (Heap.get?_push_of_some _ ho1)
 rw [list_sort_plain]
 refine wpAny_bind (listItems_at ho rfl ?_)
 refine wpAny_bind (listUpdate_at ho rfl ?_ (by rw [List.size_toArray,sizeLine_eq];omega) #[50])
 refine wpAny_bind (seqEpoch_at ho1 rfl ?_)
 refine wpAny_bind (wpAny_newTuple ?_ (by show vs.length≤_;rw [sizeLine_eq];omega))
 refine wpAny_bind (wpAny_newList ?_ #[50])
 refine wpAny_holding ?_
 show wpAny #[22] A _ P E { s with heap:=#[103].push (seqObj "list" #[] 0) }
 dsimp only
 generalize hg:#[103].push (seqObj "list" #[] 0)=g at *
 have last:∀ (tk:Nat) (out:Array Value) (p:Array Nat),out=List.toArray (p.toList.map fun i=>vs.getD i Value.none)→PP p→P (.done (.ret .none)) { s with heap:=g.update a (Obj.mapSeq fun _=>out),toks:=tk }:=fun tk out p eo hp=>by
  have s2:=Heap.SameBut.update g a (Obj.mapSeq fun _=>out)
  obtain ⟨c2,hc2⟩:∃ c2,(g.update a (Obj.mapSeq fun _=>out)).get? a=some (seqObj "list" out c2):=⟨_,get?_update_seq ho6 fun _=>out⟩
  refine hQ _ tk c2 p hp (fun b o hb e=>(s2.2 b hb).trans (kp b o hb e)) ?_
  rw [←eo];exact hc2
 by_cases h2:vs.toArray.size < 2
 ·have h2':vs.length < 2:=by simpa using h2
  rw [if_pos h2,if_pos h2]
  refine wpAny_bind (wpAny_pure ?_)
  rw [StateT.run_pure]
  refine wpAny_bind (wpAny_pure ?_)
  dsimp only
  refine wpAny_bind (seqEpoch_at ho6 rfl ?_)
  refine wpAny_bind (listUpdate_at ho6 rfl ?_ #[50] (by rw [Array.size_map];show (pairsOf vs).size≤_;rw [pairsOf_size,sizeLine_eq];omega))
  simp only [bne_self_eq_false,Bool.false_eq_true,if_false]
  refine wpAny_pure (last s.toks _ _ ?_ (ok1 h2'))
  show (vs.toArray.zip vs.toArray).map (·.2)=_
  exact qU8 h2'
 ·have h2':2≤vs.length:=by simpa using h2
  rw [if_neg h2,if_neg h2]
  refine wpAny_bind (wpAny_mono (hkind h2' g kp (fun κ' s'=>κ'=κ∧s'={ s with heap:=g }) ⟨rfl,rfl⟩) (fun κ' s0 hk=>?_) fun _ _ x=>x.elim)
  obtain ⟨rfl,rfl⟩:=hk
  have wp:=ok_wp (J:=fun s'=>∃ tk,s'={ s with heap:=g,toks:=tk }) (cmp:=kas_ask prog w A κ' vs) (Q:=fun p s'=>PP p∧∃ tk,s'={ s with heap:=g,toks:=tk }) (P:=PP) (fun i j C s' hi hj hJ hC=>by
   obtain ⟨tk,rfl⟩:=hJ
   exact hcmp g tk i j C kp hi hj fun tk'=>hC _ ⟨tk',rfl⟩) (fun p s' hp hJ=>⟨hp,hJ⟩) (kas_sort vs.length) { s with heap:=g } (ok h2') ⟨s.toks,rfl⟩
  refine wpAny_bind (wpAny_mono (kat_run (Q:=fun st' s'=>∃ p:Array Nat,p.size=vs.length∧arrOf st'=p.map (kas_item (vs.toArray.zip vs.toArray))∧failedOf st'=none∧PP p∧∃ tk,s'={ s with heap:=g,toks:=tk })
   rfl h2' h64 (fun p' st' s' a1 a2 a3 a4=>⟨p',a1,a2,a3,a4⟩) wp) ?_ fun _ _ e=>e)
  rintro ⟨⟨⟩,st'⟩ s' ⟨p,hp,har,hf,hPP,tk,rfl⟩
  dsimp only
  have hout:=kat_snds rfl har
  have hsz:#[110].size=vs.length:=by rw [List.size_toArray,List.length_map,Array.length_toList,hp]
  rw [hout]
  refine wpAny_bind (seqEpoch_at (s:={ s with heap:=g,toks:=tk }) ho6 rfl ?_)
  refine wpAny_bind (listUpdate_at (s:={ s with heap:=g,toks:=tk }) ho6 rfl ?_ #[50] (Nat.le_trans (Nat.le_of_eq hsz) (by rw [sizeLine_eq];omega)))
  rw [hf]
  simp only [bne_self_eq_false,Bool.false_eq_true,if_false]
  exact wpAny_pure (last tk _ p rfl hPP)
theorem qYu {l:Addr}{Q:Value→Shared→Prop}(hl:s.heap.IsList l vs.toArray)(h64:vs.length < 64)
  (hkind:2≤vs.length→∀ h1:Heap,(∀ b o,s.heap.get? b=some o→h1.get? b=some o)→∀ Q:SortKind→Shared→Prop,Q κ { s with heap:=h1 }→wpAny #[22] A.in1.in1 (keyKind' vs.toArray) Q (fun _ _=>False) { s with heap:=h1 })
  (hcmp:∀ (h1:Heap) (tk i j:Nat) (C:Bool→Shared→Prop),(∀ b o,s.heap.get? b=some o→h1.get? b=some o)→i < vs.length→j < vs.length→(∀ tk',C (lt i j) { s with heap:=h1,toks:=tk' })→kas_ask prog w A.in1.in1 κ vs i j C { s with heap:=h1,toks:=tk })
  (ok:2≤vs.length→OkT lt vs.length PP (kas_sort vs.length)) (ok1:vs.length < 2→PP (List.range vs.length).toArray)
  (hQ:∀ (h':Heap) (tk c n:Nat) (p:Array Nat),PP p→s.heap.objs.size≤n→(∀ b o,s.heap.get? b=some o→h'.get? b=some o)→h'.get? n=some (seqObj "list" #[110] c)→Q (.ref n) { s with heap:=h',toks:=tk }) :
  wpAny #[22] A (call (.builtin "sorted") [.ref l]) Q E s:=by
 refine Calls.call_function_entry kind_sorted plain_sorted entry_sorted (args_sorted1 _) ?_
 unfold Builtin.«sorted»
 refine wpAny_bind (m:=checkCount "sorted" 1 1 _) (wpAny_pure ?_)
 refine wpAny_bind (collect_list hl ?_ (by rw [sizeLine_eq];omega))
 refine wpAny_bind (wpAny_newList ?_ (by rw [sizeLine_eq];omega))
 have hsz:#[93].objs.size=s.heap.objs.size + 1:=by
  rw [Heap.size_update,size_push']
 have hoL:(#[93].push #[86]).get? (s.heap.objs.size + 1)=some #[86]:=by
  rw [←hsz];exact Heap.get?_push_size _ rfl
 have keep:∀ b o,s.heap.get? b=some o→(#[93].push #[86]).get? b=some o:=fun b o q=>by
  have hlt:b < s.heap.objs.size:=Heap.lt_size q
  rw [Heap.get?_push_ne _ _ _ (by rw [hsz];exact Nat.ne_of_lt (Nat.lt_succ_of_lt hlt)),Heap.get?_update_ne _ _ _ _ (Nat.ne_of_lt hlt),Heap.get?_push_ne _ _ _ (Nat.ne_of_lt hlt)]
  exact q
 have keep2:∀ h1:Heap,(∀ b o,b≠s.heap.objs.size + 1→(#[93].push #[86]).get? b=some o→h1.get? b=some o)→∀ b o,s.heap.get? b=some o→h1.get? b=some o:=fun h1 k b o q=>
  k b o (Nat.ne_of_lt (Nat.lt_succ_of_lt (Heap.lt_size q))) (keep b o q)
 show wpAny _ _ _ _ _ { s with heap:=#[93].push #[86] }
 rw [hsz]
 refine wpAny_bind (wpAny_holding (wpAny_call_entry slot_list_sort ⟨_,hoL,rfl⟩ entry_list_sort ?body (args_list_sort _)))
 case body=>
  refine qRz (s:={ s with heap:=#[93].push #[86] }) (κ:=κ) (lt:=lt) (PP:=PP) hoL h64
   (fun h2 h1 k Q q=>hkind h2 h1 (keep2 h1 k) Q q) (fun h1 tk i j C k hi hj hC=>hcmp h1 tk i j C (keep2 h1 k) hi hj hC) ok ok1 fun h' tk c p hp k e=>?_
  exact ⟨_,rfl,wpAny_pure ⟨_,rfl,hQ h' tk c _ p hp (Nat.le_succ _) (keep2 h' k) e⟩⟩
end
end L2
namespace PySem
open Sem (wp)
open Builtin
theorem qIr:fillsNumberSlot (.type "tuple") "mul"=pure false:=
 fillsNumberSlot_seq (id:="tuple.__mul__") (r:=some (.builtin "tuple.__rmul__")) F.slot_tuple_mul.lookup #[19] F.slot_tuple_rmul.lookup #[19]
theorem qOo:seqRepeat? (.type "tuple")=pure (some (.builtin "tuple.__mul__")):=by
 unfold seqRepeat?
 rw [seqSlot_of (T:="tuple") (name:="__mul__") (id:="tuple.__mul__") F.slot_tuple_mul.lookup #[19],seqSlot_of (T:="tuple") (name:="__rmul__") (id:="tuple.__rmul__") F.slot_tuple_rmul.lookup #[19]]
 rfl
theorem qK2 (a:Int)(t:Tok)(l:Addr)(items:Array Value)(n:Nat)(d:Option Addr)(sl:Array (Option Value)) :
  Meets (Builtin.«int.__rmul__» ⟨[.int a t,.ref l],[]⟩) (fun _ R s=>s.heap.get? l=some { cls:=.type "tuple",dict:=d,data:=.seq items n,slots:=sl }∧R (.ok (.ret Value.notImplemented)) s):=
 .of_wp fun prog w A R s h=>by obtain ⟨hp,g,d,tk,os⟩:=s;obtain ⟨hl,h⟩:=h;wp_walk;exact ⟨_,rfl,h⟩
theorem qY8 (n:Nat)(xs:Array Value):(List.foldl (fun x1 x2=>x1++x2) #[] (List.replicate n xs)).size=n * xs.size:=by
 have h:∀ (m:Nat) (ys:Array Value),(List.foldl (fun x1 x2=>x1++x2) ys (List.replicate m xs)).size=ys.size + m * xs.size:=by
  intro m
  induction m with
  | zero=>intro ys;simp
  | succ m ih=>intro ys;rw [List.replicate_succ,List.foldl_cons,ih,Array.size_append,Nat.succ_mul];omega
 have:=h n #[]
 simpa using this
theorem qUz (l:Addr)(items:Array Value)(n:Nat)(d:Option Addr)(sl:Array (Option Value))(x:Int)(u:Tok)(h2:2≤x)(hx:x < 1000)(hs0:items.size≠0)(hs:items.size < 1000) :
  Meets (Builtin.«tuple.__mul__» ⟨[.ref l,.int x u],[]⟩) (fun _ R s=>s.heap.get? l=some { cls:=.type "tuple",dict:=d,data:=.seq items n,slots:=sl }∧R (.ok (.ret (Value.ref s.heap.objs.size))) { s with heap:=s.heap.push { cls:=Value.type "tuple",data:=Data.seq (List.foldl (fun x1 x2=>x1++x2) #[] (List.replicate x.toNat items)) },toks:=s.toks }):=
 .of_wp fun prog w A R s h=>by
  obtain ⟨hp,g,d,tk,os⟩:=s;obtain ⟨hl,h⟩:=h
  have e1:(decide (x < -2 ^ 63) || decide (x ≥ 2 ^ 63))=false:=by simp;omega
  have e2:items.isEmpty=false:=by
   cases h:items.isEmpty with
   | false=>rfl
   | true=>exact absurd (by simpa using h) hs0
  have e3:(x == 1)=false:=by simp;omega
  have e4:decide (x≤0)=false:=decide_eq_false #[0]
  have e5:¬ ((items.size:Int) * x > (2 ^ 63 - 1) / 8):=by
   have:(items.size:Int) * x≤1000 * 1000:=Int.mul_le_mul #[0] #[0] #[0] #[0]
   omega
  have e6:Tuple.tupleTooMany ((items.size:Int) * x)=false:=by
   have:(items.size:Int) * x≤1000 * 1000:=Int.mul_le_mul #[0] #[0] #[0] #[0]
   simp [Tuple.tupleTooMany,sizeLine];omega
  wp_walk
  rw [e1]
  have hsz:(List.foldl (fun x1 x2=>x1++x2) #[] (List.replicate x.toNat items)).size≤sizeLine:=by
   rw [qY8]
   have:x.toNat * items.size≤1000 * 1000:=Nat.mul_le_mul #[0] #[0]
   simp only [sizeLine];omega
  wp_walk
  refine wpAny_ite_false (decide_eq_false e5) ?_
  wp_walk
  exact ⟨_,rfl,h⟩
end PySem
namespace PD
open PySem PySem.Spec PyProof.Rows
section
variable {prog:Program}{w:World}{A:Around}{E:Value→Shared→Prop}{s:Shared}
theorem qSc {α:Type}(n:Nat)(xs:List α):List.foldl (fun x1 x2=>x1++x2) #[] (List.replicate n xs.toArray)=((List.replicate n xs).flatten).toArray:=by
 have h:∀ (m:Nat) (ys:List α),List.foldl (fun x1 x2=>x1++x2) ys.toArray (List.replicate m xs.toArray)=(ys++(List.replicate m xs).flatten).toArray:=by
  intro m
  induction m with
  | zero=>intro ys;simp
  | succ m ih=>
   intro ys
   rw [List.replicate_succ,List.foldl_cons,List.replicate_succ,List.flatten_cons]
   have:ys.toArray++xs.toArray=(ys++xs).toArray:=by simp
   rw [this,ih,List.append_assoc]
 have:=h n []
 simpa using this
theorem qT4 {t:Addr}{its:List Value}{x:Int}{u:Tok}{Q:Value→Shared→Prop}(ht:IsTup s.heap t its.toArray)(h2:2≤x)(hx:x < 1000)(h0:its≠[])(hl:its.length < 1000)
  (h:Q #[52] { s with heap:=s.heap.push { cls:=.type "tuple",data:=.seq ((List.replicate x.toNat its).flatten).toArray } }):wpAny #[22] A (binaryOp .Mult (.ref t) (.int x u)) Q E s:=by
 obtain ⟨⟨cls,dd,data,sl⟩,ho,hc,n,hd⟩:=id ht
 simp only at hc hd
 subst hc hd
 refine wpAny_binaryOp_repeat_ref (T:="tuple") (U:="int") #[5] ⟨_,ho,rfl⟩ (fun s'=>typeIs_int s' x u) qIr F.fills_int_mul F.slot_int_rmul qOo F.slot_int_index.lookup
  (call_meets F.slot_int_rmul (typeIs_int s x u) F.entry_int_rmul (F.args_int_rmul_2 _ _) (qK2 x u t its.toArray n dd sl)
   ⟨ho,rfl,⟨_,ho,rfl⟩,call_meets F.slot_tuple_mul ⟨_,ho,rfl⟩ F.entry_tuple_mul (F.args_tuple_mul_2 _ _)
    (qUz t its.toArray n dd sl x u h2 hx (by simpa using h0) (by simpa using hl))
    ⟨ho,?_⟩⟩)
 rw [qSc];exact h
theorem qWk {l:Addr}{its:List Value}{n:Nat}{x:Int}{u:Tok}{Q:Value→Shared→Prop}(ho:s.heap.get? l=some { cls:=.type "list",data:=.seq its.toArray n })(h2:2≤x)(hx:x < 1000)(h0:its≠[])(hl:its.length < 1000)
  (h:Q #[52] { s with heap:=s.heap.push { cls:=.type "list",data:=.seq ((List.replicate x.toNat its).flatten).toArray } }):wpAny #[22] A (binaryOp .Mult (.ref l) (.int x u)) Q E s:=by
 have hm:its.length * x.toNat≤1000 * 1000:=Nat.mul_le_mul #[0] #[0]
 refine wpAny_binaryOp_repeat_ref (T:="list") (U:="int") #[5] ⟨_,ho,rfl⟩ (fun s'=>typeIs_int s' x u) noFill_list_mul F.fills_int_mul F.slot_int_rmul repeat_list F.slot_int_index.lookup
  (call_meets F.slot_int_rmul (typeIs_int s x u) F.entry_int_rmul (F.args_int_rmul_2 _ _) (int___rmul___int_list x u l its.toArray n)
   ⟨ho,rfl,⟨_,ho,rfl⟩,call_meets F.slot_list_mul ⟨_,ho,rfl⟩ F.entry_list_mul (F.args_list_mul_2 _ _)
    (AutoListH.list___mul___list_int_3 l its.toArray n x u (by simp [Builtin.List.listFitsIndex];omega) (by rw [List.size_toArray];omega) (by simp [Builtin.List.listTooLong,sizeLine];omega))
    ⟨ho,?_⟩⟩)
 have:its.toArray.isEmpty=false:=by cases its with | nil=>exact absurd rfl h0 | cons _ _=>rfl
 rw [this,if_neg Bool.false_ne_true,qSc];exact h
end
end PD
namespace L2
open PySem PySem.Spec PyProof.Rows PySem.W
def DEn (h:Heap)(d:Addr)(es:Array DictEntry)(ep:Nat):Prop:=∃ od,h.get? d=some od∧od.ExactDict∧od.data=.dict es ep
theorem DEn.mov {h g:Heap}{d:Addr}{es:Array DictEntry}{ep:Nat}(x:DEn h d es ep)(k:∀ q,h.get? d=some q→g.get? d=some q):DEn g d es ep:=let ⟨q,e,r⟩:=x;⟨q,k q e,r⟩
theorem DEn.ty {s:Shared}{d:Addr}{es:Array DictEntry}{ep:Nat}(x:DEn s.heap d es ep):s.TypeIs (.ref d) "dict":=let ⟨q,e,c,_⟩:=x;⟨q,e,c.1⟩
section
variable {prog:Program}{w:World}{A:Around}{E:Value→Shared→Prop}{s:Shared}{d I:Addr}{es:Array DictEntry}{ep:Nat}
abbrev keyItO (d:Addr)(n ep:Nat):Obj:={ cls:=.type "dict_keyiterator",data:=.fields #[.ref d,.int 0 0,.int n 0,.int ep 0] }
theorem qav {Q:Value→Shared→Prop}(lo:(d == sysModules)=false)(x:DEn s.heap d es ep)(q:Q #[52] { s with heap:=s.heap.push (keyItO d es.size ep) }):wpAny #[22] A (pyIter (.ref d)) Q E s:=by
 obtain ⟨od,h1,h2,h3⟩:=id x
 refine wpAny_pyIter_slot x.ty PySem.F.slot_dict_iter (wpAny_call_entry PySem.F.slot_dict_iter x.ty PySem.F.entry_dict_iter ?b (PySem.F.args_dict_iter_1 _))
 case b=>
  unfold Builtin.«dict.__iter__» Builtin.Dict.dictSlotNone
  refine wpAny_bind (wpAny_bind (wpAny_notOrdered_dict x.ty (wpAny_pure ?_)))
  show wpAny _ _ (Builtin.Dict.showsAll d>>=_) _ _ s;unfold Builtin.Dict.showsAll
  rw [if_neg (by rw [lo];decide)]
  refine wpAny_bind (wpAny_pure (wpAny_bind (wpAny_dictEntries h1 h3 (wpAny_bind (wpAny_dictEpoch h1 h3 (wpAny_bind (wpAny_newObj_type (wpAny_pure ⟨_,rfl,"dict_keyiterator",_,⟨_,Heap.get?_push_size _ rfl,rfl⟩,PySem.F.slot_dict_keyiterator_next.lookup,?z⟩))))))))
  case z=>simpa [rawInt] using q
theorem qaw {i:Nat}{Q:Option Value→Shared→Prop}(it:s.heap.IsKeyIter I d i es.size ep)(x:DEn s.heap d es ep)(hi:i < es.size)
  (q:∀ g,g.IsKeyIter I d (i + 1) es.size ep→Heap.SameBut I s.heap g→Q (some es[i].key) { s with heap:=g }):wpAny #[22] A (pyNext (.ref I)) Q E s:=by
 obtain ⟨oi,i1,i2,i3⟩:=id it
 obtain ⟨od,h1,h2,h3⟩:=id x
 have ow:Builtin.Dict_items.ownsTuple "dict_keyiterator"=false:=by decide
 unfold pyNext
 refine wpAny_bind #[118]
 case b=>
  refine wpAny_bind (wpAny_pure (wpAny_bind (wpAny_bind ?c)))
  case c=>
   first | refine wpAny_bind (wpAny_typeNameOfWhole_keyiter it.typeIs (wpAny_pure (wpAny_bind (wpAny_fieldsOf i1 i3 ?d)))) | refine wpAny_bind (wpAny_typeNameOf_keyiter it.typeIs (wpAny_pure (wpAny_bind (wpAny_fieldsOf i1 i3 ?d))))
   case d=>
    simp only [ow,Bool.false_eq_true,if_false]
    show wpAny _ _ (if (Value.ref d == Value.none)=true then _ else _) _ _ s;rw [if_neg (fun z:(Value.ref d == Value.none)=true=>Bool.false_ne_true z)]
    refine wpAny_bind (wpAny_pure (wpAny_bind (wpAny_dictEntries h1 h3 ?e)))
    case e=>
     rw [if_neg #[7]];refine wpAny_bind (wpAny_pure (wpAny_bind (wpAny_dictEpoch h1 h3 ?f)))
     case f=>
      rw [if_neg #[7]];refine wpAny_pure ?g
      case g=>
       simp only [show ¬ ((i:Int) < 0) by omega,if_false,Int.toNat_natCast,Array.getElem?_eq_getElem hi]
       refine wpAny_bind ?h
       case h=>
        first | refine wpAny_bind (wpAny_typeNameOfWhole_keyiter it.typeIs (wpAny_pure (wpAny_bind (wpAny_isOneOf_keyiter it.typeIs ?k)))) | refine wpAny_bind (wpAny_typeNameOf_keyiter it.typeIs (wpAny_pure (wpAny_bind (wpAny_isOneOf_keyiter it.typeIs ?k))))
        case k=>
         show wpAny _ _ (setField (.ref I) 1 (rawInt ((i:Int) + 1))>>=_) _ _ s;refine wpAny_bind (wpAny_setField i1 i3 #[7] ?l)
         case l=>
          have it2:(s.heap.update I (Obj.mapFields (·.setIfInBounds 1 (rawInt ((i:Int) + 1))))).IsKeyIter I d (i + 1) es.size ep:=⟨_,Heap.get?_update_self _ i1 (Obj.isFreed_of_fields (Obj.data_mapFields i3 _)),(Obj.cls_mapFields ..).trans i2,by rw [Obj.data_mapFields i3];simp [rawInt]⟩
          refine wpAny_bind (wpAny_holding (wpAny_bind (wpAny_isOneOf_keyiter (s:={ s with heap:=s.heap.update I (Obj.mapFields (·.setIfInBounds 1 (rawInt ((i:Int) + 1)))) }) it2.typeIs ?m)))
          case m=>show wpAny _ _ (pure es[i].key) _ _ _;exact wpAny_pure (wpAny_pure ⟨_,rfl,wpAny_pure (q _ it2 (Heap.SameBut.update ..))⟩)
theorem qej {Q:Option Value→Shared→Prop}(hh:A.handled=none)(it:s.heap.IsKeyIter I d es.size es.size ep)(x:DEn s.heap d es ep)(q:∀ g,Heap.ExtBut I s.heap g→Q none { s with heap:=g }):wpAny #[22] A (pyNext (.ref I)) Q E s:=by
 obtain ⟨oi,i1,i2,i3⟩:=id it
 obtain ⟨od,h1,h2,h3⟩:=id x
 have ow:Builtin.Dict_items.ownsTuple "dict_keyiterator"=false:=by decide
 unfold pyNext
 refine wpAny_bind #[118]
 case b=>
  refine wpAny_bind (wpAny_pure (wpAny_bind (wpAny_bind ?c)))
  case c=>
   first | refine wpAny_bind (wpAny_typeNameOfWhole_keyiter it.typeIs (wpAny_pure (wpAny_bind (wpAny_fieldsOf i1 i3 ?d)))) | refine wpAny_bind (wpAny_typeNameOf_keyiter it.typeIs (wpAny_pure (wpAny_bind (wpAny_fieldsOf i1 i3 ?d))))
   case d=>
    simp only [ow,Bool.false_eq_true,if_false]
    show wpAny _ _ (if (Value.ref d == Value.none)=true then _ else _) _ _ s;rw [if_neg (fun z:(Value.ref d == Value.none)=true=>Bool.false_ne_true z)]
    refine wpAny_bind (wpAny_pure (wpAny_bind (wpAny_dictEntries h1 h3 ?e)))
    case e=>
     rw [if_neg #[7]];refine wpAny_bind (wpAny_pure (wpAny_bind (wpAny_dictEpoch h1 h3 ?f)))
     case f=>
      rw [if_neg #[7]];refine wpAny_pure ?g
      case g=>
       simp only [show ¬ (((es.size:Nat):Int) < 0) by omega,if_false,Int.toNat_natCast,Array.getElem?_eq_none #[8]]
       refine wpAny_bind ?h
       case h=>
        first | refine wpAny_bind (wpAny_typeNameOfWhole_keyiter it.typeIs (wpAny_pure ?k)) | refine wpAny_bind (wpAny_typeNameOf_keyiter it.typeIs (wpAny_pure ?k))
        case k=>
         show wpAny _ _ (setField (.ref I) 0 .none>>=_) _ _ s;refine wpAny_bind (wpAny_setField i1 i3 #[7] ?l)
         case l=>
          show wpAny _ _ (newExc (.type "StopIteration") []>>=_) _ _ _;refine wpAny_bind ?m
          case m=>
           simp only [newExc,newTuple];refine wpAny_bind (wpAny_newObj_type ?n (by size_fits))
           case n=>
            refine wpAny_bind (m:=firstArgMember _ _) (wpAny_of_eq (a:=Value.none) (by first | rfl | (simp only [firstArgMember];rfl)) (wpAny_newObj_type ?o (by size_fits)))
            case o=>
             simp only [raiseNew];refine wpAny_bind (wpAny_handled ?r)
             case r=>
              rw [show A.in1.handled=none from hh];refine wpAny_bind (wpAny_pure (wpAny_throw ?t))
              case t=>
               refine wpAny_bind (wpAny_isInstance (b:=true) (T:="StopIteration") ⟨_,Heap.get?_push_size _ rfl,rfl⟩ isSubtype_stop ?u)
               case u=>exact wpAny_pure (q _ (((Heap.SameBut.update ..).extBut.push _).push _))
theorem qXw (hh:A.handled=none)(hne:d≠I):Walks prog w A I [I,d] [I] es.size (fun i v=>∃ e,es[i]?=some e∧v=e.key) (fun i h=>h.IsKeyIter I d i es.size ep∧DEn h d es ep) where
 sub:=fun b hb=>by simp at hb;simp [hb]
 frame:=fun _ _ _ st k=>⟨st.1.at fun o e=>k I #[7] o e,st.2.mov fun o e=>k d #[7] o e⟩
 item:=fun i s Q E hi st hQ=>qaw st.1 st.2 hi fun g g1 g2=>hQ _ g s.toks ⟨es[i],by simp [hi],rfl⟩ ⟨g1,st.2.mov fun o e=>g2.extBut d o hne e⟩ fun b o hb e=>g2.extBut b o (fun z=>hb (by simp [z])) e
 done:=fun s Q E st hQ=>qej hh st.1 st.2 fun g g1=>hQ g s.toks fun b o hb e=>g1 b o (fun z=>hb (by simp [z])) e
 self:=fun _ _ _ _ st hQ=>wpAny_pyIter_keyiter st.1 hQ
theorem qXx (lo:(d == sysModules)=false):KdlSrc prog w "dict" d d es.size (fun i v=>∃ e,es[i]?=some e∧v=e.key) (fun h=>DEn h d es ep) where
 type:=fun _ x=>x.ty
 there:=fun _ x=>let ⟨_,e,_⟩:=x;⟨Heap.lt_size e,Heap.lt_size e⟩
 keep:=fun _ _ x k=>x.mov fun o e=>k d (.inl rfl) o e
 notList:=by decide
 notTuple:=by decide
 hint:=fun _ _ _ _ x q=>kdl_hint_dict x.ty q
 iter:=fun _ s hh x=>⟨_,_,(fun _ _ q=>qav lo x q),qXw hh (Nat.ne_of_lt (let ⟨_,e,_⟩:=x;Heap.lt_size e)),⟨⟨_,Heap.get?_push_size _ rfl,rfl,rfl⟩,x.mov fun o e=>Heap.get?_push_of_some _ e⟩⟩
theorem qRm {Q:List Value→Shared→Prop}(hh:A.handled=none)(lo:(d == sysModules)=false)(x:DEn s.heap d es ep)(hz:es.size≤sizeLine)
  (q:∀ g tk,(∀ b o,s.heap.get? b=some o→g.get? b=some o)→s.heap.objs.size < g.objs.size→Q (es.toList.map (·.key)) { s with heap:=g,toks:=tk }):wpAny #[22] A (collect (.ref d)) Q E s:=by
 have dl:d < s.heap.objs.size:=let ⟨_,e,_⟩:=x;Heap.lt_size e
 unfold collect
 refine wpAny_bind (wpAny_runValue (codeAny_builtin entry_proto_collect' ?a))
 case a=>
  show wpAny _ _ (do again (.builtin "list.__iadd__" ⟨[←newList [],.ref d],[]⟩)) _ _ s
  refine wpAny_bind (wpAny_newList (wpAny_pure ⟨Code.quiet_builtin _ #[19],codeAny_builtin entry_list_iadd' ?b⟩))
  case b=>
   refine kdl_extend (R:=fun r s'=>match r with
    | .ok (.ret v)=>wpAny #[22] A (match v with
     | .ref b=>do
      let ob ←load b
      match ob.data with
      | .seq xs _=>pure xs.toList
      | _=>unsupported "internal:collect"
     | _=>unsupported "internal:collect") Q E s'
    | .ok _=>False
    | .error e=>E e s') (s:={ s with heap:=s.heap.push (seqObj "list" #[] 0) }) (qXx (prog:=prog) (w:=w) (es:=es) (ep:=ep) lo) hh (x.mov fun o e=>Heap.get?_push_of_some _ e) s.heap.objs.size (Nat.ne_of_gt dl) (Nat.ne_of_gt dl) (.ref s.heap.objs.size) 0 (Heap.get?_push_size _ rfl) (fun g tk acc c k hS hi=>?c) hz
   case c=>
    refine wpAny_bind (wpAny_load hS ?_)
    have ea:acc.toList=es.toList.map (·.key):=by
     apply List.ext_getElem?
     intro j
     rw [List.getElem?_map,Array.getElem?_toList,Array.getElem?_toList]
     cases e:acc[j]? with
     | some v=>
      obtain ⟨en,e1,e2⟩:=hi.2 j v e
      rw [e1,e2];rfl
     | none=>
      have:es[j]?=none:=by
       rw [Array.getElem?_eq_none_iff] at e ⊢
       rw [←hi.1];exact e
      rw [this];rfl
    show wpAny _ _ (pure acc.toList) Q E _
    rw [ea]
    exact wpAny_pure (q g tk (fun b o e=>k b o (Nat.ne_of_lt #[45]) #[78]) (Heap.lt_size hS))
end
open PySem PySem.Spec PyProof.Rows
def qBy (X:Cx)(M:List Str)(s₀:Shared)(H₀:Hp)(C:Addr)(fp:List Addr)(x x2:Str)(scope:Scope)(cl:List (Str×Addr)):Cx:=
 { X with env:=compEnvC scope cl C X.env,N:=x::x2::M,s₀:=s₀,H₀:=H₀,outer:=X.stack,stack:=X.stack,ex:=fp,fn:=fun _=>false,pn:=[],xe:=fun _ _=>False }
structure CompScope2 (X:Cx) (M:List Str) (x x2:Str) (scope:Scope):Prop where
 cell:∀ y∈scope.names,y.2≠.cell
 kind:scope.kind=.function
 names:∀ y∈scope.names,y.2=.local→scope.names.lookup y.1=some .local
 one:∀ y∈scope.names,y.2=.local→y.1=x∨y.1=x2∨y.1=".0"
 vx:scope.names.lookup x=some .local
 vz:scope.names.lookup x2=some .local
 free:∀ y∈scope.names,y.2=.free→X.env.kindOf y.1=some .cell∨X.env.kindOf y.1=some .free
 new:x∉M
 newz:x2∉M
 ne:x≠x2
 new0:(".0":Str)∉M
 same:∀ (i:Nat) (y:Str),M[i]?=some y→scope.names.lookup y=some .free→X.N[i]?=some y
 nd:M.Nodup
 len:M.length=X.N.length
section
variable {X:Cx}{M:List Str}{x x2:Str}{scope:Scope}
theorem CompScope2.vis (S:CompScope2 X M x x2 scope){y:Str}(h:Vis #[33] y):(y=x∨y=x2∨y=".0")∨scope.names.lookup y=some .free:=by
 have e:#[33].names.lookup y=(scope.names.lookup y).map fun k=>if #[94] then NameKind.cell else k:=qBm
 unfold Vis at h
 rw [e] at h
 cases q:scope.names.lookup y with
 | none=>rw [q] at h;rcases h with h | h | h <;> cases h
 | some k=>
  have hm:=PySem.mem_of_lookup q
  cases k with
  | «local»=>exact .inl (S.one _ hm rfl)
  | free=>exact .inr rfl
  | cell=>exact absurd rfl (S.cell _ hm)
  | _=>rw [q] at h;rcases h with h | h | h <;> cases h
theorem CompScope2.xkind (S:CompScope2 X M x x2 scope):#[33].names.lookup x=some .local:=by
 have e:#[33].names.lookup x=(scope.names.lookup x).map fun k=>if (k == NameKind.free && X.env.scope.kind == .function && X.env.kindOf x == some .cell) then NameKind.cell else k:=qBm
 rw [e,S.vx]
 rfl
theorem CompScope2.zkind (S:CompScope2 X M x x2 scope):#[33].names.lookup x2=some .local:=by
 have e:#[33].names.lookup x2=(scope.names.lookup x2).map fun k=>if (k == NameKind.free && X.env.scope.kind == .function && X.env.kindOf x2 == some .cell) then NameKind.cell else k:=qBm
 rw [e,S.vz]
 rfl
theorem CompScope2.fkind (S:CompScope2 X M x x2 scope){y:Str}(h:scope.names.lookup y=some .free):#[33].names.lookup y=some .cell∨#[33].names.lookup y=some .free:=by
 have e:#[33].names.lookup y=(scope.names.lookup y).map fun k=>if #[94] then NameKind.cell else k:=qBm
 rw [e,h]
 simp only [Option.map_some]
 split
 ·exact .inl rfl
 ·exact .inr rfl
end
section
variable {X:Cx}{pins:List (Addr×Obj)}{σ:St}{H:Hp}{s:Shared}{x x2:Str}{scope:Scope}{cl:List (Str×Addr)}{fp:List Addr}{C:Addr}{h':Heap}{t':Nat}
theorem qaz (I:Inv X pins σ H s)(S:CompScope2 X M x x2 scope)(hcl:∀ y c,cl.lookup y=some c→X.env.cells.lookup y=some c)(hcs:∀ y∈scope.names,y.2=.free→(cl.lookup y.1).isSome=true)
  (hC:s.heap.objs.size≤C) (hfp:∀ b∈fp,qK6 X pins H b∧b < s.heap.objs.size):(qBy X M s H C fp x x2 scope cl).Ok where
 mod:=I.ok.mod
 tab:=fun x c P h1 h2=>I.base.tbls _ _ (I.ok.tab x c P h1 h2)
 kind:=S.kind
 glob:=I.ok.glob
 blt:=I.ok.blt
 above:=hC
 inj:=fun y z c e1 e2=>I.ok.inj y z c (hcl y c e1) (hcl z c e2)
 has:=fun y hy=>by
  have q:scope.names.lookup y=some .free:=by
   have hv:Vis #[33] y:=by
    rcases hy with z | z
    ·exact .inr (.inl z)
    ·exact .inr (.inr z)
   have e:#[33].names.lookup y=(scope.names.lookup y).map fun k=>if #[94] then NameKind.cell else k:=qBm
   have hy':#[33].names.lookup y=some .cell∨#[33].names.lookup y=some .free:=hy
   rw [e] at hy'
   cases q:scope.names.lookup y with
   | none=>rw [q] at hy';rcases hy' with z | z <;> cases z
   | some k=>
    have hm:=PySem.mem_of_lookup q
    cases k with
    | free=>rfl
    | cell=>exact absurd rfl (S.cell _ hm)
    | _=>rw [q] at hy';rcases hy' with z | z <;> cases z
  have z:=hcs _ (PySem.mem_of_lookup q) rfl
  show ∃ c,cl.lookup y=some c
  cases e:cl.lookup y with
  | none=>
   have z':(cl.lookup y).isSome=true:=z
   rw [e] at z';cases z'
  | some c=>exact ⟨c,rfl⟩
 cab:=fun y c e=>by cases e
 hd:=I.ok.hd
 frames:=I.ok.frames
 stk:=.inl rfl
 exf:=fun b hb=>⟨Nat.ne_of_lt (Nat.lt_of_lt_of_le (hfp b hb).2 hC),fun y c e=>(hfp b hb).1.2.2.2.2.1 y c (hcl y c e)⟩
 bs:=I.bs
 bsz:=Nat.le_trans I.ok.bsz I.sz
 noex:=fun b o e hb=>by
  rcases (hfp b hb).1.2.2.2.1 with z | z
  ·exact I.ok.noex b o e z
  ·exact absurd (Nat.lt_of_lt_of_le (Nat.lt_of_lt_of_le #[45] I.ok.bsz) z) (Nat.lt_irrefl _)
 exfs:=fun b hb z=>by
  have hz:b∈frs X.stack:=z
  rcases List.mem_cons.mp (I.stkSub b hz) with e | e
  ·exact (hfp b hb).1.2.1 e
  ·exact (hfp b hb).1.2.2.1 e
 funs:=I.stack
 frf:=I.stkFree
theorem qX2 (I:Inv X pins σ H s)(S:CompScope2 X M x x2 scope)(hcl:∀ y c,cl.lookup y=some c→X.env.cells.lookup y=some c)(hcs:∀ y∈scope.names,y.2=.free→(cl.lookup y.1).isSome=true)
  (hfp:∀ b∈fp,qK6 X pins H b∧b < s.heap.objs.size) {m:Str→Option Value} (hns:h'.Ns s.heap.objs.size m) (old:∀ b o,s.heap.get? b=some o→h'.get? b=some o) :
  Inv (qBy X M s H s.heap.objs.size fp x x2 scope cl) [] (none::none::σ) H { s with heap:=h',toks:=t' }:=by
 have fresh:H s.heap.objs.size=none:=I.hok.fresh #[8]
 refine ⟨qaz I S hcl hcs #[8] hfp,rfl,I.bare,Un.kept old,⟨m,hns,fun i y v e1 e2 hv=>?_⟩,fun y c e=>?_,fresh,fun y c e=>I.freeC y c (hcl y c e),fun p hp=>?_,I.hok.kept old,?_⟩
 ·match i,e1,e2 with
  | 0,e1,e2=>cases (show (none:Option V)=some v from Option.some.inj e2)
  | 1,e1,e2=>cases (show (none:Option V)=some v from Option.some.inj e2)
  | i + 2,e1,e2=>
   have e1':M[i]?=some y:=e1
   have e2':σ[i]?=some (some v):=e2
   rcases S.vis hv with (z | z | z) | z
   ·subst z
    exact absurd (List.mem_of_getElem? e1') S.new
   ·subst z
    exact absurd (List.mem_of_getElem? e1') S.newz
   ·subst z
    exact absurd (List.mem_of_getElem? e1') S.new0
   ·have hk:=S.free _ (PySem.mem_of_lookup z) rfl
    obtain ⟨mm,hn,hl⟩:=I.loc
    have hv':Vis X.env.scope y:=by
     rcases hk with k | k
     ·exact .inr (.inl k)
     ·exact .inr (.inr k)
    obtain ⟨u,r,l⟩:=hl i y v (S.same i y e1' z) e2' hv'
    refine ⟨u,r,?_⟩
    rcases l with ⟨k,_⟩ | ⟨_,c,e,q⟩
    ·rcases hk with z | z
     ·rw [show X.env.kindOf y=some .local from k] at z;cases z
     ·rw [show X.env.kindOf y=some .local from k] at z;cases z
    ·have ec:cl.lookup y=some c:=by
      have z2:=hcs _ (PySem.mem_of_lookup z) rfl
      cases e3:cl.lookup y with
      | none=>
       have z3:(cl.lookup y).isSome=true:=z2
       rw [e3] at z3;cases z3
      | some c'=>
       have:=hcl y c' e3
       rw [e] at this
       cases this
       rfl
     obtain ⟨oc,ho,hd⟩:=q
     exact .inr ⟨S.fkind z,c,ec,oc,old _ _ ho,hd⟩
 ·obtain ⟨v,o,ho,hd⟩:=I.cell y c (hcl y c e)
  exact ⟨v,o,old _ _ ho,hd⟩
 ·exact absurd (show p∈([]:List #[10]) from hp) #[7]
 ·show (none::none::σ).length=(x::x2::M).length
  rw [List.length_cons,List.length_cons,List.length_cons,List.length_cons,I.len,S.len]
theorem qUm {s1:Shared}{σ':St}{H':Hp}(I:Inv X pins σ H s)(J:Inv (qBy X M s H s.heap.objs.size fp x x2 scope cl) [] σ' H' s1)(hfp:∀ b∈fp,qK6 X pins H b∧b < s.heap.objs.size)
  (sb:Heap.SameBut s.heap.objs.size s1.heap h'):Inv X pins σ H' { s1 with heap:=h' }:=by
 have jb:Un (frs X.stack) fp H H' s.heap s1.heap:=J.base
 refine I.call' (s':={ s1 with heap:=h' }) (ch:=fp) J.os (jb.but sb #[8]) (J.hok.but sb J.free) J.bare fun b hb=>?_
 obtain ⟨f0,f1,f2,f3,f4,f5⟩:=(hfp b hb).1
 exact ⟨f3,f1,f4,f5⟩
end
def qbd (K:PySem.W.Frag)(wi:TI)(tt:TT)(te:TE):TE:=fun σ H Q=>wi σ H fun J H1=>∀ l,H1 l=none→∃ W:Nat→List V→Nat→Hp→Prop,(∃ m,W 0 [] m (upd H1 l (.lst [])))∧
 ∀ i acc m H2,W i acc m H2→(J.stop i H2∧Q (.ref l) H2)∨(J.go i H2∧∀ y H3,J.yld i H2 y H3→∃ a v1 v2,y=.ref a∧SqT K H3 a [v1,v2]∧tt (some v1::some v2::σ) H3 fun b H4=>
  if b=true then te (some v1::some v2::σ) H4 fun y H5=>H5 l=some (.lst acc)∧acc.length < sizeLine∧∃ m',m' < m∧W (i + 1) (acc++[y]) m' (upd H5 l (.lst (acc++[y])))
  else ∃ m',m' < m∧W (i + 1) acc m' H4)
theorem qRp {X:Cx}{elt iter:Expr}{x x2:Str}{px pz tpos:Pos}{kz:Nat}{ifs:List Expr}{scope:Scope}{cl:List (Str×Addr)}{pos:Pos}{tt:TT}{te:TE}{RR:Value→Addr→Result→Shared→Prop}{E:Value→Shared→Prop}
  {pins:List #[10]} {σ:St} {H2:Hp} {s2:Shared} {it:Addr} {fp:List Addr} {tn:Nat→Heap→Prop} {J:It} {Q:VK}
  (hc:X.calm=true) (S:CompScope2 X M x x2 scope) (hcl:∀ y c,cl.lookup y=some c→X.env.cells.lookup y=some c) (hcs:∀ y∈scope.names,y.2=.free→(cl.lookup y.1).isSome=true) (hN:X.N.Nodup)
  (ht:∀ s₀ H₀ C fp,PTs #[81] ifs tt) (he:∀ s₀ H₀ C fp,PE #[81] elt te)
  (I2:Inv X pins σ H2 s2) (T:Turn X.prog X.w X.K (.Tuple [.Name x px,.Name x2 pz] kz tpos) J fp it tn) (st2:tn 0 s2.heap) (f2:∀ b∈fp,qK6 X pins H2 b)
  (h:∀ l,H2 l=none→∃ W:Nat→List V→Nat→Hp→Prop,(∃ m,W 0 [] m (upd H2 l (.lst [])))∧
   ∀ i acc m H2,W i acc m H2→(J.stop i H2∧Q (.ref l) H2)∨(J.go i H2∧∀ y H3,J.yld i H2 y H3→∃ a v1 v2,y=.ref a∧SqT X.K H3 a [v1,v2]∧tt (some v1::some v2::σ) H3 fun b H4=>
    if b=true then te (some v1::some v2::σ) H4 fun y H5=>H5 l=some (.lst acc)∧acc.length < sizeLine∧∃ m',m' < m∧W (i + 1) (acc++[y]) m' (upd H5 l (.lst (acc++[y])))
    else ∃ m',m' < m∧W (i + 1) acc m' H4))
  (hRR:∀ D C s1 H',s2.heap.objs.size=D→D < C→H' C=none→(∃ m,s1.heap.Ns C m)→Q (.ref D) H'→Inv X pins σ H' s1→RR (.ref D) C (.ok .next) s1)
  : wpAny #[12] X.A (newList []) (fun acc s₃=>wpAny #[12] X.A (newFunctionEnv scope X.env.globals cl [] X.env.qual none .none (some X.env)) (fun cenv s₄=>
   codeAny #[12] X.A (.compStart #[104] 0 (.ref it) acc { cenv with scope:=relabel scope X.env }) (RR acc cenv.locals) s₄) E s₃) E s2:=by
 refine wpAny_newObj_type (wpAny_newFunctionEnv S.cell (by intro y hy;simp at hy) (fun h₁ hns₁ hsb₁=>?_) S.kind)
 dsimp only at hns₁ hsb₁ ⊢
 have lf:H2 s2.heap.objs.size=none:=I2.hok.fresh #[8]
 have I3:Inv X pins σ (upd H2 s2.heap.objs.size (.lst [])) { s2 with heap:=s2.heap.push { cls:=.type "list",dict:=none,data:=.seq ([]:List Value).toArray } }:=
  I2.laid (t':=s2.toks) (fun b u e=>Heap.get?_push_of_some _ e) #[8] ⟨Nat.zero_le _,[],0,.nil,Heap.get?_push_size _ rfl⟩
 have f3:∀ b∈fp,qK6 X pins (upd H2 s2.heap.objs.size (.lst [])) b∧b < #[105].objs.size:=fun b hb=>by
  obtain ⟨o,ho,_⟩:=T.obj _ _ st2 b hb
  have hlt:=Heap.lt_size ho
  obtain ⟨f0,fr⟩:=f2 b hb
  exact ⟨⟨by rw [qAr (Nat.ne_of_lt hlt)];exact f0,fr⟩,by rw [Heap.size_push];exact Nat.lt_succ_of_lt hlt⟩
 have st3:tn 0 #[105]:=T.keep _ _ _ st2 fun b _ o e=>Heap.get?_push_of_some _ e
 obtain ⟨W,⟨m0,w0⟩,turn⟩:=h s2.heap.objs.size lf
 have hD:X.env.locals < s2.heap.objs.size:=I2.lt
 generalize hs3:({ s2 with heap:=s2.heap.push { cls:=.type "list",dict:=none,data:=.seq ([]:List Value).toArray } }:Shared)=s3 at I3
 have hsz:s3.heap.objs.size=s2.heap.objs.size + 1:=by rw [←hs3];exact Heap.size_push _ _
 have hp3:s2.heap.push { cls:=.type "list",dict:=none,data:=.seq ([]:List Value).toArray }=s3.heap:=by rw [←hs3]
 rw [hp3] at hns₁ hsb₁ f3 st3 ⊢
 generalize hl:s2.heap.objs.size=l at w0 turn I3 f3 hD hsz ⊢
 have hC:s3.heap.objs.size=l + 1:=hsz
 have old:∀ b o,s3.heap.get? b=some o→h₁.get? b=some o:=fun b o e=>hsb₁.extBut b o (Nat.ne_of_lt #[45]) #[78]
 have J0:Inv #[72] [] (none::none::σ) (upd H2 l (.lst [])) { s3 with heap:=h₁,toks:=s2.toks + ([]:List (Str×Value)).length }:=qX2 I3 S hcl hcs f3 hns₁ old
 have e4:({ s3 with heap:=h₁,toks:=s2.toks + ([]:List (Str×Value)).length }:Shared)={ s2 with heap:=h₁,toks:=s2.toks + ([]:List (Str×Value)).length }:=by rw [←hs3]
 rw [e4] at J0
 have st4:tn 0 h₁:=T.keep _ _ _ st3 fun b _ o e=>old b o e
 have stat:∀ {H':Hp},(∀ b∈fp,H' b=none)→∀ b∈fp,qK6 #[72] [] H' b:=fun {H'} hn b hb=>by
  obtain ⟨⟨f0,f1,f2,f4,f5,f6⟩,flt⟩:=f3 b hb
  refine ⟨hn b hb,Nat.ne_of_lt flt,fun z=>?_,.inl hb,fun y c e=>f5 y c (hcl y c e),fun p hp=>absurd (show p∈([]:List #[10]) from hp) #[7]⟩
  have hz:b∈frs X.stack:=z
  rcases List.mem_cons.mp (I2.stkSub b hz) with e | e
  ·exact f1 e
  ·exact f2 e
 have hN':#[72].N.Nodup:=List.nodup_cons.mpr ⟨fun z=>(List.mem_cons.mp z).elim S.ne S.new,List.nodup_cons.mpr ⟨S.newz,S.nd⟩⟩
 have loop:codeAny #[12] X.A (.compLoop #[104] 0 (.ref it) (.ref l) (compEnvC scope cl s3.heap.objs.size X.env)) (RR (.ref l) s3.heap.objs.size)
   { s2 with heap:=h₁,toks:=s2.toks + ([]:List (Str×Value)).length }:=by
  refine qKo (fun n s'=>∃ i acc ov oz H',Inv #[72] [] (ov::oz::σ) H' s'∧tn i s'.heap∧(∀ b∈fp,H' b=none)∧W i acc n H') ?_ m0
   ⟨0,[],none,none,_,J0,st4,fun b hb=>(f3 b hb).1.1,w0⟩
  rintro n s5 ⟨i,acc,ov,oz,H5,I5,st5,fr5,w5⟩
  rcases turn i acc n H5 w5 with ⟨stop,qn⟩ | ⟨go,step⟩
  ·refine thn (T.done #[72] rfl rfl rfl hc i [] s5 _ H5 _ I5 (stat fr5) st5 stop) fun r s6 ⟨hr,I6⟩=>?_
   subst hr
   have hCC:∃ m,s6.heap.Ns s3.heap.objs.size m:=let ⟨m,hn,_⟩:=I6.loc;⟨m,hn⟩
   exact hRR l _ s6 H5 hl (by rw [hC];exact Nat.lt_succ_self _) I6.free hCC qn (qUm (h':=s6.heap) I3 I6 f3 (Heap.SameBut.refl _ _))
  ·refine wpAny_mono (T.item #[72] rfl rfl rfl hc i [] s5 _ H5 (fun _ _=>False) I5 (stat fr5) st5 go) (fun r s6 ⟨u,hr,h6⟩=>?_) fun _ _ q=>q.elim
   subst hr
   refine wpAny_mono h6 (fun _ s6' ⟨y,H6,I6,r6,y6,st6,fr6⟩=>?_) fun _ _ q=>q.elim
   have I6':=I6.pinned (stat fr6) (T.obj _ _ st6)
   obtain ⟨ca,v1,v2,ey,hsq,step⟩:=step y H6 y6
   have pg:PG #[72] (.Tuple [.Name x px,.Name x2 pz] kz tpos) _:=qbn (n:=2) hc (qMw (qQ3 (i:=0) hN' rfl (.inl S.xkind) (.inr S.xkind)) (qMw (qQ3 (i:=1) hN' rfl (.inl S.zkind) (.inr S.zkind)) qV9))
   refine wpAny_mono (pg _ s6' _ H6 y u (fun σ' H'=>σ'=some v1::some v2::σ∧H'=H6) I6' r6 ⟨ca,[v1,v2],ey,hsq,rfl,v1,[v2],rfl,v2,[],rfl,rfl,rfl,rfl⟩) (fun _ s7 ⟨σ7,H7,I7,eσ,eH⟩=>?_) fun _ _ q=>q.elim
   subst eσ eH
   have I7':Inv #[72] ([]++qIe fp s6'.heap) (some v1::some v2::σ) H7 s7:=I7
   have again:∀ {ov' oz':Option V} {H8:Hp} {s8:Shared} {acc':List V} {m:Nat},Inv #[72] ([]++qIe fp s6'.heap) (ov'::oz'::σ) H8 s8→m < n→W (i + 1) acc' m H8→
     ∃ m,m < n∧∃ i acc ov oz H',Inv #[72] [] (ov::oz::σ) H' s8∧tn i s8.heap∧(∀ b∈fp,H' b=none)∧W i acc m H':=fun {ov' oz' H8 s8 acc' m} I8 hm w8=>by
    refine ⟨m,hm,i + 1,acc',ov',oz',H8,I8.unpinned,T.keep _ _ _ st6 fun b hb o e=>(I8.pin (b,o) #[95]).1,fun b hb=>?_,w8⟩
    obtain ⟨o,e,d⟩:=T.obj _ _ st6 b hb
    exact (I8.pin (b,o) #[95]).2.1
   refine wpAny_mono (ht s3 _ s3.heap.objs.size fp _ s7 _ H7 _ I7' step) (fun b s8 ⟨H8,I8,q8⟩=>?_) fun _ _ q=>q.elim
   cases b with
   | false=>
    rw [if_neg Bool.false_ne_true] at q8 ⊢
    obtain ⟨m',hm,w8⟩:=q8
    exact again I8 hm w8
   | true=>
    rw [if_pos rfl] at q8 ⊢
    refine wpAny_mono (he s3 _ s3.heap.objs.size fp _ s8 _ H8 _ I8 q8) (fun u9 s9 ⟨z,H9,I9,r9,e9,hz9,m',hm,w9⟩=>?_) fun _ _ q=>q.elim
    refine wpAny_mono (qJ4 (X:=qBy X M s3 (upd H2 l (.lst [])) s3.heap.objs.size fp x x2 scope cl) _ s9 _ H9 (.ref l) [z] (.ref l) [u9] (fun v H'=>v=.non∧H'=upd H9 l (.lst (acc++[z]))) I9 rfl (.cons r9 .nil)
     ⟨l,acc,z,rfl,rfl,e9,hz9,rfl,rfl⟩) (fun v10 s10 ⟨_,H10,I10,_,_,e10⟩=>?_) fun _ _ q=>q.elim
    subst e10
    exact again I10 hm w9
 exact codeAny_compStart_list loop (T.self X.A 0 _ _ _ st4 loop)
section
variable {X:Cx}{elt iter:Expr}{x x2 y:Str}{px py pz tpos:Pos}{kz:Nat}{ifs:List Expr}{scope:Scope}{pos spos:Pos}{wi:TI}{tt:TT}{te:TE}
theorem qZu (hc:X.calm=true)(hN:X.N.Nodup)(S:CompScope2 X M x x2 scope)(hi:PI X (.Tuple [.Name x px,.Name x2 pz] kz tpos) iter wi)
  (ht:∀ s₀ H₀ C fp cl,PTs #[81] ifs tt) (he:∀ s₀ H₀ C fp cl,PE #[81] elt te)
  (hs:∀ x,foldedSetIterable iter X.env x=pure x:=by intro _;rfl):PE X #[104] (qbd X.K wi tt te):=by
 intro pins s σ H Q I h
 obtain ⟨cl,hclos,hcl,hcs⟩:=qH5 (env:=X.env) (scope:=scope) fun y hy hf=>I.ok.has y.1 (S.free y hy hf)
 rw [eval_ListComp]
 refine wpAny_comprehension_free (use:=none) rfl hs hclos S.kind S.names (thn (hi pins s σ H _ I h) fun v s1 h1=>thn h1 fun itv s2 h2=>?_)
 obtain ⟨it,fp,tn,J,H2,e,I2,T,st2,f2,hW⟩:=h2
 subst e
 refine qRp (RR:=fun acc C=>compPost #[12] X.A X.xe none (EP X pins σ Q) acc C) hc S hcl hcs hN (fun s₀ H₀ C fp=>ht s₀ H₀ C fp cl) (fun s₀ H₀ C fp=>he s₀ H₀ C fp cl) I2 T st2 f2 hW ?_
 intro D C s1 H' hD hDC hCf hm q I1
 obtain ⟨m,hm⟩:=hm
 obtain ⟨g0,g1,g2,g3,g4,g5⟩:=I2.fpOk (b:=C) (H':=H') (by rw [hD];exact Nat.le_of_lt hDC) hCf
 exact ⟨m,hm,fun h' sb=>⟨.ref D,H',I1.turned (t':=s1.toks) (fun b o hb e=>(sb.2 b hb).trans e) g0 g1 g3 g4 g5,rfl,q⟩⟩
end
def qL9 (scope fs:Scope)(x x2:Str)(N:List Str):Bool:=
 scope.names.all (fun y=>(y.2 != .cell) && ((y.2 != .local) || ((scope.names.lookup y.1 == some .local) && (y.1 == x || (y.1 == x2 || y.1 == ".0")))) && ((y.2 != .free) || (fs.names.lookup y.1 == some .cell || fs.names.lookup y.1 == some .free)))
  && (scope.kind == .function) && (scope.names.lookup x == some .local) && (scope.names.lookup x2 == some .local) && !(x == x2) && !(N.contains x) && !(N.contains x2) && !(N.contains ".0")
theorem qNl {X:Cx}{x x2:Str}{scope:Scope}(fs:Scope)(N:List Str)(e1:X.env.scope=fs)(e2:X.N=N)(h:qL9 scope fs x x2 N=true)(hn:N.Nodup:=by decide +kernel):CompScope2 X N x x2 scope:=by
 unfold qL9 at h
 simp only [Bool.and_eq_true,Bool.not_eq_true',List.all_eq_true,Bool.or_eq_true,bne_iff_ne,beq_iff_eq] at h
 obtain ⟨⟨⟨⟨⟨⟨⟨h1,h2⟩,h3⟩,h3z⟩,hne⟩,h4⟩,h4z⟩,h5⟩:=h
 refine ⟨fun y hy=>(h1 y hy).1.1,h2,fun y hy hl=>?_,fun y hy hl=>?_,h3,h3z,fun y hy hf=>?_,?_,?_,?_,?_,fun i y e _=>by rw [e2];exact e,hn,by rw [e2]⟩
 ·rcases (h1 y hy).1.2 with z | z
  ·exact absurd hl z
  ·exact z.1
 ·rcases (h1 y hy).1.2 with z | z
  ·exact absurd hl z
  ·exact z.2
 ·show X.env.scope.names.lookup y.1=_∨X.env.scope.names.lookup y.1=_
  rw [e1]
  rcases (h1 y hy).2 with z | z
  ·exact absurd hf z
  ·exact z
 ·intro z;rw [List.contains_iff_mem.mpr z] at h4;cases h4
 ·intro z;rw [List.contains_iff_mem.mpr z] at h4z;cases h4z
 ·simpa using hne
 ·intro z;rw [List.contains_iff_mem.mpr z] at h5;cases h5
open PySem PySem.Spec PyProof.Rows
theorem Inv.turnAll {X:Cx}{pins:List #[10]}{σ:St}{H:Hp}{s:Shared}{h':Heap}{t':Nat}{ch:List Addr}(I:Inv X pins σ H s)(hf:∀ b∈ch,qK6 X pins H b)
  (k:∀ b u,b∉ch→s.heap.get? b=some u→h'.get? b=some u):Inv X pins σ H { s with heap:=h',toks:=t' }:=by
 have ntr:∀ b u,H b=some u→b∉ch:=fun b u e z=>by rw [(hf b z).1] at e;cases e
 refine I.step (g':=s.gens) (d':=s.drawn) (ch:=ch) (fun b hb=>?_) (fun b u _ _ hc e _=>k b u hc e) (fun b u _ _ hc e _=>⟨u.slots,k b u hc e⟩) (fun _ _ _ _ n=>n)
  (fun b u hc e=>⟨u,k b u hc e⟩) (fun _ _ e=>e) (fun _ _ _ e=>e) (fun _ _ e=>e) (fun m hm=>?_) (fun b u e=>?_) I.bare
 ·obtain ⟨f0,f1,f2,f3,f4,f5⟩:=hf b hb
  exact ⟨f3,f1,f4,f5⟩
 ·obtain ⟨ob,es,ep,ho,r⟩:=hm
  exact ⟨ob,es,ep,k _ ob (fun z=>(hf _ z).2.1 rfl) ho,r⟩
 ·refine (I.hok b u e).stay (fun c v hc q=>k c v ?_ q) (fun _ q=>q) (fun _ _ q=>q) fun _ _ q=>q
  rcases hc with z | z
  ·rw [z];exact ntr b u e
  ·exact ntr c _ z
def IzL (K:PySem.W.Frag)(a b:Addr):It:=
 ⟨fun i H=>∃ xs ys x y,SqL K H a xs∧SqL K H b ys∧xs[i]?=some x∧ys[i]?=some y,fun i H x H'=>∃ p u v,x=.ref p∧H p=none∧(∀ xs,SqL K H a xs→xs[i]?=some u)∧(∀ ys,SqL K H b ys→ys[i]?=some v)∧H'=upd H p (.tup [u,v]),fun i H=>∃ xs ys,SqL K H a xs∧SqL K H b ys∧(xs[i]?=none∨ys[i]?=none)⟩
theorem qYq {P:Program}{w:World}{K:PySem.W.Frag}{elts:List Expr}{kk:Nat}{tpos:Pos}(a b z TI TO i1 i2:Addr)(D:ZipApart z TI TO i1 i2 a b) :
  Turn P w K (.Tuple elts kk tpos) (IzL K a b) [z,TI,TO,i1,i2] z (fun i h=>IsZip h z TI TO .none∧IsPair h TI (.ref i1) (.ref i2)∧(∃ u v,IsPair h TO u v)∧h.IsListIter i1 a i∧h.IsListIter i2 b i) where
 mem:=by simp
 obj:=fun i h st c hc=>by
  obtain ⟨hz,hTI,⟨u,v,hTO⟩,⟨o1,g1,c1,d1⟩,⟨o2,g2,c2,d2⟩⟩:=st
  simp only [List.mem_cons,List.not_mem_nil,or_false] at hc
  rcases hc with rfl | rfl | rfl | rfl | rfl
  ·exact ⟨_,hz,fun v z=>nomatch z⟩
  ·exact ⟨_,hTI,fun v z=>nomatch z⟩
  ·exact ⟨_,hTO,fun v z=>nomatch z⟩
  ·exact ⟨o1,g1,fun v z=>by rw [d1] at z;cases z⟩
  ·exact ⟨o2,g2,fun v z=>by rw [d2] at z;cases z⟩
 keep:=fun i h h' st k=>by
  obtain ⟨hz,hTI,⟨u,v,hTO⟩,h1,h2⟩:=st
  exact ⟨k z #[7] _ hz,k TI #[7] _ hTI,⟨u,v,k TO #[7] _ hTO⟩,h1.at fun o e=>k i1 #[7] o e,h2.at fun o e=>k i2 #[7] o e⟩
 item:=by
  intro X hP hw hK hc i pins s σ H E I hf st hg
  subst hP hw hK
  obtain ⟨xs,ys,x,y,hq1,hq2,hx,hy⟩:=hg
  obtain ⟨its1,rv1,p1,_⟩:=I.list hq1
  obtain ⟨its2,rv2,p2,_⟩:=I.list hq2
  obtain ⟨u1,hu1,ru1⟩:=rv1.get hx
  obtain ⟨u2,hu2,ru2⟩:=rv2.get hy
  obtain ⟨hz,hTI,⟨ta,tb,hTO⟩,h1,h2⟩:=st
  refine wpAny_pyNext_zip_item D hz hTI hTO h1 h2 p1.isList p2.isList (x:=u1) (y:=u2) (by simpa using hu1) (by simpa using hu2) fun h' a1 a2 a3 a4 a5 a6 hk=>?_
  refine ⟨_,rfl,wpAny_letOwnedTupleGo_zip a1 fun h2' hz2 hs2=>?_⟩
  have hlt:z < s.heap.objs.size:=Heap.lt_size hz
  have keep2:∀ b o,b∉[z,TI,TO,i1,i2]→s.heap.get? b=some o→h2'.get? b=some o:=fun b o hb q=>by
   simp only [List.mem_cons,List.not_mem_nil,or_false,not_or] at hb
   exact (hs2.2 b hb.1).trans (hk b o hb.1 hb.2.2.1 hb.2.2.2.1 hb.2.2.2.2 q)
  have hT2:h2'.get? s.heap.objs.size=some { cls:=.type "tuple",data:=.seq #[u1,u2] }:=(hs2.2 _ (Nat.ne_of_gt hlt)).trans a5
  have I2:Inv X pins σ (upd H s.heap.objs.size (.tup [x,y])) { s with heap:=h2',toks:=s.toks }:=
   I.laidTurn (ch:=[z,TI,TO,i1,i2]) hf keep2 #[8] ⟨by rw [show ([x,y]:List V).length=2 from rfl,sizeLine_eq];decide,[u1,u2],.cons ru1 (.cons ru2 .nil),_,hT2,rfl,_,rfl⟩
  have fr:H s.heap.objs.size=none:=I.hok.fresh #[8]
  have low:∀ c∈[z,TI,TO,i1,i2],c < s.heap.objs.size:=fun c hc=>by
   obtain ⟨o1,g1,_⟩:=h1
   obtain ⟨o2,g2,_⟩:=h2
   simp only [List.mem_cons,List.not_mem_nil,or_false] at hc
   rcases hc with rfl | rfl | rfl | rfl | rfl
   ·exact hlt
   ·exact Heap.lt_size hTI
   ·exact Heap.lt_size hTO
   ·exact Heap.lt_size g1
   ·exact Heap.lt_size g2
  have TI2:IsPair h2' TI (.ref i1) (.ref i2):=(hs2.2 TI D.TIz).trans (hk TI _ D.TIz D.TITO D.TIi1 D.TIi2 hTI)
  refine ⟨.ref s.heap.objs.size,_,I2,rfl,⟨_,x,y,rfl,fr,fun zs hz=>by rw [I.list_inj hz hq1];exact hx,fun zs hz=>by rw [I.list_inj hz hq2];exact hy,rfl⟩,⟨hz2,TI2,⟨u1,u2,(hs2.2 TO D.TOz).trans a2⟩,a3.at fun o e=>(hs2.2 i1 D.i1z).trans e,a4.at fun o e=>(hs2.2 i2 D.i2z).trans e⟩,fun c hc=>?_⟩
  rw [qAr (Nat.ne_of_lt (low c hc))]
  exact (hf c hc).1
 done:=by
  intro X hP hw hK hc i pins s σ H E I hf st hg
  subst hP hw hK
  obtain ⟨xs,ys,hq1,hq2,hx⟩:=hg
  obtain ⟨its1,rv1,p1,_⟩:=I.list hq1
  obtain ⟨its2,rv2,p2,_⟩:=I.list hq2
  obtain ⟨hz,hTI,⟨ta,tb,hTO⟩,h1,h2⟩:=st
  have l1:=rv1.length
  have l2:=rv2.length
  refine wpAny_pyNext_zip_end (I.ok.hd hc) D hz hTI hTO h1 h2 p1.isList p2.isList ?_ fun h' hk=>⟨rfl,?_⟩
  ·rcases hx with g | g
   ·have:=List.getElem?_eq_none_iff.mp g
    exact .inl (by rw [←Array.getElem?_toList];exact List.getElem?_eq_none (by show its1.length≤i;omega))
   ·have:=List.getElem?_eq_none_iff.mp g
    exact .inr (by rw [←Array.getElem?_toList];exact List.getElem?_eq_none (by show its2.length≤i;omega))
  ·refine I.turnAll (t':=s.toks) (ch:=[z,TI,TO,i1,i2]) hf fun b o hb q=>?_
   simp only [List.mem_cons,List.not_mem_nil,or_false,not_or] at hb
   exact hk b o hb.1 hb.2.2.1 hb.2.2.2.1 hb.2.2.2.2 q
 self:=fun A i s Q E st h=>wpAny_pyIter_zip st.1 h
theorem qUv (n c d:Nat)(h1:c < n)(h2:d < n):ZipApart (n + 4) (n + 2) (n + 3) n (n + 1) c d:=by
 constructor <;> (intro h;have h:(_:Nat)=(_:Nat):=h;revert h;show ¬ ((_:Nat)=(_:Nat));omega)
theorem qcc (n x:Nat)(hx:x∈[n + 4,n + 2,n + 3,n,n + 1]):n≤x:=by
 simp only [List.mem_cons,List.not_mem_nil,or_false] at hx
 omega
section
variable {X:Cx}{elts:List Expr}{kk:Nat}{tpos p pos:Pos}{a b:Expr}{ta:TA}
def iZip (K:PySem.W.Frag)(ta:TA):TI:=fun σ H R=>ta σ H fun vs H1=>∃ a b,vs=[.ref a,.ref b]∧(∃ xs,SqL K H1 a xs)∧(∃ ys,SqL K H1 b ys)∧R (IzL K a b) H1
theorem qa2:bootBuiltins "zip"=some (.type "zip"):=by kernel_rfl
theorem pi_zip (hg:Gl X "zip")(hm:X.mg "zip"=none)(ha:PA X [a,b] ta)(hs:starEach [a,b] X.env=(false,eval a X.env)::starEach [b] X.env:=by rfl)(hpl:(backTo pos (starEach [b] X.env)).any (·.1)=false:=by rfl):PI X (.Tuple elts kk tpos) (.Call (.Name "zip" p) [a,b] [] pos) (iZip X.K ta):=by
 intro pins s σ H R I h
 refine Call_ (qFc I hg hm qa2 (PyProof.Rows.callWith_type1 (thn (ha pos pins s σ H _ I h) fun us s1 ⟨vs,H1,I1,r1,q1⟩=>?_) hs hpl))
 obtain ⟨c,d,e,⟨xs,hq1⟩,⟨ys,hq2⟩,q⟩:=q1
 subst e
 obtain ⟨u1,u2,rfl,ru1,ru2⟩:=r1.two
 cases (show u1=Value.ref c from ru1)
 cases (show u2=Value.ref d from ru2)
 obtain ⟨its1,rv1,p1,_⟩:=I1.list hq1
 obtain ⟨its2,rv2,p2,_⟩:=I1.list hq2
 refine call_zip_2 p1.isList p2.isList fun h' hz hTI hTO h1 h2 hsz hk=>wpAny_pyIter_zip hz ?_
 have l1:c < s1.heap.objs.size:=p1.lt
 have l2:d < s1.heap.objs.size:=p2.lt
 refine ⟨s1.heap.objs.size + 4,[s1.heap.objs.size + 4,s1.heap.objs.size + 2,s1.heap.objs.size + 3,s1.heap.objs.size,s1.heap.objs.size + 1],_,_,H1,rfl,I1.kept (t':=s1.toks) hk,qYq c d _ _ _ _ _ (qUv _ c d l1 l2),⟨hz,hTI,⟨_,_,hTO⟩,h1,h2⟩,fun x hx=>?_,q⟩
 have hb2:s1.heap.objs.size≤x:=qcc _ x hx
 exact I1.fpOk hb2 (I1.hok.fresh hb2)
end
end L2
namespace PD
open PySem PySem.Spec PyProof.Rows L2
inductive D where
 | non | bl (b:Bool) | int (i:Int) | str (x:Str) | tup (xs:List D) | lst (xs:List D) | fn (a:Addr) | clo (f:Addr) (vw:V) (d:D)
mutual
def IsD (K:PySem.W.Frag)(B:Hp):D→V→Prop
 | .non,v=>v=.non
 | .bl b,v=>v=.bl b
 | .int i,v=>v=.int i
 | .str x,v=>v=.str x
 | .fn a,v=>v=.ref a
 | .clo f vw d,v=>v=.ref f∧IsD K B d vw
 | .tup ds,v=>∃ a vs,v=.ref a∧B a=some (.tup vs)∧IsDs K B ds vs
 | .lst ds,v=>∃ a vs,v=.ref a∧SqL K B a vs∧IsDs K B ds vs
def IsDs (K:PySem.W.Frag)(B:Hp):List D→List V→Prop
 | [],vs=>vs=[]
 | d::ds,vs=>∃ v r,vs=v::r∧IsD K B d v∧IsDs K B ds r
end
section
variable {K:PySem.W.Frag}{B B' H H':Hp}
theorem qA5.sqT (e:qA5 H H'){a:Addr}{xs:List V}(h:SqT K H a xs):SqT K H' a xs:=by
 rcases h with (h | ⟨o,h⟩) | h
 ·exact .inl (.inl (e _ _ h))
 ·exact .inl (.inr ⟨o,e _ _ h⟩)
 ·exact .inr h
theorem qA5.tp (e:qA5 H H'){a:Addr}{xs:List V}(h:H a=some (.tup xs)):SqT K H' a xs:=SqT.of (e _ _ h)
theorem qA5.rdl (e:qA5 H H'){a:Addr}{u:HO}(h:Rd H a u):Rd H' a u:=by
 rcases h with h | ⟨o,h⟩
 ·exact .inl (e _ _ h)
 ·exact .inr ⟨o,e _ _ h⟩
mutual
theorem IsD.mono (e:qA5 B B'):∀ (d:D) (v:V),IsD K B d v→IsD K B' d v
 | .non,v,h=>h
 | .bl b,v,h=>h
 | .int i,v,h=>h
 | .str x,v,h=>h
 | .fn a,v,h=>h
 | .clo f vw d,v,h=>⟨h.1,IsD.mono e d vw h.2⟩
 | .tup ds,v,h=>by
  obtain ⟨a,vs,e1,e2,e3⟩:=h
  exact ⟨a,vs,e1,e _ _ e2,IsDs.mono e ds vs e3⟩
 | .lst ds,v,h=>by
  obtain ⟨a,vs,e1,e2,e3⟩:=h
  exact ⟨a,vs,e1,e.seq e2,IsDs.mono e ds vs e3⟩
theorem IsDs.mono (e:qA5 B B'):∀ (ds:List D) (vs:List V),IsDs K B ds vs→IsDs K B' ds vs
 | [],vs,h=>h
 | d::ds,vs,h=>by
  obtain ⟨v,r,e1,e2,e3⟩:=h
  exact ⟨v,r,e1,IsD.mono e d v e2,IsDs.mono e ds r e3⟩
end
theorem IsDs.len:∀ {ds:List D} {vs:List V},IsDs K B ds vs→ds.length=vs.length
 | [],vs,h=>by cases #[56];rfl
 | d::ds,vs,h=>by
  obtain ⟨v,r,e1,e2,e3⟩:=h
  subst e1
  rw [List.length_cons,List.length_cons,IsDs.len e3]
theorem IsDs.get:∀ {ds:List D} {vs:List V} {i:Nat} {d:D},IsDs K B ds vs→ds[i]?=some d→∃ v,vs[i]?=some v∧IsD K B d v
 | [],_,_,_,_,e=>by simp at e
 | d::ds,vs,0,d',h,e=>by
  obtain ⟨v,r,e1,e2,e3⟩:=h
  subst e1
  simp at e
  subst e
  exact ⟨v,rfl,e2⟩
 | d::ds,vs,i + 1,d',h,e=>by
  obtain ⟨v,r,e1,e2,e3⟩:=h
  subst e1
  obtain ⟨v',h1,h2⟩:=IsDs.get (i:=i) (d:=d') e3 (by simpa using e)
  exact ⟨v',by simpa using h1,h2⟩
theorem IsDs.app:∀ {ds es:List D} {vs us:List V},IsDs K B ds vs→IsDs K B es us→IsDs K B (ds++es) (vs++us)
 | [],es,vs,us,h,h'=>by cases #[56];exact h'
 | d::ds,es,vs,us,h,h'=>by
  obtain ⟨v,r,e1,e2,e3⟩:=h
  subst e1
  exact ⟨v,r++us,rfl,e2,IsDs.app e3 h'⟩
theorem IsDs.one {d:D}{v:V}(h:IsD K B d v):IsDs K B [d] [v]:=⟨v,[],rfl,h,rfl⟩
theorem IsDs.take:∀ {ds:List D} {vs:List V} (n:Nat),IsDs K B ds vs→IsDs K B (ds.take n) (vs.take n)
 | _,_,0,_=>by simp [IsDs]
 | [],vs,n + 1,h=>by cases #[56];simp [IsDs]
 | d::ds,vs,n + 1,h=>by
  obtain ⟨v,r,e1,e2,e3⟩:=h
  subst e1
  exact ⟨v,r.take n,rfl,e2,IsDs.take n e3⟩
theorem IsDs.drop:∀ {ds:List D} {vs:List V} (n:Nat),IsDs K B ds vs→IsDs K B (ds.drop n) (vs.drop n)
 | _,_,0,h=>h
 | [],vs,n + 1,h=>by cases #[56];simp [IsDs]
 | d::ds,vs,n + 1,h=>by
  obtain ⟨v,r,e1,e2,e3⟩:=h
  subst e1
  exact IsDs.drop n e3
theorem IsDs.mem:∀ {ds:List D} {vs:List V} {v:V},IsDs K B ds vs→v∈vs→∃ d,d∈ds∧IsD K B d v
 | [],vs,v,h,hm=>by cases #[56];cases hm
 | d::ds,vs,v',h,hm=>by
  obtain ⟨v,r,e1,e2,e3⟩:=h
  subst e1
  rcases List.mem_cons.mp hm with z | z
  ·subst z;exact ⟨d,List.mem_cons_self,e2⟩
  ·obtain ⟨d',q1,q2⟩:=IsDs.mem e3 z
   exact ⟨d',List.mem_cons_of_mem _ q1,q2⟩
end
structure XD where
 tag:Nat
 why:D
inductive Rs (α:Type) where
 | no | ok (a:α) | ex (x:XD)
def Rs.bind {α β:Type}:Rs α→(α→Rs β)→Rs β
 | .no,_=>.no
 | .ok a,f=>f a
 | .ex x,_=>.ex x
instance:Monad Rs where
 pure:=Rs.ok
 bind:=Rs.bind
@[simp] theorem ok_bind {α β:Type} (a:α) (f:α→Rs β):(Rs.ok a>>=f)=f a:=rfl
@[simp] theorem no_bind {α β:Type} (f:α→Rs β):(Rs.no>>=f)=Rs.no:=rfl
@[simp] theorem ex_bind {α β:Type} (x:XD) (f:α→Rs β):(Rs.ex x>>=f)=Rs.ex x:=rfl
@[simp] theorem pure_ok {α:Type} (a:α):(pure a:Rs α)=Rs.ok a:=rfl
inductive W where
 | im (d:D) | li (f:Bool) (ds:List D)
def IsW (K:PySem.W.Frag)(B H0 H:Hp):W→V→Prop
 | .im d,v=>IsD K B d v
 | .li false ds,v=>∃ a vs,v=.ref a∧Rd H a (.lst vs)∧IsDs K B ds vs
 | .li true ds,v=>∃ a vs,v=.ref a∧H0 a=none∧B a=none∧H a=some (.lst vs)∧IsDs K B ds vs
def qNt (K:PySem.W.Frag)(B H0 H:Hp):List W→List V→Prop
 | [],vs=>vs=[]
 | w::ws,vs=>∃ v r,vs=v::r∧IsW K B H0 H w v∧qNt K B H0 H ws r
def Nw (H:Hp)(a:Addr)(o:HO):Prop:=H a=none∨(H a=some o∧∃ vs,o=.tup vs)
theorem Nw.older {H H':Hp}(s:qA5 H H'){a:Addr}{o:HO}(h:Nw H' a o):Nw H a o:=by
 rcases h with h | ⟨h,t⟩
 ·exact .inl (s.free h)
 ·cases e:H a with
  | none=>exact .inl e
  | some u=>
   have:=s _ _ e
   rw [h] at this;cases this
   exact .inr ⟨e,t⟩
structure Grow (B H B' H':Hp):Prop where
 sb:qA5 B B'
 sh:qA5 H H'
 bh:qA5 B' H'
 nw:∀ a o,B' a=some o→B a=some o∨Nw H a o
section
variable {K:PySem.W.Frag}{B H B' H' B1 H1 B2 H2 H0 H0':Hp}
theorem Grow.refl (h:qA5 B H):Grow B H B H:=⟨qA5.refl _,qA5.refl _,h,fun _ _ e=>.inl e⟩
theorem Grow.trans (g:Grow B H B1 H1)(g':Grow B1 H1 B2 H2):Grow B H B2 H2:=
 ⟨g.sb.trans g'.sb,g.sh.trans g'.sh,g'.bh,fun a o e=>(g'.nw a o e).elim (fun z=>g.nw a o z) fun z=>.inr (z.older g.sh)⟩
theorem Grow.free (g:Grow B H B' H'){a:Addr}(hb:B a=none){o:HO}(hh:H a=some o)(ht:∀ vs,o≠.tup vs:=by intro _ q;cases q):B' a=none:=by
 cases e:B' a with
 | none=>rfl
 | some u=>
  rcases g.nw a u e with z | z
  ·rw [hb] at z;cases z
  ·rcases z with z | ⟨z,vs,t⟩
   ·rw [hh] at z;cases z
   ·rw [hh] at z;cases z;exact absurd t (ht vs)
theorem IsW.grow (g:Grow B H B' H'):∀ {w:W} {v:V},IsW K B H0 H w v→IsW K B' H0 H' w v
 | .im d,v,h=>IsD.mono g.sb d v h
 | .li false ds,v,h=>by
  obtain ⟨a,vs,e1,e2,e3⟩:=h
  exact ⟨a,vs,e1,qA5.rdl g.sh e2,IsDs.mono g.sb ds vs e3⟩
 | .li true ds,v,h=>by
  obtain ⟨a,vs,e1,e2,e3,e4,e5⟩:=h
  exact ⟨a,vs,e1,e2,g.free e3 e4,g.sh _ _ e4,IsDs.mono g.sb ds vs e5⟩
theorem IsW.older (s:qA5 H0 H0'):∀ {w:W} {v:V},IsW K B H0' H w v→IsW K B H0 H w v
 | .im d,v,h=>h
 | .li false ds,v,h=>h
 | .li true ds,v,h=>by
  obtain ⟨a,vs,e1,e2,e3,e4,e5⟩:=h
  exact ⟨a,vs,e1,s.free e2,e3,e4,e5⟩
theorem qNt.grow (g:Grow B H B' H'):∀ {ws:List W} {vs:List V},qNt K B H0 H ws vs→qNt K B' H0 H' ws vs
 | [],vs,h=>h
 | w::ws,vs,h=>by
  obtain ⟨v,r,e1,e2,e3⟩:=h
  exact ⟨v,r,e1,e2.grow g,qNt.grow g e3⟩
theorem qNt.older (s:qA5 H0 H0'):∀ {ws:List W} {vs:List V},qNt K B H0' H ws vs→qNt K B H0 H ws vs
 | [],vs,h=>h
 | w::ws,vs,h=>by
  obtain ⟨v,r,e1,e2,e3⟩:=h
  exact ⟨v,r,e1,e2.older s,qNt.older s e3⟩
theorem qNt.len:∀ {ws:List W} {vs:List V},qNt K B H0 H ws vs→ws.length=vs.length
 | [],vs,h=>by cases #[56];rfl
 | w::ws,vs,h=>by
  obtain ⟨v,r,e1,e2,e3⟩:=h
  subst e1
  rw [List.length_cons,List.length_cons,qNt.len e3]
theorem Grow.new (hs:qA5 B H){p:Addr}{o:HO}(hp:H p=none)(hb:B p=none):Grow B H B (upd H p o):=
 ⟨qA5.refl _,fun b u e=>by rw [qAr (qAn e hp)];exact e,fun b u e=>by rw [qAr (qAn e hb)];exact hs b u e,fun _ _ e=>.inl e⟩
theorem Grow.newB (hs:qA5 B H){p:Addr}{o:HO}(hp:H p=none):Grow B H (upd B p o) (upd H p o):=by
 have hb:B p=none:=hs.free hp
 refine ⟨fun b u e=>by rw [qAr (qAn e hb)];exact e,fun b u e=>by rw [qAr (qAn e hp)];exact e,fun b u e=>?_,fun b u e=>?_⟩
 ·by_cases hbp:b=p
  ·subst hbp;rw [qAu] at e ⊢;exact e
  ·rw [qAr hbp] at e ⊢;exact hs b u e
 ·by_cases hbp:b=p
  ·subst hbp;exact .inr (.inl hp)
  ·rw [qAr hbp] at e;exact .inl e
theorem Grow.freeze (g:Grow B H B' H'){a:Addr}{vs:List V}(h0:H a=none)(hb:B' a=none)(hh:H' a=some (.lst vs)):Grow B H (upd B' a (.lst vs)) H':=by
 refine ⟨fun b u e=>by rw [qAr (qAn (g.sb b u e) hb)];exact g.sb b u e,g.sh,fun b u e=>?_,fun b u e=>?_⟩
 ·by_cases hba:b=a
  ·subst hba;rw [qAu] at e;cases e;exact hh
  ·rw [qAr hba] at e;exact g.bh b u e
 ·by_cases hba:b=a
  ·subst hba;exact .inr (.inl h0)
  ·rw [qAr hba] at e;exact g.nw b u e
end
inductive Sl where
 | un | im (d:D) | rd (ds:List D) | own (ds:List D) | dct (ks:List (Key×D)) | exc (x:Str) | dtt (ks:List (List Key×D))
def excO (a C:Addr):HO:=.ext fun h=>∃ o vs,h.get? a=some o∧o.cls=.ref C∧o.dict=none∧o.data=.fields vs
abbrev qAi:=List Sl
def KD (K:PySem.W.Frag)(B:Hp)(ks:List (Key×D))(kvs:List (Key×V)):Prop:=kvs.map (·.1)=ks.map (·.1)∧IsDs K B (ks.map (·.2)) (kvs.map (·.2))
theorem KD.mono {K:PySem.W.Frag}{B B':Hp}(e:qA5 B B'){ks:List (Key×D)}{kvs:List (Key×V)}(h:KD K B ks kvs):KD K B' ks kvs:=⟨h.1,IsDs.mono e _ _ h.2⟩
def KDt (K:PySem.W.Frag)(B:Hp)(ks:List (List Key×D))(kvs:List #[41]):Prop:=kvs.map (·.1)=ks.map (·.1)∧IsDs K B (ks.map (·.2)) (kvs.map (·.2))
theorem KDt.mono {K:PySem.W.Frag}{B B':Hp}(e:qA5 B B'){ks:List (List Key×D)}{kvs:List #[41]}(h:KDt K B ks kvs):KDt K B' ks kvs:=⟨h.1,IsDs.mono e _ _ h.2⟩
def qew (K:PySem.W.Frag)(F0 P B H:Hp)(ov:Option (Option V)):Sl→Prop
 | .un=>True
 | .im d=>∃ v,ov=some (some v)∧IsD K B d v
 | .rd ds=>∃ a vs,ov=some #[31]∧Rd F0 a (.lst vs)∧IsDs K B ds vs
 | .own ds=>∃ a vs,ov=some #[31]∧F0 a=none∧P a=none∧B a=none∧H a=some (.lst vs)∧IsDs K B ds vs
 | .dct ks=>∃ a kvs,ov=some #[31]∧F0 a=none∧P a=none∧B a=none∧H a=some (.dK kvs)∧KD K B ks kvs
 | .exc x=>∃ a C,ov=some #[31]∧PySem.W.nsIn K mainGlobals x=some (some (.ref C))∧B a=some (excO a C)
 | .dtt ks=>∃ a kvs,ov=some #[31]∧F0 a=none∧P a=none∧B a=none∧H a=some (.dT kvs)∧KDt K B ks kvs
def Sl.isOwn:Sl→Bool
 | .own _=>true
 | .dct _=>true
 | .dtt _=>true
 | _=>false
structure R (K:PySem.W.Frag) (B0 F0 P B H:Hp) (σ:L2.St) (δ:qAi):Prop where
 b0:qA5 B0 B
 nw:∀ a o,B a=some o→B0 a=some o∨Nw F0 a o
 fh:qA5 F0 H
 ph:qA5 P H
 bh:qA5 B H
 len:δ.length=σ.length
 sl:∀ (i:Nat) (s:Sl),δ[i]?=some s→qew K F0 P B H σ[i]? s
 ne:∀ (i j:Nat) (s t:Sl) (a:Addr),i≠j→δ[i]?=some s→δ[j]?=some t→s.isOwn=true→t.isOwn=true→σ[i]?=some #[31]→σ[j]?=some #[31]→False
section
variable {K:PySem.W.Frag}{B0 F0 P B H B' H':Hp}{σ:L2.St}{δ:qAi}
theorem qew.grow (g:Grow B H B' H'){ov:Option (Option V)}:∀ {s:Sl},qew K F0 P B H ov s→qew K F0 P B' H' ov s
 | .un,_=>trivial
 | .im d,h=>by
  obtain ⟨v,e1,e2⟩:=h
  exact ⟨v,e1,IsD.mono g.sb d v e2⟩
 | .rd ds,h=>by
  obtain ⟨a,vs,e1,e2,e3⟩:=h
  exact ⟨a,vs,e1,e2,IsDs.mono g.sb ds vs e3⟩
 | .own ds,h=>by
  obtain ⟨a,vs,e1,e2,e3,e4,e5,e6⟩:=h
  exact ⟨a,vs,e1,e2,e3,g.free e4 e5,g.sh _ _ e5,IsDs.mono g.sb ds vs e6⟩
 | .dct ks,h=>by
  obtain ⟨a,kvs,e1,e2,e3,e4,e5,e6⟩:=h
  exact ⟨a,kvs,e1,e2,e3,g.free e4 e5,g.sh _ _ e5,e6.mono g.sb⟩
 | .exc x,h=>by
  obtain ⟨a,C,e1,e2,e3⟩:=h
  exact ⟨a,C,e1,e2,g.sb _ _ e3⟩
 | .dtt ks,h=>by
  obtain ⟨a,kvs,e1,e2,e3,e4,e5,e6⟩:=h
  exact ⟨a,kvs,e1,e2,e3,g.free e4 e5,g.sh _ _ e5,e6.mono g.sb⟩
theorem R.grow (r:R K B0 F0 P B H σ δ)(g:Grow B H B' H'):R K B0 F0 P B' H' σ δ where
 b0:=r.b0.trans g.sb
 nw:=fun a o e=>(g.nw a o e).elim (fun z=>r.nw a o z) fun z=>.inr (z.older r.fh)
 fh:=r.fh.trans g.sh
 ph:=r.ph.trans g.sh
 bh:=g.bh
 len:=r.len
 sl:=fun i s e=>(r.sl i s e).grow g
 ne:=r.ne
theorem R.whole (r:R K B0 F0 P B H σ δ):Grow B0 F0 B H:=⟨r.b0,r.fh,r.bh,r.nw⟩
end
abbrev XW:=XD→Hp→Hp→Prop
def Pst (Ew:XW)(B H:Hp){α:Type}(A:α→Hp→Hp→Prop)(r:Rs α):Prop:=
 match r with
 | .no=>False
 | .ok a=>∀ B' H',Grow B H B' H'→A a B' H'
 | .ex x=>∀ B' H',Grow B H B' H'→Ew x B' H'
abbrev qHi (K:PySem.W.Frag)(Ew:XW)(B H:Hp)(r:Rs W)(Q:VK):Prop:=Pst Ew B H (fun w B' H'=>∀ v,IsW K B' H H' w v→Q v H') r
abbrev qa6 (K:PySem.W.Frag)(Ew:XW)(B H:Hp)(r:Rs D)(Q:VK):Prop:=Pst Ew B H (fun d B' H'=>∀ v,IsD K B' d v→Q v H') r
abbrev qUt (Ew:XW)(B H:Hp)(r:Rs Bool)(Q:Bool→Hp→Prop):Prop:=Pst Ew B H (fun b _ H'=>Q b H') r
abbrev qYc (K:PySem.W.Frag)(Ew:XW)(B H:Hp)(r:Rs (List W))(Q:List V→Hp→Prop):Prop:=Pst Ew B H (fun ws B' H'=>∀ vs,qNt K B' H H' ws vs→Q vs H') r
abbrev PostDs (K:PySem.W.Frag)(Ew:XW)(B H:Hp)(r:Rs (List D))(Q:List V→Hp→Prop):Prop:=Pst Ew B H (fun ds B' H'=>∀ vs,IsDs K B' ds vs→Q vs H') r
section
variable {K:PySem.W.Frag}{Ew:XW}{B H B1 H1:Hp}{α β:Type}{A A':α→Hp→Hp→Prop}{C:β→Hp→Hp→Prop}
theorem Pst.step (g:Grow B H B1 H1){r:Rs α}(h:Pst Ew B H A r):Pst Ew B1 H1 A r:=by
 cases r with
 | no=>exact h
 | ok w=>exact fun B' H' g'=>h B' H' (g.trans g')
 | ex x=>exact fun B' H' g'=>h B' H' (g.trans g')
theorem Pst.mono {r:Rs α}(h:Pst Ew B H A r)(f:∀ a B' H',Grow B H B' H'→A a B' H'→A' a B' H'):Pst Ew B H A' r:=by
 cases r with
 | no=>exact h
 | ok w=>exact fun B' H' g'=>f w B' H' g' (h B' H' g')
 | ex x=>exact h
theorem Pst.bind {r:Rs α}{f:α→Rs β}(h:Pst Ew B H C (r>>=f)):Pst Ew B H (fun a B' H'=>Pst Ew B' H' C (f a)) r:=by
 cases r with
 | no=>exact h
 | ok w=>exact fun B' H' g'=>Pst.step g' h
 | ex x=>exact h
theorem Pst.ok {a:α}{f:Grow B H B H}(h:Pst Ew B H A (Rs.ok a)):A a B H:=h B H f
theorem qHi.step (g:Grow B H B1 H1){r:Rs W}{Q:VK}(h:qHi K Ew B H r Q):qHi K Ew B1 H1 r Q:=
 (Pst.step g h).mono fun w B' H' _ q v hw=>q v (hw.older g.sh)
theorem qYc.step (g:Grow B H B1 H1){r:Rs (List W)}{Q:List V→Hp→Prop}(h:qYc K Ew B H r Q):qYc K Ew B1 H1 r Q:=
 (Pst.step g h).mono fun w B' H' _ q v hw=>q v (hw.older g.sh)
end
def PX (X:Cx)(Ew:XW)(e:Expr)(g:qAi→Rs W):Prop:=
 ∃ te:TE,PE X e te∧∀ (B0 F0 P B H:Hp) (σ:L2.St) (δ:qAi) (Q:VK),R X.K B0 F0 P B H σ δ→qHi X.K Ew B H (g δ) Q→te σ H Q
def PXd (X:Cx)(Ew:XW)(e:Expr)(g:qAi→Rs D):Prop:=
 ∃ te:TE,PE X e te∧∀ (B0 F0 P B H:Hp) (σ:L2.St) (δ:qAi) (Q:VK),R X.K B0 F0 P B H σ δ→qa6 X.K Ew B H (g δ) Q→te σ H Q
def PXt (X:Cx)(Ew:XW)(e:Expr)(g:qAi→Rs Bool):Prop:=
 ∃ tt:TT,PT X e tt∧∀ (B0 F0 P B H:Hp) (σ:L2.St) (δ:qAi) (Q:Bool→Hp→Prop),R X.K B0 F0 P B H σ δ→qUt Ew B H (g δ) Q→tt σ H Q
def PXa (X:Cx)(Ew:XW)(es:List Expr)(g:qAi→Rs (List W)):Prop:=
 ∃ ta:TA,PA X es ta∧∀ (B0 F0 P B H:Hp) (σ:L2.St) (δ:qAi) (Q:List V→Hp→Prop),R X.K B0 F0 P B H σ δ→qYc X.K Ew B H (g δ) Q→ta σ H Q
def PXs (X:Cx)(Ew:XW)(es:List Expr)(g:qAi→Rs (List D)):Prop:=
 ∃ ta:TA,PA X es ta∧∀ (B0 F0 P B H:Hp) (σ:L2.St) (δ:qAi) (Q:List V→Hp→Prop),R X.K B0 F0 P B H σ δ→PostDs X.K Ew B H (g δ) Q→ta σ H Q
def W.toD:W→Rs D
 | .im d=>.ok d
 | .li true ds=>.ok (.lst ds)
 | .li false _=>.no
section
variable {X:Cx}{Ew:XW}{e:Expr}{es:List Expr}{pos:Pos}
theorem PX.d {g:qAi→Rs W}(h:PX X Ew e g):PXd X Ew e (fun δ=>g δ>>=W.toD):=by
 obtain ⟨te,h1,h2⟩:=h
 refine ⟨te,h1,fun B0 F0 P B H σ δ Q r p=>h2 B0 F0 P B H σ δ Q r ?_⟩
 have p':qa6 X.K Ew B H (g δ>>=W.toD) Q:=p
 cases e:g δ with
 | no=>rw [e] at p';exact p'
 | ex x=>rw [e] at p';exact p'
 | ok w=>
  rw [e] at p'
  cases w with
  | im d=>exact p'
  | li f ds=>
   cases f with
   | false=>exact False.elim p'
   | true=>
    rintro B' H' g' v ⟨a,vs,e1,e2,e3,e4,e5⟩
    subst e1
    have sm:qA5 B' (upd B' a (.lst vs)):=fun b u q=>by rw [qAr (qAn q e3)];exact q
    exact p' (upd B' a (.lst vs)) H' (g'.freeze e2 e3 e4) _ ⟨a,vs,rfl,SqL.of qAu,IsDs.mono sm ds vs e5⟩
theorem PXd.w {g:qAi→Rs D}(h:PXd X Ew e g):PX X Ew e (fun δ=>g δ>>=fun d=>Rs.ok (W.im d)):=by
 obtain ⟨te,h1,h2⟩:=h
 exact ⟨te,h1,fun B0 F0 P B H σ δ Q r p=>h2 B0 F0 P B H σ δ Q r ((Pst.bind p).mono fun d B' H' g' q v hd=>q B' H' (Grow.refl g'.bh) v hd)⟩
theorem qAe:PXa X Ew [] (fun _=>.ok []):=⟨tNil,qD8,fun B0 F0 P B H σ δ Q r p=>p B H #[49] [] rfl⟩
theorem qAa {g:qAi→Rs W}{k:qAi→Rs (List W)}(h:PX X Ew e g)(hr:PXa X Ew es k)(hs:starEach (e::es) X.env=#[38]::starEach es X.env:=by rfl) :
  PXa X Ew (e::es) (fun δ=>g δ>>=fun w=>k δ>>=fun ws=>Rs.ok (w::ws)):=by
 obtain ⟨te,h1,h2⟩:=h
 obtain ⟨ta,k1,k2⟩:=hr
 refine ⟨_,qCq h1 k1 hs,fun B0 F0 P B H σ δ Q r p=>h2 B0 F0 P B H σ δ _ r ((Pst.bind p).mono fun w B1 H1 g1 q v hw=>?_)⟩
 refine k2 B0 F0 P B1 H1 σ δ _ (r.grow g1) ((Pst.bind q).mono fun ws B2 H2 g2 q2 vs hws=>?_)
 exact q2 B2 H2 (Grow.refl g2.bh) (v::vs) ⟨v,vs,rfl,hw.grow g2,hws.older g1.sh⟩
theorem qAt:PXs X Ew [] (fun _=>.ok []):=⟨tNil,qD8,fun B0 F0 P B H σ δ Q r p=>p B H #[49] [] rfl⟩
theorem qAk {g:qAi→Rs D}{k:qAi→Rs (List D)}(h:PXd X Ew e g)(hr:PXs X Ew es k)(hs:starEach (e::es) X.env=#[38]::starEach es X.env:=by rfl) :
  PXs X Ew (e::es) (fun δ=>g δ>>=fun w=>k δ>>=fun ws=>Rs.ok (w::ws)):=by
 obtain ⟨te,h1,h2⟩:=h
 obtain ⟨ta,k1,k2⟩:=hr
 refine ⟨_,qCq h1 k1 hs,fun B0 F0 P B H σ δ Q r p=>h2 B0 F0 P B H σ δ _ r ((Pst.bind p).mono fun w B1 H1 g1 q v hw=>?_)⟩
 refine k2 B0 F0 P B1 H1 σ δ _ (r.grow g1) ((Pst.bind q).mono fun ws B2 H2 g2 q2 vs hws=>?_)
 exact q2 B2 H2 (Grow.refl g2.bh) (v::vs) ⟨v,vs,rfl,IsD.mono g2.sb _ _ hw,hws⟩
def cst (d:D):qAi→Rs D:=fun _=>.ok d
theorem qAh {i:Int}{j:Nat}:PXd X Ew (.Constant (.int i) j pos) (cst (.int i)):=⟨_,qbo,fun B0 F0 P B H σ δ Q r p=>p B H #[49] _ rfl⟩
theorem qEt {b:Bool}{j:Nat}:PXd X Ew (.Constant (.bool b) j pos) (cst (.bl b)):=⟨_,pe_bl,fun B0 F0 P B H σ δ Q r p=>p B H #[49] _ rfl⟩
theorem qBu {j:Nat}:PXd X Ew (.Constant .none j pos) (cst .non):=⟨_,pe_non,fun B0 F0 P B H σ δ Q r p=>p B H #[49] _ rfl⟩
theorem qBo {x:Str}{j:Nat}:PXd X Ew (.Constant (.str x) j pos) (cst (.str x)):=⟨_,pe_str,fun B0 F0 P B H σ δ Q r p=>p B H #[49] _ rfl⟩
def var (i:Nat):qAi→Rs W:=fun δ=>match δ[i]? with
 | some (.im d)=>.ok (.im d)
 | some (.rd ds)=>.ok (.li false ds)
 | some (.own ds)=>.ok (.li false ds)
 | _=>.no
theorem qAb (i:Nat){x:Str}(hN:X.N[i]?=some x:=by rfl)(hv:Vis X.env.scope x:=by first | exact Or.inl rfl | exact Or.inr (Or.inl rfl) | exact Or.inr (Or.inr rfl))(hd:#[25]=false:=by decide)
  (hcd:#[48]=false:=by decide):PX X Ew (.Name x pos) (var i):=by
 refine ⟨_,qC5 hN hv hd hcd,fun B0 F0 P B H σ δ Q r p=>?_⟩
 unfold var at p
 cases e:δ[i]? with
 | none=>rw [e] at p;exact p.elim
 | some s=>
  rw [e] at p
  have hs:=r.sl i s e
  cases s with
  | un=>exact p.elim
  | im d=>
   obtain ⟨v,e1,e2⟩:=hs
   exact ⟨v,e1,p B H #[49] v e2⟩
  | rd ds=>
   obtain ⟨a,vs,e1,e2,e3⟩:=hs
   exact ⟨_,e1,p B H #[49] _ ⟨a,vs,rfl,qA5.rdl r.fh e2,e3⟩⟩
  | own ds=>
   obtain ⟨a,vs,e1,e2,e3,e4,e5,e6⟩:=hs
   exact ⟨_,e1,p B H #[49] _ ⟨a,vs,rfl,Rd.of e5,e6⟩⟩
  | dct ks=>exact p.elim
  | exc x=>exact p.elim
  | dtt ks=>exact p.elim
def lim:Nat:=16777216
theorem qDg:sizeLine=lim:=sizeLine_eq
def qB0 (ds:List D):Rs D:=if ds.length≤lim then .ok (.tup ds) else .no
def qBt (ds:List D):Rs W:=if ds.length≤lim then .ok (.li true ds) else .no
theorem qB3 {x1}{k:qAi→Rs (List D)}(h:PXs X Ew es k):PXd X Ew (.Tuple es x1 pos) (fun δ=>k δ>>=qB0):=by
 obtain ⟨ta,k1,k2⟩:=h
 refine ⟨_,pe_tup k1,fun B0 F0 P B H σ δ Q r p=>k2 B0 F0 P B H σ δ _ r ((Pst.bind p).mono fun ds B1 H1 g1 p' vs hds=>?_)⟩
 unfold qB0 at p'
 by_cases hl:ds.length≤lim
 ·rw [if_pos hl] at p'
  refine ⟨by rw [←hds.len,qDg];exact hl,fun q hq=>?_⟩
  refine p' (upd B1 q (.tup vs)) _ (Grow.newB g1.bh hq) (.ref q) ⟨q,vs,rfl,qAu,IsDs.mono (fun b u z=>?_) _ _ hds⟩
  rw [qAr (qAn z (g1.bh.free hq))];exact z
 ·rw [if_neg hl] at p'
  exact p'.elim
theorem qBs {k:qAi→Rs (List D)}(h:PXs X Ew es k):PX X Ew (.List es pos) (fun δ=>k δ>>=qBt):=by
 obtain ⟨ta,k1,k2⟩:=h
 refine ⟨_,pe_lst k1,fun B0 F0 P B H σ δ Q r p=>k2 B0 F0 P B H σ δ _ r ((Pst.bind p).mono fun ds B1 H1 g1 p' vs hds=>?_)⟩
 unfold qBt at p'
 by_cases hl:ds.length≤lim
 ·rw [if_pos hl] at p'
  refine ⟨by rw [←hds.len,qDg];exact hl,fun q hq=>?_⟩
  exact p' B1 _ (Grow.new g1.bh hq (g1.bh.free hq)) (.ref q) ⟨q,vs,rfl,g1.sh.free hq,g1.bh.free hq,qAu,hds⟩
 ·rw [if_neg hl] at p'
  exact p'.elim
end
open PySem PySem.Spec PyProof.Rows L2
mutual
def eqD:D→D→Bool
 | .non,.non=>true
 | .bl a,.bl b=>a == b
 | .bl a,.int b=>(if a then 1 else 0) == b
 | .int a,.bl b=>a == (if b then 1 else 0)
 | .int a,.int b=>a == b
 | .str a,.str b=>a == b
 | .tup xs,.tup ys=>eqDs xs ys
 | .lst xs,.lst ys=>eqDs xs ys
 | _,_=>false
def eqDs:List D→List D→Bool
 | [],[]=>true
 | x::xs,y::ys=>eqD x y && eqDs xs ys
 | _,_=>false
end
mutual
def qA3:Nat→D→Bool
 | _,.fn _=>false
 | _,.clo _ _ _=>false
 | 0,.tup _=>false
 | 0,.lst _=>false
 | n + 1,.tup xs=>fineDs n xs
 | n + 1,.lst xs=>fineDs n xs
 | _,_=>true
def fineDs:Nat→List D→Bool
 | _,[]=>true
 | n,x::xs=>qA3 n x && fineDs n xs
end
mutual
theorem qNh:∀ (n:Nat) (d:D),qA3 n d=true→eqD d d=true
 | n,.non,_=>by simp [eqD]
 | n,.bl b,_=>by simp [eqD]
 | n,.int i,_=>by simp [eqD]
 | n,.str x,_=>by simp [eqD]
 | n,.fn a,h=>by cases n <;> simp [qA3] at h
 | n,.clo _ _ _,h=>by cases n <;> simp [qA3] at h
 | 0,.tup xs,h=>by simp [qA3] at h
 | 0,.lst xs,h=>by simp [qA3] at h
 | n + 1,.tup xs,h=>by simp only [eqD];exact eqDs_refl n xs (by simpa [qA3] using h)
 | n + 1,.lst xs,h=>by simp only [eqD];exact eqDs_refl n xs (by simpa [qA3] using h)
theorem eqDs_refl:∀ (n:Nat) (ds:List D),fineDs n ds=true→eqDs ds ds=true
 | n,[],_=>by simp [eqDs]
 | n,d::ds,h=>by
  simp only [fineDs,Bool.and_eq_true] at h
  simp only [eqDs,Bool.and_eq_true]
  exact ⟨qNh n d h.1,eqDs_refl n ds h.2⟩
end
theorem qNg:∀ (xs ys:List D),xs.length=ys.length→eqDs xs ys=(List.range xs.length).all fun j=>eqD (xs.getD j .non) (ys.getD j .non)
 | [],[],_=>by simp [eqDs]
 | x::xs,y::ys,h=>by
  have h':xs.length=ys.length:=by simpa using h
  rw [eqDs,qNg xs ys h',List.length_cons,List.range_succ_eq_map,List.all_cons,List.all_map]
  rfl
 | [],_::_,h=>by simp at h
 | _::_,[],h=>by simp at h
theorem qNf:∀ (xs ys:List D),xs.length≠ys.length→eqDs xs ys=false
 | [],[],h=>absurd rfl h
 | x::xs,y::ys,h=>by
  have h':xs.length≠ys.length:=fun e=>h (by simp [e])
  rw [eqDs,qNf xs ys h',Bool.and_false]
 | [],_::_,h=>by simp [eqDs]
 | _::_,[],h=>by simp [eqDs]
section
variable {X:Cx}{pins:List (Addr×Obj)}{σ:L2.St}{B H:Hp}{s:Shared}
theorem qSl (I:Inv X pins σ H s){a:Addr}{xs ys:List V}(h:SqL X.K H a xs)(h':SqT X.K H a ys):False:=by
 obtain ⟨its,r,⟨o,n,e,c,_,d⟩,_⟩:=I.list h
 obtain ⟨its',r',⟨o',e',c',_⟩,_⟩:=I.tuple h'
 rw [e] at e';cases e'
 rw [c] at c'
 exact absurd c' #[5]
mutual
theorem IsD.inj (I:Inv X pins σ H s)(hs:qA5 B H):∀ (n:Nat) (d d':D) (v:V),qA3 n d=true→qA3 n d'=true→IsD X.K B d v→IsD X.K B d' v→d=d'
 | n,.non,d',v,f,f',h,h'=>by
  cases (show v=.non from h)
  cases d' <;> first | rfl | (simp [IsD] at h')
 | n,.bl b,d',v,f,f',h,h'=>by
  cases (show v=.bl b from h)
  cases d' <;> simp [IsD] at h' <;> simp [h']
 | n,.int b,d',v,f,f',h,h'=>by
  cases (show v=.int b from h)
  cases d' <;> simp [IsD] at h' <;> simp [h']
 | n,.str b,d',v,f,f',h,h'=>by
  cases (show v=.str b from h)
  cases d' <;> simp [IsD] at h' <;> simp [h']
 | n,.fn a,d',v,f,f',h,h'=>by cases n <;> simp [qA3] at f
 | n,.clo _ _ _,d',v,f,f',h,h'=>by cases n <;> simp [qA3] at f
 | 0,.tup xs,d',v,f,f',h,h'=>by simp [qA3] at f
 | 0,.lst xs,d',v,f,f',h,h'=>by simp [qA3] at f
 | n + 1,.tup xs,d',v,f,f',h,h'=>by
  obtain ⟨a,vs,rfl,e2,e3⟩:=h
  cases d' with
  | tup ys=>
   obtain ⟨a',vs',e1',e2',e3'⟩:=h'
   cases e1'
   have:=I.tuple_inj (qA5.tp hs e2) (qA5.tp hs e2')
   subst this
   rw [IsDs.inj I hs n xs ys vs (by simpa [qA3] using f) (by simpa [qA3] using f') e3 e3']
  | lst ys=>
   obtain ⟨a',vs',e1',e2',e3'⟩:=h'
   cases e1'
   exact (qSl I (hs.seq e2') (qA5.tp hs e2)).elim
  | fn a=>simp [qA3] at f'
  | clo _ _ _=>simp [qA3] at f'
  | _=>simp [IsD] at h'
 | n + 1,.lst xs,d',v,f,f',h,h'=>by
  obtain ⟨a,vs,rfl,e2,e3⟩:=h
  cases d' with
  | lst ys=>
   obtain ⟨a',vs',e1',e2',e3'⟩:=h'
   cases e1'
   have:=I.list_inj (hs.seq e2) (hs.seq e2')
   subst this
   rw [IsDs.inj I hs n xs ys vs (by simpa [qA3] using f) (by simpa [qA3] using f') e3 e3']
  | tup ys=>
   obtain ⟨a',vs',e1',e2',e3'⟩:=h'
   cases e1'
   exact (qSl I (hs.seq e2) (qA5.tp hs e2')).elim
  | fn a=>simp [qA3] at f'
  | clo _ _ _=>simp [qA3] at f'
  | _=>simp [IsD] at h'
theorem IsDs.inj (I:Inv X pins σ H s)(hs:qA5 B H):∀ (n:Nat) (ds ds':List D) (vs:List V),fineDs n ds=true→fineDs n ds'=true→IsDs X.K B ds vs→IsDs X.K B ds' vs→ds=ds'
 | n,[],ds',vs,f,f',h,h'=>by
  cases #[56]
  cases ds' with
  | nil=>rfl
  | cons d r=>obtain ⟨v,r,e,_⟩:=h';cases e
 | n,d::ds,ds',vs,f,f',h,h'=>by
  obtain ⟨v,r,rfl,e2,e3⟩:=h
  cases ds' with
  | nil=>cases (show v::r=[] from h')
  | cons d' r'=>
   obtain ⟨v',r2,e,q2,q3⟩:=h'
   cases e
   simp only [fineDs,Bool.and_eq_true] at f f'
   rw [IsD.inj I hs n d d' v f.1 f'.1 e2 q2,IsDs.inj I hs n ds r' r f.2 f'.2 e3 q3]
end
theorem qD4 {α:Type}{l:List α}{i:Nat}{d x:α}(h:l[i]?=some x):l.getD i d=x:=by
 rw [List.getD_eq_getElem?_getD,h];rfl
theorem qae {A:Around}{xs ys:List D}{vs us:List V}{its its2:List Value}(rv:qBv vs its)(ru:qBv us its2)(hx:IsDs X.K B xs vs)(hy:IsDs X.K B ys us)
  (ih:∀ (i:Nat) d v u t d' ,xs[i]?=some d→IsD X.K B d v→RelV v u→IsD X.K B d' t→∀ u',RelV t u'→ys[i]?=some d'→SeqAt.EqAt A s u u' (eqD d d')) :
  ∀ j (h1:j < its.toArray.size) (h2:j < its2.toArray.size),SeqAt.EqAt A s its.toArray[j] its2.toArray[j] (eqD (xs.getD j .non) (ys.getD j .non)):=by
 intro j h1 h2
 have l1:=rv.length
 have l2:=ru.length
 have l3:=hx.len
 have l4:=hy.len
 simp only [List.size_toArray] at h1 h2
 have j1:j < xs.length:=by omega
 have j2:j < ys.length:=by omega
 obtain ⟨v,ev,iv⟩:=hx.get (List.getElem?_eq_getElem j1)
 obtain ⟨t,et,it⟩:=hy.get (List.getElem?_eq_getElem j2)
 obtain ⟨u,eu,ru1⟩:=rv.get ev
 obtain ⟨u',eu',ru2⟩:=ru.get et
 have e1:its.toArray[j]=u:=by
  have:=List.getElem?_eq_getElem h1
  rw [eu] at this
  simpa using (Option.some.inj this).symm
 have e2:its2.toArray[j]=u':=by
  have:=List.getElem?_eq_getElem h2
  rw [eu'] at this
  simpa using (Option.some.inj this).symm
 rw [e1,e2,qD4 (List.getElem?_eq_getElem j1),qD4 (List.getElem?_eq_getElem j2)]
 exact ih j _ v u t _ (List.getElem?_eq_getElem j1) iv ru1 it u' ru2 (List.getElem?_eq_getElem j2)
theorem qHb:∀ {n:Nat} {ds:List D} {i:Nat} {d:D},fineDs n ds=true→ds[i]?=some d→qA3 n d=true
 | n,[],i,d,h,e=>by simp at e
 | n,x::xs,0,d,h,e=>by
  simp only [fineDs,Bool.and_eq_true] at h
  simp at e
  subst e
  exact h.1
 | n,x::xs,i + 1,d,h,e=>by
  simp only [fineDs,Bool.and_eq_true] at h
  exact qHb (i:=i) h.2 (by simpa using e)
def RcD (A:Around)(s:Shared)(u u':Value)(b:Bool):Prop:=SeqAt.RcAt A s u u' b∧SeqAt.RcNeAt A s u u' (!b)
inductive Sh (s:Shared):D→Value→Prop where
 | non:Sh s .non .none
 | bl (b:Bool):Sh s (.bl b) (.bool b)
 | int (i:Int) (t:Tok):Sh s (.int i) (.int i t)
 | str (x:Str) (t:Tok):Sh s (.str x) (.str x t)
 | tup {xs:List D} {l:Addr} {items:Array Value} (h:s.heap.IsTuple l items):Sh s (.tup xs) (.ref l)
 | lst {xs:List D} {l:Addr} {items:Array Value} (h:s.heap.IsList l items):Sh s (.lst xs) (.ref l)
theorem qTi (I:Inv X pins σ H s)(hs:qA5 B H){n:Nat}{d:D}{v:V}{u:Value}(f:qA3 n d=true)(h:IsD X.K B d v)(r:RelV v u):Sh s d u:=by
 cases d with
 | fn a=>cases n <;> simp [qA3] at f
 | clo _ _ _=>cases n <;> simp [qA3] at f
 | non=>cases (show v=.non from h);cases (show u=Value.none from r);exact .non
 | bl b=>cases (show v=.bl b from h);cases (show u=Value.bool b from r);exact .bl b
 | int i=>cases (show v=.int i from h);obtain ⟨t,rfl⟩:=(show ∃ t,u=Value.int i t from r);exact .int i t
 | str x=>cases (show v=.str x from h);obtain ⟨t,rfl⟩:=(show ∃ t,u=Value.str x t from r);exact .str x t
 | tup xs=>
  obtain ⟨a,vs,rfl,e2,e3⟩:=h
  cases (show u=Value.ref a from r)
  obtain ⟨its,_,p,_⟩:=I.tuple (qA5.tp hs e2)
  exact .tup p
 | lst xs=>
  obtain ⟨a,vs,rfl,e2,e3⟩:=h
  cases (show u=Value.ref a from r)
  obtain ⟨its,_,p,_⟩:=I.list (hs.seq e2)
  exact .lst p.isList
theorem qS4 (I:Inv X pins σ H s)(hs:qA5 B H){n:Nat}{A:Around}{d d':D}{v v':V}{u u':Value}(f:qA3 n d=true)(f':qA3 n d'=true)(h:IsD X.K B d v)(h':IsD X.K B d' v')(r:RelV v u)(r':RelV v' u')
  (hu:A.units < cLine) (q:RcD A s u u' (eqD d d')):SeqAt.EqAt A s u u' (eqD d d'):=by
 have refs:∀ l b,u=.ref l→u'=.ref b→SeqAt.EqAt A s u u' (eqD d d'):=fun l b e1 e2=>by
  subst e1 e2
  by_cases z:l=b
  ·subst z
   have e1:v=.ref l:=by
    cases v with
    | ref a=>cases (show Value.ref l=Value.ref a from r);rfl
    | non=>cases (show Value.ref l=Value.none from r)
    | bl b=>cases (show Value.ref l=Value.bool b from r)
    | ty b=>cases (show Value.ref l=Value.type b from r)
    | int b=>obtain ⟨t,z⟩:=(show ∃ t,Value.ref l=Value.int b t from r);cases z
    | str b=>obtain ⟨t,z⟩:=(show ∃ t,Value.ref l=Value.str b t from r);cases z
    | byt b=>obtain ⟨t,z⟩:=(show ∃ t,Value.ref l=Value.bytes b t from r);cases z
    | flt b=>obtain ⟨t,z⟩:=(show ∃ t,Value.ref l=Value.float b t from r);cases z
   have e2:v'=.ref l:=by
    cases v' with
    | ref a=>cases (show Value.ref l=Value.ref a from r');rfl
    | non=>cases (show Value.ref l=Value.none from r')
    | bl b=>cases (show Value.ref l=Value.bool b from r')
    | ty b=>cases (show Value.ref l=Value.type b from r')
    | int b=>obtain ⟨t,z⟩:=(show ∃ t,Value.ref l=Value.int b t from r');cases z
    | str b=>obtain ⟨t,z⟩:=(show ∃ t,Value.ref l=Value.str b t from r');cases z
    | byt b=>obtain ⟨t,z⟩:=(show ∃ t,Value.ref l=Value.bytes b t from r');cases z
    | flt b=>obtain ⟨t,z⟩:=(show ∃ t,Value.ref l=Value.float b t from r');cases z
   subst e1 e2
   have:=IsD.inj I hs n d d' _ f f' h h'
   subst this
   rw [qNh n d f]
   exact .same _
  ·exact .of_refs z q.1
 have s1:=qTi I hs f h r
 have s2:=qTi I hs f' h' r'
 clear h h' r r' f f'
 have hu':=hu
 cases s1 with
 | non=>
  cases s2 with
  | non=>simp only [eqD];exact .same _
  | bl b2=>simp only [eqD];exact SeqAt.EqAt.none_bool b2
  | int i2 t2=>simp only [eqD];exact SeqAt.EqAt.none_int i2 t2
  | str i2 t2=>simp only [eqD];exact SeqAt.EqAt.none_str i2 t2
  | tup h2=>simp only [eqD];exact SeqAt.EqAt.none_tuple h2 hu'
  | lst h2=>simp only [eqD];exact SeqAt.EqAt.none_list h2 hu'
 | bl b1=>
  cases s2 with
  | non=>simp only [eqD];exact SeqAt.EqAt.bool_none b1
  | bl b2=>simp only [eqD];exact SeqAt.EqAt.bool_bool b1 b2
  | int i2 t2=>simp only [eqD];exact SeqAt.EqAt.bool_int b1 i2 t2
  | str i2 t2=>simp only [eqD];exact SeqAt.EqAt.bool_str b1 i2 t2
  | tup h2=>simp only [eqD];exact SeqAt.EqAt.bool_tuple b1 h2 hu'
  | lst h2=>simp only [eqD];exact SeqAt.EqAt.bool_list b1 h2 hu'
 | int i1 t1=>
  cases s2 with
  | non=>simp only [eqD];exact SeqAt.EqAt.int_none i1 t1
  | bl b2=>simp only [eqD];exact SeqAt.EqAt.int_bool i1 t1 b2
  | int i2 t2=>simp only [eqD];exact SeqAt.EqAt.int_int i1 t1 i2 t2
  | str i2 t2=>simp only [eqD];exact SeqAt.EqAt.int_str i1 t1 i2 t2
  | tup h2=>simp only [eqD];exact SeqAt.EqAt.int_tuple i1 t1 h2 hu'
  | lst h2=>simp only [eqD];exact SeqAt.EqAt.int_list i1 t1 h2 hu'
 | str i1 t1=>
  cases s2 with
  | non=>simp only [eqD];exact SeqAt.EqAt.str_none i1 t1
  | bl b2=>simp only [eqD];exact SeqAt.EqAt.str_bool i1 t1 b2
  | int i2 t2=>simp only [eqD];exact SeqAt.EqAt.str_int i1 t1 i2 t2
  | str i2 t2=>simp only [eqD];exact SeqAt.EqAt.str_str i1 t1 i2 t2
  | tup h2=>simp only [eqD];exact SeqAt.EqAt.str_tuple i1 t1 h2 hu'
  | lst h2=>simp only [eqD];exact SeqAt.EqAt.str_list i1 t1 h2 hu'
 | tup h1=>
  cases s2 with
  | non=>simp only [eqD];exact SeqAt.EqAt.tuple_none h1 hu'
  | bl b2=>simp only [eqD];exact SeqAt.EqAt.tuple_bool b2 h1 hu'
  | int i2 t2=>simp only [eqD];exact SeqAt.EqAt.tuple_int i2 t2 h1 hu'
  | str i2 t2=>simp only [eqD];exact SeqAt.EqAt.tuple_str i2 t2 h1 hu'
  | tup h2=>exact refs _ _ rfl rfl
  | lst h2=>exact refs _ _ rfl rfl
 | lst h1=>
  cases s2 with
  | non=>simp only [eqD];exact SeqAt.EqAt.list_none h1 hu'
  | bl b2=>simp only [eqD];exact SeqAt.EqAt.list_bool b2 h1 hu'
  | int i2 t2=>simp only [eqD];exact SeqAt.EqAt.list_int i2 t2 h1 hu'
  | str i2 t2=>simp only [eqD];exact SeqAt.EqAt.list_str i2 t2 h1 hu'
  | tup h2=>exact refs _ _ rfl rfl
  | lst h2=>exact refs _ _ rfl rfl
theorem qcx (I:Inv X pins σ H s)(hs:qA5 B H):∀ (n:Nat) (A:Around) (d d':D) (v v':V) (u u':Value),A.units + n < cLine→qA3 n d=true→qA3 n d'=true→IsD X.K B d v→IsD X.K B d' v'→RelV v u→RelV v' u'→RcD A s u u' (eqD d d'):=by
 intro n
 induction n with
 | zero=>
  intro A d d' v v' u u' hu f f' h h' r r'
  have hu':A.units < cLine:=hu
  have s1:=qTi I hs f h r
  have s2:=qTi I hs f' h' r'
  cases s1 with
  | non=>
   cases s2 with
   | non=>simp only [eqD];exact ⟨SeqAt.RcAt.none_none,SeqAt.RcNeAt.none_none⟩
   | bl b2=>simp only [eqD];exact ⟨SeqAt.RcAt.none_bool b2,SeqAt.RcNeAt.none_bool b2⟩
   | int i2 t2=>simp only [eqD];exact ⟨SeqAt.RcAt.none_int i2 t2,SeqAt.RcNeAt.none_int i2 t2⟩
   | str i2 t2=>simp only [eqD];exact ⟨SeqAt.RcAt.none_str i2 t2,SeqAt.RcNeAt.none_str i2 t2⟩
   | tup h2=>simp [qA3] at f'
   | lst h2=>simp [qA3] at f'
  | bl b1=>
   cases s2 with
   | non=>simp only [eqD];exact ⟨SeqAt.RcAt.bool_none b1,SeqAt.RcNeAt.bool_none b1⟩
   | bl b2=>simp only [eqD];exact ⟨SeqAt.RcAt.bool_bool b1 b2,SeqAt.RcNeAt.bool_bool b1 b2⟩
   | int i2 t2=>simp only [eqD];exact ⟨SeqAt.RcAt.bool_int b1 i2 t2,SeqAt.RcNeAt.bool_int b1 i2 t2⟩
   | str i2 t2=>simp only [eqD];exact ⟨SeqAt.RcAt.bool_str b1 i2 t2,SeqAt.RcNeAt.bool_str b1 i2 t2⟩
   | tup h2=>simp [qA3] at f'
   | lst h2=>simp [qA3] at f'
  | int i1 t1=>
   cases s2 with
   | non=>simp only [eqD];exact ⟨SeqAt.RcAt.int_none i1 t1,SeqAt.RcNeAt.int_none i1 t1⟩
   | bl b2=>simp only [eqD];exact ⟨SeqAt.RcAt.int_bool i1 t1 b2,SeqAt.RcNeAt.int_bool i1 t1 b2⟩
   | int i2 t2=>simp only [eqD];exact ⟨SeqAt.RcAt.int_int i1 t1 i2 t2,SeqAt.RcNeAt.int_int i1 t1 i2 t2⟩
   | str i2 t2=>simp only [eqD];exact ⟨SeqAt.RcAt.int_str i1 t1 i2 t2,SeqAt.RcNeAt.int_str i1 t1 i2 t2⟩
   | tup h2=>simp [qA3] at f'
   | lst h2=>simp [qA3] at f'
  | str i1 t1=>
   cases s2 with
   | non=>simp only [eqD];exact ⟨SeqAt.RcAt.str_none i1 t1,SeqAt.RcNeAt.str_none i1 t1⟩
   | bl b2=>simp only [eqD];exact ⟨SeqAt.RcAt.str_bool i1 t1 b2,SeqAt.RcNeAt.str_bool i1 t1 b2⟩
   | int i2 t2=>simp only [eqD];exact ⟨SeqAt.RcAt.str_int i1 t1 i2 t2,SeqAt.RcNeAt.str_int i1 t1 i2 t2⟩
   | str i2 t2=>simp only [eqD];exact ⟨SeqAt.RcAt.str_str i1 t1 i2 t2,SeqAt.RcNeAt.str_str i1 t1 i2 t2⟩
   | tup h2=>simp [qA3] at f'
   | lst h2=>simp [qA3] at f'
  | tup h1=>
   simp [qA3] at f
  | lst h1=>
   simp [qA3] at f
 | succ n ih=>
  intro A d d' v v' u u' hu f f' h h' r r'
  have hu':A.units < cLine:=by omega
  have hin:A.in1.units + n < cLine:=by
   show A.units + 1 + n < cLine
   omega
  have hin':A.in1.units < cLine:=by omega
  have elt:∀ (xs ys:List D) (vs us:List V) (its its2:List Value),fineDs n xs=true→fineDs n ys=true→IsDs X.K B xs vs→IsDs X.K B ys us→qBv vs its→qBv us its2→
    ∀ j (h1:j < its.toArray.size) (h2:j < its2.toArray.size),SeqAt.EqAt A.in1 s its.toArray[j] its2.toArray[j] (eqD (xs.getD j .non) (ys.getD j .non)):=fun xs ys vs us its its2 fx fy hx hy rv ru=>
   qae rv ru hx hy fun i d v u t d' e1 e2 e3 e4 u' e5 e6=>qS4 I hs (qHb fx e1) (qHb fy e6) e2 e4 e3 e5 hin' (ih A.in1 d d' v t u u' hin (qHb fx e1) (qHb fy e6) e2 e4 e3 e5)
  have s1:=qTi I hs f h r
  have s2:=qTi I hs f' h' r'
  have both:(∃ xs,d=.tup xs)→(∃ ys,d'=.tup ys)→RcD A s u u' (eqD d d'):=by
   rintro ⟨xs,rfl⟩ ⟨ys,rfl⟩
   obtain ⟨a,vs,rfl,e2,e3⟩:=h
   obtain ⟨b,us,rfl,e2',e3'⟩:=h'
   cases (show u=Value.ref a from r)
   cases (show u'=Value.ref b from r')
   obtain ⟨its,rv,p,_⟩:=I.tuple (qA5.tp hs e2)
   obtain ⟨its2,ru,p2,_⟩:=I.tuple (qA5.tp hs e2')
   have el:=elt xs ys vs us its its2 (by simpa [qA3] using f) (by simpa [qA3] using f') e3 e3' rv ru
   have l1:=rv.length;have l2:=ru.length;have l3:=e3.len;have l4:=e3'.len
   have ev:((List.range (min its.toArray.size its2.toArray.size)).all (fun j=>eqD (xs.getD j .non) (ys.getD j .non)) && its.toArray.size == its2.toArray.size)=eqD (.tup xs) (.tup ys):=by
    show _=eqDs xs ys
    simp only [List.size_toArray]
    by_cases hl:xs.length=ys.length
    ·rw [qNg xs ys hl]
     have q1:its.length=xs.length:=by omega
     have q2:its2.length=xs.length:=by omega
     rw [q1,q2,Nat.min_self]
     simp
    ·rw [qNf xs ys hl]
     have:(its.length == its2.length)=false:=by
      rw [beq_eq_false_iff_ne];omega
     rw [this,Bool.and_false]
   rw [←ev]
   exact ⟨.tuples p p2 hu' el,.tuples p p2 hu' el⟩
  have bothL:(∃ xs,d=.lst xs)→(∃ ys,d'=.lst ys)→RcD A s u u' (eqD d d'):=by
   rintro ⟨xs,rfl⟩ ⟨ys,rfl⟩
   obtain ⟨a,vs,rfl,e2,e3⟩:=h
   obtain ⟨b,us,rfl,e2',e3'⟩:=h'
   cases (show u=Value.ref a from r)
   cases (show u'=Value.ref b from r')
   obtain ⟨its,rv,p,_⟩:=I.list (hs.seq e2)
   obtain ⟨its2,ru,p2,_⟩:=I.list (hs.seq e2')
   have el:=elt xs ys vs us its its2 (by simpa [qA3] using f) (by simpa [qA3] using f') e3 e3' rv ru
   have l1:=rv.length;have l2:=ru.length;have l3:=e3.len;have l4:=e3'.len
   by_cases hl:xs.length=ys.length
   ·have ev:(List.range its.toArray.size).all (fun j=>eqD (xs.getD j .non) (ys.getD j .non))=eqD (.lst xs) (.lst ys):=by
     show _=eqDs xs ys
     rw [qNg xs ys hl]
     simp only [List.size_toArray]
     rw [show its.length=xs.length by omega]
    rw [←ev]
    exact ⟨.lists p.isList p2.isList (by simp only [List.size_toArray];omega) hu' el,.lists p.isList p2.isList (by simp only [List.size_toArray];omega) hu' el⟩
   ·have ev:eqD (.lst xs) (.lst ys)=false:=qNf xs ys hl
    rw [ev]
    have hne:(its.toArray.size != its2.toArray.size)=true:=by
     simp only [List.size_toArray,bne_iff_ne];omega
    exact ⟨.lists_lengths p.isList p2.isList hne hu',.lists_lengths p.isList p2.isList hne hu'⟩
  clear elt ih
  cases s1 with
  | non=>
   cases s2 with
   | non=>simp only [eqD];exact ⟨SeqAt.RcAt.none_none,SeqAt.RcNeAt.none_none⟩
   | bl b2=>simp only [eqD];exact ⟨SeqAt.RcAt.none_bool b2,SeqAt.RcNeAt.none_bool b2⟩
   | int i2 t2=>simp only [eqD];exact ⟨SeqAt.RcAt.none_int i2 t2,SeqAt.RcNeAt.none_int i2 t2⟩
   | str i2 t2=>simp only [eqD];exact ⟨SeqAt.RcAt.none_str i2 t2,SeqAt.RcNeAt.none_str i2 t2⟩
   | tup h2=>simp only [eqD];exact ⟨SeqAt.RcAt.none_tuple h2 hu',SeqAt.RcNeAt.none_tuple h2 hu'⟩
   | lst h2=>simp only [eqD];exact ⟨SeqAt.RcAt.none_list h2 hu',SeqAt.RcNeAt.none_list h2 hu'⟩
  | bl b1=>
   cases s2 with
   | non=>simp only [eqD];exact ⟨SeqAt.RcAt.bool_none b1,SeqAt.RcNeAt.bool_none b1⟩
   | bl b2=>simp only [eqD];exact ⟨SeqAt.RcAt.bool_bool b1 b2,SeqAt.RcNeAt.bool_bool b1 b2⟩
   | int i2 t2=>simp only [eqD];exact ⟨SeqAt.RcAt.bool_int b1 i2 t2,SeqAt.RcNeAt.bool_int b1 i2 t2⟩
   | str i2 t2=>simp only [eqD];exact ⟨SeqAt.RcAt.bool_str b1 i2 t2,SeqAt.RcNeAt.bool_str b1 i2 t2⟩
   | tup h2=>simp only [eqD];exact ⟨SeqAt.RcAt.bool_tuple b1 h2 hu',SeqAt.RcNeAt.bool_tuple b1 h2 hu'⟩
   | lst h2=>simp only [eqD];exact ⟨SeqAt.RcAt.bool_list b1 h2 hu',SeqAt.RcNeAt.bool_list b1 h2 hu'⟩
  | int i1 t1=>
   cases s2 with
   | non=>simp only [eqD];exact ⟨SeqAt.RcAt.int_none i1 t1,SeqAt.RcNeAt.int_none i1 t1⟩
   | bl b2=>simp only [eqD];exact ⟨SeqAt.RcAt.int_bool i1 t1 b2,SeqAt.RcNeAt.int_bool i1 t1 b2⟩
   | int i2 t2=>simp only [eqD];exact ⟨SeqAt.RcAt.int_int i1 t1 i2 t2,SeqAt.RcNeAt.int_int i1 t1 i2 t2⟩
   | str i2 t2=>simp only [eqD];exact ⟨SeqAt.RcAt.int_str i1 t1 i2 t2,SeqAt.RcNeAt.int_str i1 t1 i2 t2⟩
   | tup h2=>simp only [eqD];exact ⟨SeqAt.RcAt.int_tuple i1 t1 h2 hu',SeqAt.RcNeAt.int_tuple i1 t1 h2 hu'⟩
   | lst h2=>simp only [eqD];exact ⟨SeqAt.RcAt.int_list i1 t1 h2 hu',SeqAt.RcNeAt.int_list i1 t1 h2 hu'⟩
  | str i1 t1=>
   cases s2 with
   | non=>simp only [eqD];exact ⟨SeqAt.RcAt.str_none i1 t1,SeqAt.RcNeAt.str_none i1 t1⟩
   | bl b2=>simp only [eqD];exact ⟨SeqAt.RcAt.str_bool i1 t1 b2,SeqAt.RcNeAt.str_bool i1 t1 b2⟩
   | int i2 t2=>simp only [eqD];exact ⟨SeqAt.RcAt.str_int i1 t1 i2 t2,SeqAt.RcNeAt.str_int i1 t1 i2 t2⟩
   | str i2 t2=>simp only [eqD];exact ⟨SeqAt.RcAt.str_str i1 t1 i2 t2,SeqAt.RcNeAt.str_str i1 t1 i2 t2⟩
   | tup h2=>simp only [eqD];exact ⟨SeqAt.RcAt.str_tuple i1 t1 h2 hu',SeqAt.RcNeAt.str_tuple i1 t1 h2 hu'⟩
   | lst h2=>simp only [eqD];exact ⟨SeqAt.RcAt.str_list i1 t1 h2 hu',SeqAt.RcNeAt.str_list i1 t1 h2 hu'⟩
  | tup h1=>
   cases s2 with
   | non=>simp only [eqD];exact ⟨SeqAt.RcAt.tuple_none h1 hu',SeqAt.RcNeAt.tuple_none h1 hu'⟩
   | bl b2=>simp only [eqD];exact ⟨SeqAt.RcAt.tuple_bool b2 h1 hu',SeqAt.RcNeAt.tuple_bool b2 h1 hu'⟩
   | int i2 t2=>simp only [eqD];exact ⟨SeqAt.RcAt.tuple_int i2 t2 h1 hu',SeqAt.RcNeAt.tuple_int i2 t2 h1 hu'⟩
   | str i2 t2=>simp only [eqD];exact ⟨SeqAt.RcAt.tuple_str i2 t2 h1 hu',SeqAt.RcNeAt.tuple_str i2 t2 h1 hu'⟩
   | tup h2=>exact both ⟨_,rfl⟩ ⟨_,rfl⟩
   | lst h2=>simp only [eqD];exact ⟨SeqAt.RcAt.tuple_list h1 h2 hu',SeqAt.RcNeAt.tuple_list h1 h2 hu'⟩
  | lst h1=>
   cases s2 with
   | non=>simp only [eqD];exact ⟨SeqAt.RcAt.list_none h1 hu',SeqAt.RcNeAt.list_none h1 hu'⟩
   | bl b2=>simp only [eqD];exact ⟨SeqAt.RcAt.list_bool b2 h1 hu',SeqAt.RcNeAt.list_bool b2 h1 hu'⟩
   | int i2 t2=>simp only [eqD];exact ⟨SeqAt.RcAt.list_int i2 t2 h1 hu',SeqAt.RcNeAt.list_int i2 t2 h1 hu'⟩
   | str i2 t2=>simp only [eqD];exact ⟨SeqAt.RcAt.list_str i2 t2 h1 hu',SeqAt.RcNeAt.list_str i2 t2 h1 hu'⟩
   | tup h2=>simp only [eqD];exact ⟨SeqAt.RcAt.list_tuple h1 h2 hu',SeqAt.RcNeAt.list_tuple h1 h2 hu'⟩
   | lst h2=>exact bothL ⟨_,rfl⟩ ⟨_,rfl⟩
theorem eq_at (I:Inv X pins σ H s)(hs:qA5 B H){n:Nat}{A:Around}{d d':D}{v v':V}{u u':Value}(hu:A.units + n < cLine)(f:qA3 n d=true)(f':qA3 n d'=true)(h:IsD X.K B d v)(h':IsD X.K B d' v')(r:RelV v u)(r':RelV v' u') :
  SeqAt.EqAt A s u u' (eqD d d'):=qS4 I hs f f' h h' r r' #[0] (qcx I hs n A d d' v v' u u' hu f f' h h' r r')
end
open PySem PySem.Spec PyProof.Rows L2
def Rdw (K:PySem.W.Frag)(B H:Hp):W→V→Prop
 | .im d,v=>IsD K B d v
 | .li _ ds,v=>∃ a vs,v=.ref a∧Rd H a (.lst vs)∧IsDs K B ds vs
def qQj (K:PySem.W.Frag)(B H:Hp):List W→List V→Prop
 | [],vs=>vs=[]
 | w::ws,vs=>∃ v r,vs=v::r∧Rdw K B H w v∧qQj K B H ws r
section
variable {K:PySem.W.Frag}{B H H0:Hp}
theorem IsW.rd:∀ {w:W} {v:V},IsW K B H0 H w v→Rdw K B H w v
 | .im d,v,h=>h
 | .li false ds,v,h=>h
 | .li true ds,v,h=>by
  obtain ⟨a,vs,e1,e2,e3,e4,e5⟩:=h
  exact ⟨a,vs,e1,Rd.of e4,e5⟩
theorem qNt.rd:∀ {ws:List W} {vs:List V},qNt K B H0 H ws vs→qQj K B H ws vs
 | [],vs,h=>h
 | w::ws,vs,h=>by
  obtain ⟨v,r,e1,e2,e3⟩:=h
  exact ⟨v,r,e1,e2.rd,qNt.rd e3⟩
def W.seq:W→Option (List D)
 | .li _ ds=>some ds
 | .im (.lst ds)=>some ds
 | _=>none
theorem Rdw.seq (hs:qA5 B H){w:W}{v:V}{ds:List D}(h:Rdw K B H w v)(e:w.seq=some ds):∃ a vs,v=.ref a∧SqL K H a vs∧IsDs K B ds vs:=by
 cases w with
 | li f es=>
  cases e
  obtain ⟨a,vs,e1,e2,e3⟩:=h
  exact ⟨a,vs,e1,.inl e2,e3⟩
 | im d=>
  cases d with
  | lst es=>
   cases e
   obtain ⟨a,vs,e1,e2,e3⟩:=h
   exact ⟨a,vs,e1,hs.seq e2,e3⟩
  | _=>cases e
end
def rW (K:PySem.W.Frag)(Ew:XW)(fn:W→W→Rs W):R2:=fun x y H Q=>∃ B w1 w2,qA5 B H∧Rdw K B H w1 x∧Rdw K B H w2 y∧qHi K Ew B H (fn w1 w2) Q
section
variable {X:Cx}{Ew:XW}{a b:Expr}{pos:Pos}{ga gb:qAi→Rs W}
def qAm (fn:W→W→Rs W)(ga gb:qAi→Rs W):qAi→Rs W:=fun δ=>ga δ>>=fun w1=>gb δ>>=fun w2=>fn w1 w2
theorem two {r:R2}{fn:W→W→Rs W}(hr:r=rW X.K Ew fn)(ha:PX X Ew a ga)(hb:PX X Ew b gb):∃ ta tb,PE X a ta∧PE X b tb∧
  ∀ (B0 F0 P B H:Hp) (σ:L2.St) (δ:qAi) (Q:VK),R X.K B0 F0 P B H σ δ→qHi X.K Ew B H (qAm fn ga gb δ) Q→tOp r ta tb σ H Q:=by
 obtain ⟨ta,a1,a2⟩:=ha
 obtain ⟨tb,b1,b2⟩:=hb
 subst hr
 refine ⟨ta,tb,a1,b1,fun B0 F0 P B H σ δ Q r p=>a2 B0 F0 P B H σ δ _ r ((Pst.bind p).mono fun w1 B1 H1 g1 p1 v1 h1=>?_)⟩
 refine b2 B0 F0 P B1 H1 σ δ _ (r.grow g1) ((Pst.bind p1).mono fun w2 B2 H2 g2 p2 v2 h2=>?_)
 exact ⟨B2,w1,w2,g2.bh,(h1.grow g2).rd,h2.rd,Pst.mono p2 fun w B' H' _ q v hw=>q v (hw.older (g1.trans g2).sh)⟩
theorem qBl {op:Operator}{fn:W→W→Rs W}(ho:OpR X (binaryOp op) (rW X.K Ew fn))(ha:PX X Ew a ga)(hb:PX X Ew b gb):PX X Ew (.BinOp a op b pos) (qAm fn ga gb):=by
 obtain ⟨ta,tb,h1,h2,h3⟩:=two rfl ha hb
 exact ⟨_,pe_op ho h1 h2,h3⟩
theorem qCz {op:CmpOp}{fn:W→W→Rs W}(ho:OpR X (compareOp op) (rW X.K Ew fn))(ha:PX X Ew a ga)(hb:PX X Ew b gb)(hm:behindInMarks op b=false):PX X Ew (.Compare a [op] [b] pos) (qAm fn ga gb):=by
 obtain ⟨ta,tb,h1,h2,h3⟩:=two rfl ha hb
 exact ⟨_,qdk ho h1 h2 hm,h3⟩
def W.bool:W→Rs Bool
 | .im (.bl b)=>.ok b
 | _=>.no
theorem qHi.bool {K:PySem.W.Frag}{B H:Hp}{r:Rs W}{Q:Bool→Hp→Prop}(p:qUt Ew B H (r>>=W.bool) Q):qHi K Ew B H r (fun x H'=>∃ k,x=.bl k∧Q k H'):=by
 refine (Pst.bind p).mono fun w B1 H1 g1 p1 v hw=>?_
 cases w with
 | im d=>
  cases d with
  | bl b=>exact ⟨b,hw,p1 B1 H1 #[44]⟩
  | _=>exact False.elim p1
 | li f ds=>exact False.elim p1
theorem qAy {op:CmpOp}{fn:W→W→Rs W}(ho:OpR X (compareOp op) (rW X.K Ew fn))(ha:PX X Ew a ga)(hb:PX X Ew b gb)(hm:behindInMarks op b=false) :
  PXt X Ew (.Compare a [op] [b] pos) (fun δ=>qAm fn ga gb δ>>=W.bool):=by
 obtain ⟨ta,tb,h1,h2,h3⟩:=two (Ew:=Ew) rfl ha hb
 exact ⟨_,qc9 ho h1 h2 hm,fun B0 F0 P B H σ δ Q r p=>h3 B0 F0 P B H σ δ _ r (qHi.bool p)⟩
def qCr:W→W→Rs W
 | .im (.int i),.im (.int j)=>.ok (.im (.int (i + j)))
 | .im (.str x),.im (.str y)=>if x.length + y.length≤lim then .ok (.im (.str (x++y))) else .no
 | .im (.tup xs),.im (.tup ys)=>if xs.length + ys.length≤lim then .ok (.im (.tup (xs++ys))) else .no
 | .li _ xs,.li _ ys=>if xs.length + ys.length≤lim then .ok (.li true (xs++ys)) else .no
 | _,_=>.no
theorem lstR {pins:List #[10]}{σ:L2.St}{H:Hp}{s:Shared}{l:Addr}{xs:List V}(I:Inv X pins σ H s)(h:Rd H l (.lst xs)) :
  xs.length≤sizeLine∧∃ (its:List Value) (n:Nat),qBv xs its∧xs.length=its.length∧s.heap.get? l=some { cls:=.type "list",data:=.seq its.toArray n }:=by
 obtain ⟨z,its,n,r,e⟩:=h.ok I.hok
 exact ⟨z,its,n,r,r.length,e⟩
theorem qa1 {prog:Program}{w:World}{A:Around}{E:Value→Shared→Prop}{s:Shared}{t b:Addr}{vs ws:List Value}{Q:Value→Shared→Prop}(ht:IsTup s.heap t vs.toArray)(hb:IsTup s.heap b ws.toArray)(hv:vs=[])(h1:Q (.ref b) s) :
  wpAny #[22] A (binaryOp .Add (.ref t) (.ref b)) Q E s:=by
 obtain ⟨⟨cls,dd,data,sl⟩,ho,hc,n,hd⟩:=id ht
 obtain ⟨⟨cls2,dd2,data2,sl2⟩,ho2,hc2,n2,hd2⟩:=id hb
 simp only at hc hd hc2 hd2
 subst hc hd hc2 hd2
 exact concat_meets ⟨_,ho,rfl⟩ ⟨_,ho2,rfl⟩ noFill_tuple_add seq_tuple_add PySem.F.slot_tuple_add PySem.F.entry_tuple_add (PySem.F.args_tuple_add_2 _ _)
   (tuple_addW0 t b vs.toArray ws.toArray n n2 dd dd2 sl sl2 (by simp [hv])) ⟨ho,ho2,h1⟩
theorem qA4:OpR X (binaryOp .Add) (rW X.K Ew qCr):=by
 intro pins s σ H x y v u Q I rx ry ⟨B,w1,w2,hs,h1,h2,p⟩
 unfold qCr at p
 split at p
 ·exact op_add pins s σ H x y v u Q I rx ry ⟨_,_,h1,h2,p B H #[26] _ rfl⟩
 ·rename_i i j
  by_cases hl:i.length + j.length≤lim
  ·rw [if_pos hl] at p
   exact qT2 pins s σ H x y v u Q I rx ry ⟨i,j,h1,h2,by rw [qDg];exact hl,p B H #[26] _ rfl⟩
  ·rw [if_neg hl] at p
   exact p.elim
 ·rename_i xs ys
  split at p
  ·rename_i hl
   obtain ⟨a,vs,rfl,e2,e3⟩:=h1
   obtain ⟨b,us,rfl,e2',e3'⟩:=h2
   have l1:=e3.len;have l2:=e3'.len
   by_cases hne:vs=[]
   ·subst hne
    have hx:xs=[]:=by cases xs with | nil=>rfl | cons _ _=>simp at l1
    subst hx
    cases rx
    cases ry
    obtain ⟨its,r1,p1,_⟩:=I.tuple (qA5.tp hs e2)
    obtain ⟨its2,r2,p2,_⟩:=I.tuple (qA5.tp hs e2')
    exact qa1 p1 p2 (r1.nil_iff.mpr rfl) ⟨.ref b,H,I,rfl,p B H #[26] _ ⟨b,us,rfl,e2',e3'⟩⟩
   refine qdn pins s σ H _ _ v u Q I rx ry ⟨a,b,vs,us,rfl,rfl,qA5.tp hs e2,qA5.tp hs e2',hne,by rw [qDg];omega,fun e=>?_,fun e q hq=>?_⟩
   ·subst e
    have:ys=[]:=by cases ys with | nil=>rfl | cons _ _=>simp at l2
    subst this
    exact p B H #[26] _ ⟨a,vs,rfl,e2,by rw [List.append_nil];exact e3⟩
   ·have sm:qA5 B (upd B q (.tup (vs++us))):=fun b u z=>by rw [qAr (qAn z (hs.free hq))];exact z
    exact p _ _ (Grow.newB hs hq) _ ⟨q,vs++us,rfl,qAu,IsDs.mono sm _ _ (e3.app e3')⟩
  ·exact p.elim
 ·rename_i f1 xs f2 ys
  split at p
  ·rename_i hl
   obtain ⟨a,vs,rfl,e2,e3⟩:=h1
   obtain ⟨b,us,rfl,e2',e3'⟩:=h2
   have l1:=e3.len;have l2:=e3'.len
   cases rx
   cases ry
   obtain ⟨z,its,n,r,hl1,e⟩:=lstR I e2
   obtain ⟨z2,its2,n2,r2,hl2,e'⟩:=lstR I e2'
   have hlim:sizeLine=lim:=qDg
   refine PySem.P.add_list e e' ?_ (by rw [List.size_toArray,List.size_toArray];omega)
   have ea:its.toArray++its2.toArray=(its++its2).toArray:=by simp
   rw [ea]
   refine ⟨.ref _,_,I.lnew (t':=s.toks) (r.append r2) (by rw [List.length_append];omega),rfl,?_⟩
   exact p B _ (Grow.new hs I.fresh (hs.free I.fresh)) _ ⟨_,vs++us,rfl,I.fresh,hs.free I.fresh,qAu,e3.app e3'⟩
  ·exact p.elim
 ·exact p.elim
def qbe:W→W→Rs W
 | .im (.int i),.im (.int j)=>.ok (.im (.int (i - j)))
 | _,_=>.no
theorem qMz:OpR X (binaryOp .Sub) (rW X.K Ew qbe):=by
 intro pins s σ H x y v u Q I rx ry ⟨B,w1,w2,hs,h1,h2,p⟩
 unfold qbe at p
 split at p
 ·exact op_sub pins s σ H x y v u Q I rx ry ⟨_,_,h1,h2,p B H #[26] _ rfl⟩
 ·exact p.elim
theorem IsDs.rep {K:PySem.W.Frag}{B:Hp}{ds:List D}{vs:List V}(h:IsDs K B ds vs):∀ n,IsDs K B (List.replicate n ds).flatten (List.replicate n vs).flatten
 | 0=>rfl
 | n + 1=>by rw [List.replicate_succ,List.replicate_succ,List.flatten_cons,List.flatten_cons];exact h.app (IsDs.rep h n)
theorem qMe {vs:List V}{us:List Value}(h:qBv vs us):∀ n,qBv (List.replicate n vs).flatten (List.replicate n us).flatten
 | 0=>.nil
 | n + 1=>by rw [List.replicate_succ,List.replicate_succ,List.flatten_cons,List.flatten_cons];exact h.append (qMe h n)
theorem qVq {α:Type}(n:Nat)(xs:List α):(List.replicate n xs).flatten.length=n * xs.length:=by simp
def qSn:W→W→Rs W
 | .im (.int i),.im (.int j)=>if (-(2 ^ 64) < i∧i < 2 ^ 64)∨(-(2 ^ 64) < j∧j < 2 ^ 64) then .ok (.im (.int (i * j))) else .no
 | .im (.tup xs),.im (.int j)=>if 2≤j∧j < 1000∧xs.isEmpty=false∧xs.length < 1000 then .ok (.im (.tup (List.replicate j.toNat xs).flatten)) else .no
 | .li _ xs,.im (.int j)=>if 2≤j∧j < 1000∧xs.isEmpty=false∧xs.length < 1000 then .ok (.li true (List.replicate j.toNat xs).flatten) else .no
 | _,_=>.no
theorem qD3:OpR X (binaryOp .Mult) (rW X.K Ew qSn):=by
 intro pins s σ H x y v u Q I rx ry ⟨B,w1,w2,hs,h1,h2,p⟩
 unfold qSn at p
 have hlim:sizeLine=lim:=qDg
 split at p
 ·split at p
  ·rename_i hc
   exact op_mul pins s σ H x y v u Q I rx ry ⟨_,_,h1,h2,hc,p B H #[26] _ rfl⟩
  ·exact p.elim
 ·rename_i xs j
  split at p
  ·rename_i hc
   obtain ⟨c1,c2,c3,c4⟩:=hc
   obtain ⟨a,vs,rfl,e2,e3⟩:=h1
   cases (show y=.int j from h2)
   cases rx
   obtain ⟨t,rfl⟩:=(show ∃ t,u=Value.int j t from ry)
   obtain ⟨its,r,pt,hz⟩:=I.tuple (qA5.tp hs e2)
   have l1:=e3.len;have l2:=r.length
   have hm:j.toNat * vs.length≤1000 * 1000:=Nat.mul_le_mul #[0] #[0]
   have hq:((List.replicate j.toNat vs).flatten).length≤sizeLine:=by rw [qVq,hlim];show _≤16777216;omega
   refine qT4 pt c1 c2 ?_ #[0] ?_
   ·intro z
    rw [z,List.length_nil] at l2
    cases xs with
    | nil=>cases c3
    | cons _ _=>rw [List.length_cons] at l1;omega
   have hf:=I.fresh
   have sm:qA5 B (upd B s.heap.objs.size (.tup (List.replicate j.toNat vs).flatten)):=fun b u z=>by rw [qAr (qAn z (hs.free hf))];exact z
   exact ⟨.ref s.heap.objs.size,_,I.laid (t':=s.toks) (o:=.tup (List.replicate j.toNat vs).flatten) (fun b ob q=>Heap.get?_push_of_some _ q) #[8] ⟨hq,_,qMe r _,IsTup.new _ _⟩,rfl,p _ _ (Grow.newB hs hf) _ ⟨_,_,rfl,qAu,IsDs.mono sm _ _ (e3.rep _)⟩⟩
  ·exact p.elim
 ·rename_i f xs j
  split at p
  ·rename_i hc
   obtain ⟨c1,c2,c3,c4⟩:=hc
   obtain ⟨a,vs,rfl,e2,e3⟩:=h1
   cases (show y=.int j from h2)
   cases rx
   obtain ⟨t,rfl⟩:=(show ∃ t,u=Value.int j t from ry)
   obtain ⟨z,its,n,r,hl1,e⟩:=lstR I e2
   have l1:=e3.len;have l2:=r.length
   have hm:j.toNat * vs.length≤1000 * 1000:=Nat.mul_le_mul #[0] #[0]
   have hq:((List.replicate j.toNat vs).flatten).length≤sizeLine:=by rw [qVq,hlim];show _≤16777216;omega
   refine qWk e c1 c2 ?_ #[0] ?_
   ·intro z
    rw [z,List.length_nil] at l2
    cases xs with
    | nil=>cases c3
    | cons _ _=>rw [List.length_cons] at l1;omega
   exact ⟨.ref _,_,I.lnew (t':=s.toks) (qMe r _) hq,rfl,p B _ (Grow.new hs I.fresh (hs.free I.fresh)) _ ⟨_,_,rfl,I.fresh,hs.free I.fresh,qAu,e3.rep _⟩⟩
  ·exact p.elim
 ·exact p.elim
def qdq:W→W→Rs W
 | .im (.int i),.im (.int j)=>if 0 < j then .ok (.im (.int (i % j))) else .no
 | _,_=>.no
theorem qM0:OpR X (binaryOp .Mod) (rW X.K Ew qdq):=by
 intro pins s σ H x y v u Q I rx ry ⟨B,w1,w2,hs,h1,h2,p⟩
 unfold qdq at p
 split at p
 ·split at p
  ·rename_i hc
   exact op_mod pins s σ H x y v u Q I rx ry ⟨_,_,h1,h2,hc,p B H #[26] _ rfl⟩
  ·exact p.elim
 ·exact p.elim
def ltW:W→W→Rs W
 | .im (.int i),.im (.int j)=>.ok (.im (.bl (decide (i < j))))
 | _,_=>.no
def leW:W→W→Rs W
 | .im (.int i),.im (.int j)=>.ok (.im (.bl (decide (i≤j))))
 | _,_=>.no
def gtW:W→W→Rs W
 | .im (.int i),.im (.int j)=>.ok (.im (.bl (decide (j < i))))
 | _,_=>.no
def geW:W→W→Rs W
 | .im (.int i),.im (.int j)=>.ok (.im (.bl (decide (j≤i))))
 | _,_=>.no
theorem qJz:OpR X (compareOp .Lt) (rW X.K Ew ltW):=by
 intro pins s σ H x y v u Q I rx ry ⟨B,w1,w2,hs,h1,h2,p⟩
 unfold ltW at p
 split at p
 ·exact op_lt pins s σ H x y v u Q I rx ry ⟨_,_,h1,h2,p B H #[26] _ rfl⟩
 ·exact p.elim
theorem qLn:OpR X (compareOp .LtE) (rW X.K Ew leW):=by
 intro pins s σ H x y v u Q I rx ry ⟨B,w1,w2,hs,h1,h2,p⟩
 unfold leW at p
 split at p
 ·exact op_le pins s σ H x y v u Q I rx ry ⟨_,_,h1,h2,p B H #[26] _ rfl⟩
 ·exact p.elim
theorem qOx:OpR X (compareOp .Gt) (rW X.K Ew gtW):=by
 intro pins s σ H x y v u Q I rx ry ⟨B,w1,w2,hs,h1,h2,p⟩
 unfold gtW at p
 split at p
 ·exact op_gt pins s σ H x y v u Q I rx ry ⟨_,_,h1,h2,p B H #[26] _ rfl⟩
 ·exact p.elim
def isW:W→W→Rs W
 | .im .non,.im .non=>.ok (.im (.bl true))
 | _,.im .non=>.ok (.im (.bl false))
 | _,_=>.no
def qC3:W→W→Rs W
 | .im .non,.im .non=>.ok (.im (.bl false))
 | _,.im .non=>.ok (.im (.bl true))
 | _,_=>.no
theorem Rdw.nn {K:PySem.W.Frag}{B H:Hp}{w:W}(h:Rdw K B H w .non):w=.im .non:=by
 cases w with
 | li f ds=>obtain ⟨a,vs,e,_⟩:=h;cases e
 | im d=>
  cases d with
  | non=>rfl
  | tup _=>obtain ⟨a,vs,e,_⟩:=h;cases e
  | lst _=>obtain ⟨a,vs,e,_⟩:=h;cases e
  | clo _ _ _=>obtain ⟨e,_⟩:=h;cases e
  | _=>cases h
theorem qIf:OpR X (compareOp .Is) (rW X.K Ew isW):=by
 intro pins s σ H x y v u Q I rx ry ⟨B,w1,w2,hs,h1,h2,p⟩
 unfold isW at p
 split at p
 ·cases (show x=.non from h1)
  exact qbp pins s σ H _ _ v u Q I rx ry ⟨h2,by simpa using p B H #[26] _ rfl⟩
 ·rename_i hne
  have hx:x≠.non:=fun e=>by subst e;exact hne h1.nn
  refine qbp pins s σ H _ _ v u Q I rx ry ⟨h2,?_⟩
  rw [decide_eq_false hx]
  exact p B H #[26] _ rfl
 ·exact p.elim
theorem qCm:OpR X (compareOp .IsNot) (rW X.K Ew qC3):=by
 intro pins s σ H x y v u Q I rx ry ⟨B,w1,w2,hs,h1,h2,p⟩
 unfold qC3 at p
 split at p
 ·cases (show x=.non from h1)
  exact qWd pins s σ H _ _ v u Q I rx ry ⟨h2,by simpa using p B H #[26] _ rfl⟩
 ·rename_i hne
  have hx:x≠.non:=fun e=>by subst e;exact hne h1.nn
  refine qWd pins s σ H _ _ v u Q I rx ry ⟨h2,?_⟩
  rw [decide_eq_false hx]
  exact p B H #[26] _ rfl
 ·exact p.elim
end
open PySem PySem.Spec PyProof.Rows L2
section
variable {X:Cx}{Ew:XW}{a b:Expr}{pos:Pos}{ga gb:qAi→Rs W}
def W.dat:W→D
 | .im d=>d
 | .li _ ds=>.lst ds
theorem Rdw.dat {K:PySem.W.Frag}{B H:Hp}(hs:qA5 B H){w:W}{v:V}(h:Rdw K B H w v):IsD K H w.dat v:=by
 cases w with
 | im d=>exact IsD.mono hs d v h
 | li f ds=>
  obtain ⟨a,vs,e1,e2,e3⟩:=h
  exact ⟨a,vs,e1,.inl e2,IsDs.mono hs ds vs e3⟩
def eqW (w1 w2:W):Rs W:=if qA3 50 w1.dat=true∧qA3 50 w2.dat=true then .ok (.im (.bl (eqD w1.dat w2.dat))) else .no
def neW (w1 w2:W):Rs W:=if qA3 50 w1.dat=true∧qA3 50 w2.dat=true then .ok (.im (.bl (!eqD w1.dat w2.dat))) else .no
theorem qCg (hu:X.A.units + 50 < cLine):OpR X (compareOp .Eq) (rW X.K Ew eqW):=by
 intro pins s σ H x y v u Q I rx ry ⟨B,w1,w2,hs,h1,h2,p⟩
 unfold eqW at p
 split at p
 ·rename_i hc
  exact (qcx I (qA5.refl H) 50 X.A w1.dat w2.dat x y v u hu hc.1 hc.2 (h1.dat hs) (h2.dat hs) rx ry).1 X.prog X.w X.xe _ ⟨.bl _,H,I,rfl,p B H #[26] _ rfl⟩
 ·exact p.elim
theorem qLm (hu:X.A.units + 50 < cLine):OpR X (compareOp .NotEq) (rW X.K Ew neW):=by
 intro pins s σ H x y v u Q I rx ry ⟨B,w1,w2,hs,h1,h2,p⟩
 unfold neW at p
 split at p
 ·rename_i hc
  exact (qcx I (qA5.refl H) 50 X.A w1.dat w2.dat x y v u hu hc.1 hc.2 (h1.dat hs) (h2.dat hs) rx ry).2 X.prog X.w X.xe _ ⟨.bl _,H,I,rfl,p B H #[26] _ rfl⟩
 ·exact p.elim
def qI3 (K:PySem.W.Frag)(H:Hp)(d:D)(u:Value):Bool:=
 open Classical in if h:∃ d' v,qA3 50 d'=true∧IsD K H d' v∧RelV v u then eqD h.choose d else false
theorem qRs {pins:List #[10]}{σ:L2.St}{H:Hp}{s:Shared}(I:Inv X pins σ H s){d d':D}{v:V}{u:Value}(f:qA3 50 d'=true)(h:IsD X.K H d' v)(r:RelV v u):qI3 X.K H d u=eqD d' d:=by
 have ex:∃ d' v,qA3 50 d'=true∧IsD X.K H d' v∧RelV v u:=⟨d',v,f,h,r⟩
 unfold qI3
 rw [dif_pos ex]
 obtain ⟨v',f',h',r'⟩:=ex.choose_spec
 have ev:v'=v:=RelV.inj r' r
 subst ev
 rw [IsD.inj I (qA5.refl H) 50 _ d' _ f' f h' h]
def qNs (d:D)(ds:List D):Bool:=ds.any fun d'=>eqD d' d
theorem qKs {pins:List #[10]}{σ:L2.St}{H:Hp}{s:Shared}(I:Inv X pins σ H s){d:D}:∀ {ds:List D} {vs:List V} {us:List Value},IsDs X.K H ds vs→qBv vs us→fineDs 50 ds=true→us.any (qI3 X.K H d)=qNs d ds
 | [],vs,us,h,r,f=>by cases #[56];cases r;rfl
 | d'::ds,vs,us,h,r,f=>by
  obtain ⟨v,rr,rfl,e2,e3⟩:=h
  cases r with
  | cons r1 r2=>
   simp only [fineDs,Bool.and_eq_true] at f
   have ih:=qKs I (d:=d) e3 r2 f.2
   unfold qNs at ih ⊢
   rw [List.any_cons,List.any_cons,qRs I f.1 e2 r1,ih]
theorem qHw {pins:List #[10]}{σ:L2.St}{H:Hp}{s:Shared}(I:Inv X pins σ H s){A:Around}(hu:A.units + 50 < cLine){d:D}{x:V}{v:Value}(f:qA3 50 d=true)(hx:IsD X.K H d x)(rx:RelV x v) :
  ∀ {ds:List D} {vs:List V} {us:List Value},IsDs X.K H ds vs→qBv vs us→fineDs 50 ds=true→∀ u∈us,SeqAt.EqAt A s u v (qI3 X.K H d u)
 | [],vs,us,h,r,_=>fun u hm=>by cases #[56];cases r;cases hm
 | d'::ds,vs,us,h,r,fs=>fun u hm=>by
  obtain ⟨w,rr,rfl,e2,e3⟩:=h
  cases r with
  | cons r1 r2=>
   simp only [fineDs,Bool.and_eq_true] at fs
   rcases List.mem_cons.mp hm with rfl | hm
   ·rw [qRs I fs.1 e2 r1]
    exact eq_at I (qA5.refl H) hu fs.1 f e2 hx r1 rx
   ·exact qHw I hu f hx rx e3 r2 fs.2 u hm
def qd1 (x y:Str):Bool:=!(Builtin.Str.occurrences y x 0 y.length 1).isEmpty
def W.items:W→Option (Bool×List D)
 | .li _ ds=>some (true,ds)
 | .im (.lst ds)=>some (true,ds)
 | .im (.tup ds)=>some (false,ds)
 | _=>none
theorem Rdw.items {K:PySem.W.Frag}{B H:Hp}(hs:qA5 B H){w:W}{v:V}{ds:List D}{k:Bool}(h:Rdw K B H w v)(e:w.items=some (k,ds)) :
  ∃ a vs,v=.ref a∧(if k=true then SqL K H a vs else SqT K H a vs)∧IsDs K B ds vs:=by
 cases w with
 | li f es=>
  cases e
  obtain ⟨a,vs,e1,e2,e3⟩:=h
  exact ⟨a,vs,e1,.inl e2,e3⟩
 | im d=>
  cases d with
  | lst es=>
   cases e
   obtain ⟨a,vs,e1,e2,e3⟩:=h
   exact ⟨a,vs,e1,hs.seq e2,e3⟩
  | tup es=>
   cases e
   obtain ⟨a,vs,e1,e2,e3⟩:=h
   exact ⟨a,vs,e1,qA5.tp hs e2,e3⟩
  | _=>cases e
def inW (w1 w2:W):Rs W:=match w2.items with
 | some (_,ds)=>if qA3 50 w1.dat=true∧fineDs 50 ds=true then .ok (.im (.bl (qNs w1.dat ds))) else .no
 | none=>match w1,w2 with
  | .im (.str x),.im (.str y)=>.ok (.im (.bl (qd1 x y)))
  | _,_=>.no
def qE4 (w1 w2:W):Rs W:=match w2.items with
 | some (_,ds)=>if qA3 50 w1.dat=true∧fineDs 50 ds=true then .ok (.im (.bl (!qNs w1.dat ds))) else .no
 | none=>match w1,w2 with
  | .im (.str x),.im (.str y)=>.ok (.im (.bl (!qd1 x y)))
  | _,_=>.no
theorem qIg (hu:X.A.units + 51 < cLine):OpR X (compareOp .In) (rW X.K Ew inW):=by
 intro pins s σ H x y v u Q I rx ry ⟨B,w1,w2,hs,h1,h2,p⟩
 unfold inW at p
 have hu1:X.A.in1.units + 50 < cLine:=by show X.A.units + 1 + 50 < cLine;omega
 split at p
 ·rename_i k ds ek
  split at p
  ·rename_i hc
   obtain ⟨c,vs,rfl,e2,e3⟩:=h2.items hs ek
   cases ry
   have e3':IsDs X.K H ds vs:=IsDs.mono hs ds vs e3
   cases k with
   | true=>
    obtain ⟨its,r,pl,hz⟩:=I.list (show SqL X.K H c vs from e2)
    refine SeqAt.in_listAt (qI3 X.K H w1.dat) pl.isList #[107] ?_
    have:its.toArray.any (qI3 X.K H w1.dat)=qNs w1.dat ds:=by rw [List.any_toArray];exact qKs I e3' r hc.2
    rw [this]
    exact ⟨.bl _,H,I,rfl,p B H #[26] _ rfl⟩
   | false=>
    obtain ⟨its,r,pl,hz⟩:=I.tuple (show SqT X.K H c vs from e2)
    refine SeqAt.in_tupleAt (qI3 X.K H w1.dat) pl #[107] ?_
    have:its.toArray.any (qI3 X.K H w1.dat)=qNs w1.dat ds:=by rw [List.any_toArray];exact qKs I e3' r hc.2
    rw [this]
    exact ⟨.bl _,H,I,rfl,p B H #[26] _ rfl⟩
  ·exact p.elim
 ·split at p
  ·exact qWe pins s σ H x y v u Q I rx ry ⟨_,_,h1,h2,p B H #[26] _ rfl⟩
  ·exact p.elim
theorem qJy (hu:X.A.units + 51 < cLine):OpR X (compareOp .NotIn) (rW X.K Ew qE4):=by
 intro pins s σ H x y v u Q I rx ry ⟨B,w1,w2,hs,h1,h2,p⟩
 unfold qE4 at p
 have hu1:X.A.in1.units + 50 < cLine:=by show X.A.units + 1 + 50 < cLine;omega
 split at p
 ·rename_i k ds ek
  split at p
  ·rename_i hc
   obtain ⟨c,vs,rfl,e2,e3⟩:=h2.items hs ek
   cases ry
   have e3':IsDs X.K H ds vs:=IsDs.mono hs ds vs e3
   cases k with
   | true=>
    obtain ⟨its,r,pl,hz⟩:=I.list (show SqL X.K H c vs from e2)
    refine SeqAt.notIn_listAt (qI3 X.K H w1.dat) pl.isList #[107] ?_
    have:its.toArray.any (qI3 X.K H w1.dat)=qNs w1.dat ds:=by rw [List.any_toArray];exact qKs I e3' r hc.2
    rw [this]
    exact ⟨.bl _,H,I,rfl,p B H #[26] _ rfl⟩
   | false=>
    obtain ⟨its,r,pl,hz⟩:=I.tuple (show SqT X.K H c vs from e2)
    refine SeqAt.notIn_tupleAt (qI3 X.K H w1.dat) pl #[107] ?_
    have:its.toArray.any (qI3 X.K H w1.dat)=qNs w1.dat ds:=by rw [List.any_toArray];exact qKs I e3' r hc.2
    rw [this]
    exact ⟨.bl _,H,I,rfl,p B H #[26] _ rfl⟩
  ·exact p.elim
 ·split at p
  ·exact qOy pins s σ H x y v u Q I rx ry ⟨_,_,h1,h2,p B H #[26] _ rfl⟩
  ·exact p.elim
def ixW:W→W→Rs W
 | w,.im (.int i)=>match w.items with
  | some (_,ds)=>match atI ds i with
   | some d=>.ok (.im d)
   | none=>.no
  | none=>match w with
   | .im (.str z)=>if z.length≤lim then (match atI z.cps.toList i with | some c=>.ok (.im (.str ⟨#[c]⟩)) | none=>.no) else .no
   | _=>.no
 | _,_=>.no
theorem atI_is {K:PySem.W.Frag}{B:Hp}{ds:List D}{vs:List V}{i:Int}{d:D}(h:IsDs K B ds vs)(e:atI ds i=some d):∃ v,atI vs i=some v∧IsD K B d v:=by
 unfold atI at e ⊢
 rw [←h.len]
 cases q:ixN ds.length i with
 | none=>rw [q] at e;cases e
 | some j=>
  rw [q] at e
  obtain ⟨v,h1,h2⟩:=h.get (show ds[j]?=some d from e)
  exact ⟨v,h1,h2⟩
theorem ixw:IxR X (rW X.K Ew ixW):=by
 intro value slice pins s σ H x y v u Q I rx ry ⟨B,w1,w2,hs,h1,h2,p⟩ hsub
 unfold ixW at p
 split at p
 ·rename_i w i
  split at p
  ·rename_i k ds ek
   split at p
   ·rename_i d ed
    obtain ⟨c,vs,rfl,e2,e3⟩:=h1.items hs ek
    obtain ⟨z,ez,iz⟩:=atI_is e3 ed
    have q:=p B H #[26] z iz
    cases k with
    | true=>exact qdv value slice pins s σ H _ y v u Q I rx ry ⟨c,vs,i,z,rfl,h2,e2,ez,q⟩ hsub
    | false=>exact ix_tup value slice pins s σ H _ y v u Q I rx ry ⟨c,vs,i,z,rfl,h2,e2,ez,q⟩ hsub
   ·exact p.elim
  ·split at p
   ·split at p
    ·rename_i hl
     split at p
     ·rename_i c ec
      exact ix_str value slice pins s σ H _ y v u Q I rx ry ⟨_,i,c,h1,h2,by rw [qDg];exact hl,ec,p B H #[26] _ rfl⟩ hsub
     ·exact p.elim
    ·exact p.elim
   ·exact p.elim
 ·exact p.elim
theorem qA7 (ha:PX X Ew a ga)(hb:PX X Ew b gb)(hs:qYd b):PX X Ew (.Subscript a b pos) (qAm ixW ga gb):=by
 obtain ⟨ta,tb,h1,h2,h3⟩:=two rfl ha hb
 exact ⟨_,pe_ix ixw h1 h2 hs,h3⟩
end
end PD
namespace HT
open PySem PyProof.Rows
section
variable {prog:Program}{w:World}{A:Around}{E:Value→Shared→Prop}{s:Shared}
theorem getItem_tuple_whole {t sl:Addr}{items:Array Value}{vl vu:Value}{lo hi:Option Int}{Q:Value→Shared→Prop}(ht:IsTup s.heap t items)(hs:s.heap.IsSliceOf sl vl vu .none)(pl:IsPart vl lo)(pu:IsPart vu hi)
  (hw:sIx items.size 0 lo=0∧sIx items.size items.size hi=items.size) (h:Q (.ref t) s):wpAny #[22] A (getItem (.ref t) (.ref sl)) Q E s:=by
 obtain ⟨os,hos,hcs,hds⟩:=id hs
 have hTs:s.TypeIs (.ref sl) "slice":=⟨os,hos,hcs⟩
 unfold getItem
 try with_reducible refine wpAny_holding ?_
 first | refine wpAny_bind (wpAny_pure ?_) | skip
 refine wpAny_bind (wpAny_sequenceKey ht.typeIs #[5] ?_)
 refine wpAny_bind (wpAny_callSpecial?_slot (name:=Str.ofString "__getitem__") ht.typeIs PyProof.Rows.slot_tuple_getitem
  (wpAny_call_entry PyProof.Rows.slot_tuple_getitem ht.typeIs entry_tuple_getitem ?_ (args_tuple_getitem _ _)))
 show wpAny _ _ (Builtin.Tuple.tupleItemsOf (.ref t)>>=_) _ _ s
 refine wpAny_bind (tupleItemsOf_ ht ?_)
 refine wpAny_bind (wpAny_typeOf hTs ?_)
 rw [if_pos #[5]]
 refine wpAny_bind (qEp hs pl pu ?_)
 have hyes:#[101]=true:=by
  rw [hw.1,hw.2]
  simp
 show wpAny _ _ (if #[101]=true then _ else _) _ _ s
 rw [if_pos hyes]
 refine wpAny_bind (m:=Builtin.Tuple.tupleIsExact _) ?_
 unfold Builtin.Tuple.tupleIsExact
 refine wpAny_bind (wpAny_typeOf ht.typeIs (wpAny_pure ?_))
 rw [if_pos #[5]]
 exact wpAny_bind (wpAny_rule (wpAny_pure ⟨_,rfl,wpAny_pure h⟩))
end
end HT
namespace PD
open PySem PySem.Spec PyProof.Rows L2
section
variable {X:Cx}{Ew:XW}{e a b c:Expr}{es:List Expr}{pos p2:Pos}{g ga gb gc:qAi→Rs W}
def cut {α:Type}(xs:List α)(lo hi:Option Int):List α:=(xs.drop (HT.sIx xs.length 0 lo)).take (HT.sIx xs.length xs.length hi - HT.sIx xs.length 0 lo)
theorem IsDs.cut {K:PySem.W.Frag}{B:Hp}{ds:List D}{vs:List V}(h:IsDs K B ds vs)(lo hi:Option Int):IsDs K B (cut ds lo hi) (qUl vs lo hi):=by
 unfold PD.cut qUl
 rw [h.len]
 exact (h.drop _).take _
def slW (w:W)(lo hi:Option Int):Rs W:=match w.items with
 | some (true,ds)=>.ok (.li true (cut ds lo hi))
 | some (false,ds)=>.ok (.im (.tup (cut ds lo hi)))
 | none=>.no
def rSl (K:PySem.W.Frag)(Ew:XW):V→Option Int→Option Int→Hp→VK→Prop:=fun x lo hi H Q=>∃ B w,qA5 B H∧Rdw K B H w x∧qHi K Ew B H (slW w lo hi) Q
theorem slw:SlR X (rSl X.K Ew):=by
 intro pins s σ H x v vl vu lo hi sl Q I rx hsl pl pu ⟨B,w,hs,h,p⟩
 unfold slW at p
 split at p
 ·rename_i ds ek
  obtain ⟨c,vs,rfl,e2,e3⟩:=h.items hs ek
  refine qcq pins s σ H _ v vl vu lo hi sl Q I rx hsl pl pu ⟨c,vs,rfl,e2,fun q hq=>?_⟩
  exact p B _ (Grow.new hs hq (hs.free hq)) _ ⟨q,qUl vs lo hi,rfl,hq,hs.free hq,qAu,e3.cut lo hi⟩
 ·rename_i ds ek
  obtain ⟨c,vs,rfl,e2,e3⟩:=h.items hs ek
  have e2':SqT X.K H c vs:=e2
  by_cases hw:HT.sIx vs.length 0 lo=0∧HT.sIx vs.length vs.length hi=vs.length
  ·cases rx
   obtain ⟨its,r,ht,hz⟩:=I.tuple e2'
   have hlen:its.toArray.size=vs.length:=by rw [List.size_toArray];exact r.length.symm
   refine ⟨"tuple",_,PyProof.Rows.slot_tuple_getitem.lookup,ht.typeIs,?_⟩
   refine HT.getItem_tuple_whole ht hsl pl pu (by rw [hlen];exact hw) ⟨.ref c,H,I,rfl,?_⟩
   have ew:qUl vs lo hi=vs:=by
    unfold qUl
    rw [hw.1,hw.2]
    simp
   have q:=e3.cut lo hi
   rw [ew] at q
   cases w with
   | li f es=>cases ek
   | im d=>
    cases d with
    | tup es=>
     cases ek
     obtain ⟨c',vs',z1,z2,z3⟩:=h
     cases z1
     have:=I.tuple_inj (qA5.tp hs z2) e2'
     subst this
     exact p B H #[26] _ ⟨c,vs',rfl,z2,q⟩
    | _=>cases ek
  ·refine sl_tup pins s σ H _ v vl vu lo hi sl Q I rx hsl pl pu ⟨c,vs,rfl,e2',hw,fun q hq=>?_⟩
   have sm:qA5 B (upd B q (.tup (qUl vs lo hi))):=fun b u z=>by rw [qAr (qAn z (hs.free hq))];exact z
   exact p _ _ (Grow.newB hs hq) _ ⟨q,qUl vs lo hi,rfl,qAu,IsDs.mono sm _ _ (e3.cut lo hi)⟩
 ·exact p.elim
def PXo (X:Cx)(Ew:XW)(e:Option Expr)(g:qAi→Rs (Option Int)):Prop:=
 ∃ to:TO,PO X e to∧∀ (B0 F0 P B H:Hp) (σ:L2.St) (δ:qAi) (Q:Option Int→Hp→Prop),R X.K B0 F0 P B H σ δ→Pst Ew B H (fun o _ H'=>Q o H') (g δ)→to σ H Q
theorem qDi:PXo X Ew none (fun _=>.ok none):=⟨_,qdf,fun B0 F0 P B H σ δ Q r p=>p B H #[49]⟩
def W.part:W→Rs (Option Int)
 | .im (.int i)=>.ok (some i)
 | _=>.no
theorem qDh (h:PX X Ew e g):PXo X Ew (some e) (fun δ=>g δ>>=W.part):=by
 obtain ⟨te,h1,h2⟩:=h
 refine ⟨_,qde h1,fun B0 F0 P B H σ δ Q r p=>h2 B0 F0 P B H σ δ _ r #[61]⟩
 cases w with
 | li f ds=>exact False.elim p1
 | im d=>
  cases d with
  | int i=>exact ⟨i,hw,p1 B1 H1 #[44]⟩
  | _=>exact False.elim p1
theorem qDj {lo hi:Option Expr}{gl gh:qAi→Rs (Option Int)}(h:PX X Ew e g)(hl:PXo X Ew lo gl)(hh:PXo X Ew hi gh) :
  PX X Ew (.Subscript e (.Slice lo hi none p2) pos) (fun δ=>g δ>>=fun w=>gl δ>>=fun l=>gh δ>>=fun u=>slW w l u):=by
 obtain ⟨te,h1,h2⟩:=h
 obtain ⟨tl,l1,l2⟩:=hl
 obtain ⟨th,k1,k2⟩:=hh
 refine ⟨_,qZr (slw (Ew:=Ew)) h1 l1 k1,fun B0 F0 P B H σ δ Q r p=>h2 B0 F0 P B H σ δ _ r #[61]⟩
 refine l2 B0 F0 P B1 H1 σ δ _ (r.grow g1) ((Pst.bind p1).mono fun l B2 H2 g2 p2=>?_)
 refine k2 B0 F0 P B2 H2 σ δ _ ((r.grow g1).grow g2) ((Pst.bind p2).mono fun u B3 H3 g3 p3=>?_)
 exact ⟨B3,w,g3.bh,(hw.grow (g2.trans g3)).rd,Pst.mono p3 fun w B' H' _ q v hw=>q v (hw.older (g1.trans (g2.trans g3)).sh)⟩
def W.tru:W→Rs Bool
 | .im .non=>.ok false
 | .im (.bl b)=>.ok b
 | .im (.int i)=>.ok (i != 0)
 | .im (.str x)=>if x.length≤lim then .ok ((x.length:Int) != 0) else .no
 | .im (.tup ds)=>.ok (!ds.isEmpty)
 | .im (.lst ds)=>.ok (!ds.isEmpty)
 | .li _ ds=>.ok (!ds.isEmpty)
 | .im (.fn _)=>.no
 | .im (.clo _ _ _)=>.no
theorem emp {K:PySem.W.Frag}{B:Hp}{ds:List D}{vs:List V}(h:IsDs K B ds vs):ds.isEmpty=vs.isEmpty:=by
 have:=h.len
 cases ds <;> cases vs <;> simp_all
theorem tru_w {K:PySem.W.Frag}{B H:Hp}(hs:qA5 B H){w:W}{v:V}{k:Bool}(h:Rdw K B H w v)(e:w.tru=.ok k):TruV K v H k:=by
 cases w with
 | li f ds=>
  cases e
  obtain ⟨a,vs,rfl,e2,e3⟩:=h
  exact .inl ⟨vs,.inl e2,by rw [emp e3]⟩
 | im d=>
  cases d with
  | non=>cases e;cases (show v=.non from h);exact rfl
  | bl b=>cases e;cases (show v=.bl k from h);exact rfl
  | int i=>cases e;cases (show v=.int i from h);exact rfl
  | str x=>
   cases (show v=.str x from h)
   simp only [W.tru] at e
   split at e
   ·rename_i hl
    cases e
    exact ⟨by rw [qDg];exact hl,rfl⟩
   ·cases e
  | tup ds=>
   cases e
   obtain ⟨a,vs,rfl,e2,e3⟩:=h
   exact .inr (.inl ⟨vs,qA5.tp hs e2,by rw [emp e3]⟩)
  | lst ds=>
   cases e
   obtain ⟨a,vs,rfl,e2,e3⟩:=h
   exact .inl ⟨vs,hs.seq e2,by rw [emp e3]⟩
  | fn a=>cases e
  | clo _ _ _=>cases e
theorem qU0 {w:W}{x:XD}:w.tru≠.ex x:=by
 intro e
 cases w with
 | li f ds=>cases e
 | im d=>
  cases d with
  | str x=>
   simp only [W.tru] at e
   split at e <;> cases e
  | _=>cases e
theorem qBx (h:PX X Ew e g)(he:∀ whole,isTrue e X.env whole=(do let v ←whole;standAt e.pos;holding [v] (truthy v)):=by intro _;rfl):PXt X Ew e (fun δ=>g δ>>=W.tru):=by
 obtain ⟨te,h1,h2⟩:=h
 refine ⟨_,qZf h1 he,fun B0 F0 P B H σ δ Q r p=>h2 B0 F0 P B H σ δ _ r #[61]⟩
 cases e:w.tru with
 | no=>rw [e] at p1;exact p1.elim
 | ex x=>exact (qU0 e).elim
 | ok k=>
  rw [e] at p1
  exact ⟨k,tru_w g1.bh hw.rd e,p1 B1 H1 #[44]⟩
theorem qCo {t:qAi→Rs Bool}(h:PXt X Ew a t):PXt X Ew (.UnaryOp .Not a pos) (fun δ=>t δ>>=fun b=>.ok (!b)):=by
 obtain ⟨tt,h1,h2⟩:=h
 exact ⟨_,pt_not h1,fun B0 F0 P B H σ δ Q r p=>h2 B0 F0 P B H σ δ _ r ((Pst.bind p).mono fun b B1 H1 g1 p1=>p1 B1 H1 #[44])⟩
def PXw (X:Cx)(Ew:XW)(e:Expr)(g:qAi→Rs Bool):Prop:=
 ∃ tt:TT,PW X e tt∧∀ (B0 F0 P B H:Hp) (σ:L2.St) (δ:qAi) (Q:Bool→Hp→Prop),R X.K B0 F0 P B H σ δ→qUt Ew B H (g δ) Q→tt σ H Q
theorem PXw.t {t:qAi→Rs Bool}(h:PXw X Ew e t):PXt X Ew e t:=let ⟨tt,h1,h2⟩:=h;⟨tt,h1.pt,h2⟩
theorem qIv {t:qAi→Rs Bool}(h:PXt X Ew a t):PXw X Ew (.BoolOp .And [a] pos) t:=let ⟨tt,h1,h2⟩:=h;⟨tt,qc4 h1,h2⟩
theorem qF9 {t:qAi→Rs Bool}(h:PXt X Ew a t):PXw X Ew (.BoolOp .Or [a] pos) t:=let ⟨tt,h1,h2⟩:=h;⟨tt,pw_or1 h1,h2⟩
def qUp (t u:qAi→Rs Bool):qAi→Rs Bool:=fun δ=>t δ>>=fun b=>if b=true then u δ else .ok false
def orB (t u:qAi→Rs Bool):qAi→Rs Bool:=fun δ=>t δ>>=fun b=>if b=true then .ok true else u δ
theorem qHr {t u:qAi→Rs Bool}(h:PXt X Ew a t)(k:PXw X Ew (.BoolOp .And (b::es) pos) u):PXw X Ew (.BoolOp .And (a::b::es) pos) (qUp t u):=by
 obtain ⟨tt,h1,h2⟩:=h
 obtain ⟨tu,k1,k2⟩:=k
 refine ⟨_,pw_and h1 k1,fun B0 F0 P B H σ δ Q r p=>h2 B0 F0 P B H σ δ _ r ((Pst.bind p).mono fun b B1 H1 g1 p1=>?_)⟩
 cases b with
 | true=>exact k2 B0 F0 P B1 H1 σ δ Q (r.grow g1) p1
 | false=>exact p1 B1 H1 #[44]
theorem qId {t u:qAi→Rs Bool}(h:PXt X Ew a t)(k:PXw X Ew (.BoolOp .Or (b::es) pos) u):PXw X Ew (.BoolOp .Or (a::b::es) pos) (orB t u):=by
 obtain ⟨tt,h1,h2⟩:=h
 obtain ⟨tu,k1,k2⟩:=k
 refine ⟨_,pw_or h1 k1,fun B0 F0 P B H σ δ Q r p=>h2 B0 F0 P B H σ δ _ r ((Pst.bind p).mono fun b B1 H1 g1 p1=>?_)⟩
 cases b with
 | true=>exact p1 B1 H1 #[44]
 | false=>exact k2 B0 F0 P B1 H1 σ δ Q (r.grow g1) p1
theorem qE0 {op}(h:PX X Ew a ga):PX X Ew (.BoolOp op [a] pos) ga:=let ⟨te,h1,h2⟩:=h;⟨te,pe_one h1,h2⟩
def qK5 (ga gb:qAi→Rs W):qAi→Rs W:=fun δ=>ga δ>>=fun w=>w.bool>>=fun b=>if b=true then gb δ else .ok (.im (.bl false))
def orW (ga gb:qAi→Rs W):qAi→Rs W:=fun δ=>ga δ>>=fun w=>w.bool>>=fun b=>if b=true then .ok (.im (.bl true)) else gb δ
theorem qD7 (h:PX X Ew a ga)(k:PX X Ew (.BoolOp .And (b::es) pos) gb):PX X Ew (.BoolOp .And (a::b::es) pos) (qK5 ga gb):=by
 obtain ⟨ta,h1,h2⟩:=h
 obtain ⟨tb,k1,k2⟩:=k
 refine ⟨_,pe_and h1 k1,fun B0 F0 P B H σ δ Q r p=>h2 B0 F0 P B H σ δ _ r #[61]⟩
 cases w with
 | li f ds=>exact False.elim p1
 | im d=>
  cases d with
  | bl k=>
   refine ⟨k,hw,?_⟩
   cases k with
   | true=>exact k2 B0 F0 P B1 H1 σ δ Q (r.grow g1) #[117]
   | false=>exact (show Pst Ew B1 H1 _ (Rs.ok (W.im (.bl false))) from p1) B1 H1 #[44] _ rfl
  | _=>exact False.elim p1
theorem px_or (h:PX X Ew a ga)(k:PX X Ew (.BoolOp .Or (b::es) pos) gb):PX X Ew (.BoolOp .Or (a::b::es) pos) (orW ga gb):=by
 obtain ⟨ta,h1,h2⟩:=h
 obtain ⟨tb,k1,k2⟩:=k
 refine ⟨_,pe_or h1 k1,fun B0 F0 P B H σ δ Q r p=>h2 B0 F0 P B H σ δ _ r #[61]⟩
 cases w with
 | li f ds=>exact False.elim p1
 | im d=>
  cases d with
  | bl k=>
   refine ⟨k,hw,?_⟩
   cases k with
   | false=>exact k2 B0 F0 P B1 H1 σ δ Q (r.grow g1) #[117]
   | true=>exact (show Pst Ew B1 H1 _ (Rs.ok (W.im (.bl true))) from p1) B1 H1 #[44] _ rfl
  | _=>exact False.elim p1
theorem px_not (h:PX X Ew a ga):PX X Ew (.UnaryOp .Not a pos) (fun δ=>ga δ>>=fun w=>w.bool>>=fun b=>.ok (.im (.bl (!b)))):=by
 obtain ⟨ta,h1,h2⟩:=h
 refine ⟨_,pe_not h1,fun B0 F0 P B H σ δ Q r p=>h2 B0 F0 P B H σ δ _ r #[61]⟩
 cases w with
 | li f ds=>exact False.elim p1
 | im d=>
  cases d with
  | bl k=>exact ⟨k,hw,(show Pst Ew B1 H1 _ (Rs.ok (W.im (.bl (!k)))) from p1) B1 H1 #[44] _ rfl⟩
  | _=>exact False.elim p1
def qWi:W→Rs W
 | .im (.int i)=>.ok (.im (.int (-i)))
 | _=>.no
theorem qSe (h:PX X Ew a ga):PX X Ew (.UnaryOp .USub a pos) (fun δ=>ga δ>>=qWi):=by
 obtain ⟨ta,h1,h2⟩:=h
 refine ⟨_,pe_un un_neg h1,fun B0 F0 P B H σ δ Q r p=>h2 B0 F0 P B H σ δ _ r #[61]⟩
 cases w with
 | li f ds=>exact False.elim p1
 | im d=>
  cases d with
  | int k=>exact ⟨k,hw,(show Pst Ew B1 H1 _ (Rs.ok (W.im (.int (-k)))) from p1) B1 H1 #[44] _ rfl⟩
  | _=>exact False.elim p1
def ifW (t:qAi→Rs Bool)(ga gb:qAi→Rs W):qAi→Rs W:=fun δ=>t δ>>=fun b=>if b=true then ga δ else gb δ
theorem px_if {t:qAi→Rs Bool}(h:PXt X Ew c t)(ha:PX X Ew a ga)(hb:PX X Ew b gb):PX X Ew (.IfExp c a b pos) (ifW t ga gb):=by
 obtain ⟨tt,h1,h2⟩:=h
 obtain ⟨ta,a1,a2⟩:=ha
 obtain ⟨tb,b1,b2⟩:=hb
 refine ⟨_,qMx h1 a1 b1,fun B0 F0 P B H σ δ Q r p=>h2 B0 F0 P B H σ δ _ r ((Pst.bind p).mono fun b B1 H1 g1 p1=>?_)⟩
 cases b with
 | true=>exact a2 B0 F0 P B1 H1 σ δ Q (r.grow g1) (Pst.mono (show Pst Ew B1 H1 _ (ga δ) from p1) fun w B' H' _ q v hw=>q v (hw.older g1.sh))
 | false=>exact b2 B0 F0 P B1 H1 σ δ Q (r.grow g1) #[117]
def qF0 (f f':W→W→Rs W)(ga gb gc:qAi→Rs W):qAi→Rs W:=fun δ=>ga δ>>=fun x=>gb δ>>=fun y=>f x y>>=fun z=>z.bool>>=fun k=>if k=true then gc δ>>=fun w=>f' y w else .ok (.im (.bl false))
theorem qP5 {f f':W→W→Rs W}{r r':R2}(hr:r=rW X.K Ew f)(hr':r'=rW X.K Ew f'){ta tb tc:TE}
  (a2:∀ (B0 F0 P B H:Hp) (σ:L2.St) (δ:qAi) (Q:VK),R X.K B0 F0 P B H σ δ→qHi X.K Ew B H (ga δ) Q→ta σ H Q)
  (b2:∀ (B0 F0 P B H:Hp) (σ:L2.St) (δ:qAi) (Q:VK),R X.K B0 F0 P B H σ δ→qHi X.K Ew B H (gb δ) Q→tb σ H Q)
  (c2:∀ (B0 F0 P B H:Hp) (σ:L2.St) (δ:qAi) (Q:VK),R X.K B0 F0 P B H σ δ→qHi X.K Ew B H (gc δ) Q→tc σ H Q)
  (B0 F0 P B H:Hp) (σ:L2.St) (δ:qAi) (Q:VK) (rr:R X.K B0 F0 P B H σ δ) (p:qHi X.K Ew B H (qF0 f f' ga gb gc δ) Q):qU1 r r' ta tb tc σ H Q:=by
 subst hr hr'
 refine a2 B0 F0 P B H σ δ _ rr ((Pst.bind p).mono fun w1 B1 H1 g1 p1 v1 h1=>?_)
 refine b2 B0 F0 P B1 H1 σ δ _ (rr.grow g1) ((Pst.bind p1).mono fun w2 B2 H2 g2 p2 v2 h2=>?_)
 refine ⟨B2,w1,w2,g2.bh,(h1.grow g2).rd,h2.rd,(Pst.bind p2).mono fun w3 B3 H3 g3 p3 v3 h3=>?_⟩
 cases w3 with
 | li f ds=>exact False.elim p3
 | im d=>
  cases d with
  | bl k=>
   refine ⟨k,h3,?_⟩
   cases k with
   | false=>exact (show Pst Ew B3 H3 _ (Rs.ok (W.im (.bl false))) from p3) B3 H3 (Grow.refl g3.bh) _ rfl
   | true=>
    have p3':Pst Ew B3 H3 (fun w B' H'=>∀ v,IsW X.K B' H H' w v→Q v H') (gc δ>>=fun w=>f' w2 w):=p3
    refine c2 B0 F0 P B3 H3 σ δ _ (((rr.grow g1).grow g2).grow g3) ((Pst.bind p3').mono fun w4 B4 H4 g4 p4 v4 h4=>?_)
    exact ⟨B4,w2,w4,g4.bh,(h2.grow (g3.trans g4)).rd,h4.rd,Pst.mono p4 fun w B' H' _ q v hw=>q v (hw.older (g1.trans (g2.trans (g3.trans g4))).sh)⟩
  | _=>exact False.elim p3
theorem qSg {op op':CmpOp}{f f':W→W→Rs W}(ho:OpR X (compareOp op) (rW X.K Ew f))(ho':OpR X (compareOp op') (rW X.K Ew f'))(ha:PX X Ew a ga)(hb:PX X Ew b gb)(hc:PX X Ew c gc)
  (hm:lastMarks [op,op'] [b,c]=false:=by with_unfolding_all rfl):PX X Ew (.Compare a [op,op'] [b,c] pos) (qF0 f f' ga gb gc):=by
 obtain ⟨ta,a1,a2⟩:=ha
 obtain ⟨tb,b1,b2⟩:=hb
 obtain ⟨tc,c1,c2⟩:=hc
 exact ⟨_,qZv ho ho' a1 b1 c1 hm,qP5 rfl rfl a2 b2 c2⟩
theorem qVt {op op':CmpOp}{f f':W→W→Rs W}(ho:OpR X (compareOp op) (rW X.K Ew f))(ho':OpR X (compareOp op') (rW X.K Ew f'))(ha:PX X Ew a ga)(hb:PX X Ew b gb)(hc:PX X Ew c gc)
  (hm:lastMarks [op,op'] [b,c]=false:=by with_unfolding_all rfl):PXt X Ew (.Compare a [op,op'] [b,c] pos) (fun δ=>qF0 f f' ga gb gc δ>>=W.bool):=by
 obtain ⟨ta,a1,a2⟩:=ha
 obtain ⟨tb,b1,b2⟩:=hb
 obtain ⟨tc,c1,c2⟩:=hc
 exact ⟨_,qZg ho ho' a1 b1 c1 hm,fun B0 F0 P B H σ δ Q r p=>qP5 rfl rfl a2 b2 c2 B0 F0 P B H σ δ _ r (qHi.bool p)⟩
end
open PySem PySem.Spec PyProof.Rows L2
inductive Fl where
 | nx (δ:qAi) | rt (w:W) | bk (δ:qAi) | ct (δ:qAi) | rl (d:D) (δ:qAi)
def qB5 (K:PySem.W.Frag)(Ew:XW)(B0 F0 P:Hp)(Wr:List Nat)(σ:L2.St)(r:Rs Fl)(D:Ends):Prop:=
 match r with
 | .no=>False
 | .ex x=>∀ B' H',Grow B0 F0 B' H'→Ew x B' H'
 | .ok (.nx δ')=>∀ B' H' σ',R K B0 F0 P B' H' σ' δ'→(∀ i,i∉Wr→σ'[i]?=σ[i]?)→D.nx σ' H'
 | .ok (.bk δ')=>∀ B' H' σ',R K B0 F0 P B' H' σ' δ'→(∀ i,i∉Wr→σ'[i]?=σ[i]?)→D.bk σ' H'
 | .ok (.ct δ')=>∀ B' H' σ',R K B0 F0 P B' H' σ' δ'→(∀ i,i∉Wr→σ'[i]?=σ[i]?)→D.ct σ' H'
 | .ok (.rt w)=>∀ v B' H',Grow B0 F0 B' H'→IsW K B' F0 H' w v→D.rt v H'
 | .ok (.rl d δ')=>∀ v B' H' σ',R K B0 F0 P B' H' σ' δ'→(∀ i,i∉Wr→σ'[i]?=σ[i]?)→IsD K B' d v→D.rt v H'
def PSX (X:Cx)(Ew:XW)(Wr:List Nat)(st:Stmt)(h:qAi→Rs Fl):Prop:=
 ∃ ts:TS,PS X st ts∧∀ (B0 F0 P B H:Hp) (σ:L2.St) (δ:qAi) (D:Ends),R X.K B0 F0 P B H σ δ→qB5 X.K Ew B0 F0 P Wr σ (h δ) D→ts D σ H
def qRt (X:Cx)(Ew:XW)(Wr:List Nat)(st:List Stmt)(h:qAi→Rs Fl):Prop:=
 ∃ ts:TS,PSs X st ts∧∀ (B0 F0 P B H:Hp) (σ:L2.St) (δ:qAi) (D:Ends),R X.K B0 F0 P B H σ δ→qB5 X.K Ew B0 F0 P Wr σ (h δ) D→ts D σ H
section
variable {X:Cx}{Ew:XW}{Wr Wr':List Nat}{st:Stmt}{sts:List Stmt}{e c:Expr}{es:List Expr}{pos:Pos}{g:qAi→Rs W}{h k:qAi→Rs Fl}
theorem qB5.ex {K:PySem.W.Frag}{B0 F0 P B H:Hp}{σ σr:L2.St}{δ:qAi}{x:XD}{D:Ends}(r:R K B0 F0 P B H σr δ)(p:qB5 K Ew B0 F0 P Wr σ (.ex x) D):∀ B' H',Grow B H B' H'→Ew x B' H':=
 fun B' H' g=>p B' H' (r.whole.trans g)
theorem qB5.bind {K:PySem.W.Frag}{B0 F0 P B H:Hp}{σ σr:L2.St}{δ:qAi}{α:Type}{a:Rs α}{f:α→Rs Fl}{D:Ends}(r:R K B0 F0 P B H σr δ)(p:qB5 K Ew B0 F0 P Wr σ (a>>=f) D) :
  Pst Ew B H (fun x B' H'=>qB5 K Ew B0 F0 P Wr σ (f x) D) a:=by
 cases a with
 | no=>exact p
 | ok x=>exact fun B' H' _=>p
 | ex x=>exact p.ex r
theorem qJv:PSX X Ew [] st (fun _=>.no):=⟨_,qZp,fun B0 F0 P B H σ δ D r p=>p.elim⟩
theorem qA2:qRt X Ew [] [] (fun δ=>.ok (.nx δ)):=⟨_,qdc,fun B0 F0 P B H σ δ D r p=>p B H σ r fun _ _=>rfl⟩
def qBb (h k:qAi→Rs Fl):qAi→Rs Fl:=fun δ=>match h δ with
 | .ok (.nx δ')=>k δ'
 | r=>r
theorem qB5.wider {K:PySem.W.Frag}{B0 F0 P:Hp}{σ:L2.St}{r:Rs Fl}{D:Ends}(p:qB5 K Ew B0 F0 P Wr σ r D)(hs:∀ i,i∈Wr'→i∈Wr):qB5 K Ew B0 F0 P Wr' σ r D:=by
 cases r with
 | no=>exact p
 | ex x=>exact p
 | ok f=>
  cases f with
  | nx δ=>exact fun B' H' σ' r' f'=>p B' H' σ' r' fun i hi=>f' i fun z=>hi (hs i z)
  | bk δ=>exact fun B' H' σ' r' f'=>p B' H' σ' r' fun i hi=>f' i fun z=>hi (hs i z)
  | ct δ=>exact fun B' H' σ' r' f'=>p B' H' σ' r' fun i hi=>f' i fun z=>hi (hs i z)
  | rl d δ=>exact fun v B' H' σ' r' f'=>p v B' H' σ' r' fun i hi=>f' i fun z=>hi (hs i z)
  | rt w=>exact p
theorem qB5.from {K:PySem.W.Frag}{B0 F0 P:Hp}{σ σ':L2.St}{r:Rs Fl}{D:Ends}(p:qB5 K Ew B0 F0 P Wr σ r D)(hs:∀ i,i∉Wr→σ'[i]?=σ[i]?):qB5 K Ew B0 F0 P Wr σ' r D:=by
 cases r with
 | no=>exact p
 | ex x=>exact p
 | ok f=>
  cases f with
  | nx δ=>exact fun B' H' σ2 r' f'=>p B' H' σ2 r' fun i hi=>(f' i hi).trans (hs i hi)
  | bk δ=>exact fun B' H' σ2 r' f'=>p B' H' σ2 r' fun i hi=>(f' i hi).trans (hs i hi)
  | ct δ=>exact fun B' H' σ2 r' f'=>p B' H' σ2 r' fun i hi=>(f' i hi).trans (hs i hi)
  | rl d δ=>exact fun v B' H' σ2 r' f'=>p v B' H' σ2 r' fun i hi=>(f' i hi).trans (hs i hi)
  | rt w=>exact p
theorem qAf (h1:PSX X Ew Wr st h)(h2:qRt X Ew Wr' sts k):qRt X Ew (Wr++Wr') (st::sts) (qBb h k):=by
 obtain ⟨t1,a1,a2⟩:=h1
 obtain ⟨t2,b1,b2⟩:=h2
 refine ⟨_,qZn a1 b1,fun B0 F0 P B H σ δ D r p=>a2 B0 F0 P B H σ δ { D with nx:=t2 D } r ?_⟩
 unfold qBb at p
 cases q:h δ with
 | no=>rw [q] at p;exact p
 | ex x=>rw [q] at p;exact p
 | ok f=>
  rw [q] at p
  cases f with
  | nx δ'=>
   intro B' H' σ' r' f'
   refine b2 B0 F0 P B' H' σ' δ' D r' ?_
   have p1:qB5 X.K Ew B0 F0 P (Wr++Wr') σ (k δ') D:=p
   exact (p1.from (σ':=σ') fun i hi=>f' i fun z=>hi (List.mem_append_left _ z)).wider fun i hi=>List.mem_append_right _ hi
  | bk δ'=>exact (show qB5 X.K Ew B0 F0 P (Wr++Wr') σ (.ok (.bk δ')) D from p).wider (Wr':=Wr) fun i hi=>List.mem_append_left _ hi
  | ct δ'=>exact (show qB5 X.K Ew B0 F0 P (Wr++Wr') σ (.ok (.ct δ')) D from p).wider (Wr':=Wr) fun i hi=>List.mem_append_left _ hi
  | rl d δ'=>exact (show qB5 X.K Ew B0 F0 P (Wr++Wr') σ (.ok (.rl d δ')) D from p).wider (Wr':=Wr) fun i hi=>List.mem_append_left _ hi
  | rt w=>exact p
theorem qAj (h1:PSX X Ew Wr st h):qRt X Ew Wr [st] h:=let ⟨t,a1,a2⟩:=h1;⟨t,qdb a1,a2⟩
def ifF (t:qAi→Rs Bool)(h k:qAi→Rs Fl):qAi→Rs Fl:=fun δ=>t δ>>=fun b=>if b=true then h δ else k δ
theorem qBe {a b:List Stmt}{t:qAi→Rs Bool}(hc:PXt X Ew c t)(ha:qRt X Ew Wr a h)(hb:qRt X Ew Wr' b k):PSX X Ew (Wr++Wr') (.If c a b pos) (ifF t h k):=by
 obtain ⟨tt,c1,c2⟩:=hc
 obtain ⟨t1,a1,a2⟩:=ha
 obtain ⟨t2,b1,b2⟩:=hb
 refine ⟨_,ps_if c1 a1 b1,fun B0 F0 P B H σ δ D r p=>c2 B0 F0 P B H σ δ _ r ((qB5.bind r p).mono fun b B1 H1 g1 p1=>?_)⟩
 cases b with
 | true=>exact a2 B0 F0 P B1 H1 σ δ D (r.grow g1) (qB5.wider (Wr:=Wr++Wr') p1 fun i hi=>List.mem_append_left _ hi)
 | false=>exact b2 B0 F0 P B1 H1 σ δ D (r.grow g1) (qB5.wider (Wr:=Wr++Wr') p1 fun i hi=>List.mem_append_right _ hi)
theorem qAp (he:PX X Ew e g):PSX X Ew [] (.Return (some e) pos) (fun δ=>g δ>>=fun w=>.ok (.rt w)):=by
 obtain ⟨te,h1,h2⟩:=he
 exact ⟨_,qOt h1,fun B0 F0 P B H σ δ D r p=>h2 B0 F0 P B H σ δ _ r ((qB5.bind r p).mono fun w B1 H1 g1 p1 v hw=>p1 v B1 H1 (r.whole.trans g1) (hw.older r.fh))⟩
def qNx (i:Nat):qAi→Rs W:=fun δ=>match δ[i]? with
 | some (.im d)=>.ok (.im d)
 | some (.rd ds)=>.ok (.li false ds)
 | some (.own ds)=>.ok (.li true ds)
 | _=>.no
theorem qDw (i:Nat){x:Str}{p':Pos}(hN:X.N[i]?=some x:=by rfl)(hv:Vis X.env.scope x:=by first | exact Or.inl rfl | exact Or.inr (Or.inl rfl) | exact Or.inr (Or.inr rfl))(hd:#[25]=false:=by decide)
  (hcd:#[48]=false:=by decide):PSX X Ew [] (.Return (some (.Name x p')) pos) (fun δ=>qNx i δ>>=fun w=>.ok (.rt w)):=by
 refine ⟨_,qOt (qC5 hN hv hd hcd),fun B0 F0 P B H σ δ D r p=>?_⟩
 unfold qNx at p
 dsimp only at p
 cases e:δ[i]? with
 | none=>rw [e] at p;exact p.elim
 | some s=>
  rw [e] at p
  have hs:=r.sl i s e
  cases s with
  | un=>exact p.elim
  | im d=>
   obtain ⟨v,e1,e2⟩:=hs
   exact ⟨v,e1,p v B H r.whole e2⟩
  | rd ds=>
   obtain ⟨a,vs,e1,e2,e3⟩:=hs
   exact ⟨_,e1,p _ B H r.whole ⟨a,vs,rfl,qA5.rdl r.fh e2,e3⟩⟩
  | own ds=>
   obtain ⟨a,vs,e1,e2,e3,e4,e5,e6⟩:=hs
   exact ⟨_,e1,p _ B H r.whole ⟨a,vs,rfl,e2,e4,e5,e6⟩⟩
  | dct ks=>exact p.elim
  | dtt ks=>exact p.elim
  | exc x=>exact p.elim
end
section
variable {K:PySem.W.Frag}{B0 F0 P B H:Hp}{σ:L2.St}{δ:qAi}
theorem qA0 {α:Type}{l:List α}{i j:Nat}{x:α}(h:i≠j):(l.set i x)[j]?=l[j]?:=List.getElem?_set_ne h
theorem qBd {α:Type}{l:List α}{i:Nat}{x y:α}(h:(l.set i x)[i]?=some y):y=x∧i < l.length:=by
 rw [List.getElem?_set] at h
 split at h
 ·split at h
  ·exact ⟨(Option.some.inj h).symm,by assumption⟩
  ·cases h
 ·rename_i z;exact absurd rfl z
theorem R.im (r:R K B0 F0 P B H σ δ){i:Nat}{d:D}{v:V}(h:IsD K B d v):R K B0 F0 P B H (σ.set i (some v)) (δ.set i (.im d)) where
 b0:=r.b0
 nw:=r.nw
 fh:=r.fh
 ph:=r.ph
 bh:=r.bh
 len:=by rw [List.length_set,List.length_set];exact r.len
 sl:=fun j s e=>by
  by_cases hj:i=j
  ·subst hj
   obtain ⟨rfl,hl⟩:=qBd e
   refine ⟨v,?_,h⟩
   rw [List.getElem?_set_self (by rw [←r.len];exact hl)]
  ·rw [qA0 hj] at e
   rw [qA0 hj]
   exact r.sl j s e
 ne:=fun j k s t a hjk e1 e2 o1 o2 z1 z2=>by
  by_cases hj:i=j
  ·subst hj
   obtain ⟨rfl,_⟩:=qBd e1
   cases o1
  ·by_cases hk:i=k
   ·subst hk
    obtain ⟨rfl,_⟩:=qBd e2
    cases o2
   ·rw [qA0 hj] at e1 z1
    rw [qA0 hk] at e2 z2
    exact r.ne j k s t a hjk e1 e2 o1 o2 z1 z2
theorem R.own {B' H':Hp}(r:R K B0 F0 P B H σ δ)(g:Grow B H B' H'){i:Nat}{ds:List D}{a:Addr}{vs:List V}(h0:H a=none)(hb:B' a=none)(hh:H' a=some (.lst vs))(h:IsDs K B' ds vs) :
  R K B0 F0 P B' H' (σ.set i #[31]) (δ.set i (.own ds)):=by
 have r':=r.grow g
 refine ⟨r'.b0,r'.nw,r'.fh,r'.ph,r'.bh,by rw [List.length_set,List.length_set];exact r.len,fun j s e=>?_,fun j k s t b hjk e1 e2 o1 o2 z1 z2=>?_⟩
 ·by_cases hj:i=j
  ·subst hj
   obtain ⟨rfl,hl⟩:=qBd e
   refine ⟨a,vs,?_,r.fh.free h0,r.ph.free h0,hb,hh,h⟩
   rw [List.getElem?_set_self (by rw [←r.len];exact hl)]
  ·rw [qA0 hj] at e
   rw [qA0 hj]
   exact r'.sl j s e
 ·have live:∀ (j:Nat) (s:Sl),δ[j]?=some s→s.isOwn=true→σ[j]?=some #[31]→False:=fun j s e o z=>by
   cases s with
   | own es=>
    obtain ⟨c,us,q1,q2,q3,q4,q5,_⟩:=r.sl j _ e
    rw [z] at q1
    cases q1
    rw [h0] at q5
    cases q5
   | dct es=>
    obtain ⟨c,us,q1,q2,q3,q4,q5,_⟩:=r.sl j _ e
    rw [z] at q1
    cases q1
    rw [h0] at q5
    cases q5
   | dtt es=>
    obtain ⟨c,us,q1,q2,q3,q4,q5,_⟩:=r.sl j _ e
    rw [z] at q1
    cases q1
    rw [h0] at q5
    cases q5
   | _=>cases o
  by_cases hj:i=j
  ·subst hj
   by_cases hk:i=k
   ·exact hjk hk
   ·rw [qA0 hk] at e2 z2
    obtain ⟨_,hl⟩:=qBd z1
    rw [List.getElem?_set_self hl] at z1
    cases z1
    exact live k t e2 o2 z2
  ·by_cases hk:i=k
   ·subst hk
    rw [qA0 hj] at e1 z1
    obtain ⟨_,hl⟩:=qBd z2
    rw [List.getElem?_set_self hl] at z2
    cases z2
    exact live j s e1 o1 z1
   ·rw [qA0 hj] at e1 z1
    rw [qA0 hk] at e2 z2
    exact r.ne j k s t b hjk e1 e2 o1 o2 z1 z2
theorem R.put (r:R K B0 F0 P B H σ δ){i:Nat}{ds es:List D}{a:Addr}{vs us:List V}(ei:δ[i]?=some (.own ds))(ea:σ[i]?=some #[31])(hu:IsDs K B es us) :
  R K B0 F0 P B (upd H a (.lst us)) σ (δ.set i (.own es)):=by
 obtain ⟨a',vs',q1,q2,q3,q4,q5,q6⟩:=r.sl i _ ei
 rw [ea] at q1
 cases q1
 have keep:∀ {G:Hp},qA5 G H→G a=none→qA5 G (upd H a (.lst us)):=fun hs hn b o e=>by
  rw [qAr (qAn e hn)];exact hs b o e
 refine ⟨r.b0,r.nw,keep r.fh q2,keep r.ph q3,keep r.bh q4,by rw [List.length_set];exact r.len,fun j s e=>?_,fun j k s t b hjk e1 e2 o1 o2 z1 z2=>?_⟩
 ·by_cases hj:i=j
  ·subst hj
   obtain ⟨rfl,hl⟩:=qBd e
   exact ⟨a,us,ea,q2,q3,q4,qAu,hu⟩
  ·rw [qA0 hj] at e
   have:=r.sl j s e
   cases s with
   | own fs=>
    obtain ⟨c,ws,w1,w2,w3,w4,w5,w6⟩:=this
    have hne:c≠a:=fun z=>by
     subst z
     exact r.ne j i _ _ c (Ne.symm hj) e ei rfl rfl w1 ea
    exact ⟨c,ws,w1,w2,w3,w4,by rw [qAr hne];exact w5,w6⟩
   | dct fs=>
    obtain ⟨c,ws,w1,w2,w3,w4,w5,w6⟩:=this
    have hne:c≠a:=fun z=>by
     subst z
     exact r.ne j i _ _ c (Ne.symm hj) e ei rfl rfl w1 ea
    exact ⟨c,ws,w1,w2,w3,w4,by rw [qAr hne];exact w5,w6⟩
   | dtt fs=>
    obtain ⟨c,ws,w1,w2,w3,w4,w5,w6⟩:=this
    have hne:c≠a:=fun z=>by
     subst z
     exact r.ne j i _ _ c (Ne.symm hj) e ei rfl rfl w1 ea
    exact ⟨c,ws,w1,w2,w3,w4,by rw [qAr hne];exact w5,w6⟩
   | _=>exact this
 ·have back:∀ (j:Nat) (s:Sl),(δ.set i (.own es))[j]?=some s→s.isOwn=true→∃ s',δ[j]?=some s'∧s'.isOwn=true:=fun j s e o=>by
   by_cases hj:i=j
   ·subst hj;exact ⟨_,ei,rfl⟩
   ·rw [qA0 hj] at e;exact ⟨s,e,o⟩
  obtain ⟨s',e1',o1'⟩:=back j s e1 o1
  obtain ⟨t',e2',o2'⟩:=back k t e2 o2
  exact r.ne j k s' t' b hjk e1' e2' o1' o2' z1 z2
end
section
variable {X:Cx}{Ew:XW}{Wr Wr':List Nat}{st:Stmt}{sts:List Stmt}{e c:Expr}{es:List Expr}{pos p' apos:Pos}{g:qAi→Rs W}{h k:qAi→Rs Fl}
def asg (i:Nat)(δ:qAi):W→Rs Fl
 | .im d=>.ok (.nx (δ.set i (.im d)))
 | .li true ds=>.ok (.nx (δ.set i (.own ds)))
 | .li false _=>.no
theorem qHa {σ:L2.St}{i:Nat}{v:Option V}:∀ j,j∉[i]→(σ.set i v)[j]?=σ[j]?:=fun j hj=>List.getElem?_set_ne fun z=>hj (by simp [z])
theorem qb7 {K:PySem.W.Frag}{B0 F0 P B H B1 H1:Hp}{σ:L2.St}{δ:qAi}{D:Ends}{i:Nat}{w:W}{v:V}(r:R K B0 F0 P B H σ δ)(g1:Grow B H B1 H1)(hw:IsW K B1 H H1 w v)
  (p:qB5 K Ew B0 F0 P [i] σ (asg i δ w) D):D.nx (σ.set i (some v)) H1:=by
 cases w with
 | im d=>exact p B1 H1 _ ((r.grow g1).im hw) qHa
 | li f ds=>
  cases f with
  | false=>exact False.elim p
  | true=>
   obtain ⟨a,vs,rfl,e2,e3,e4,e5⟩:=hw
   exact p B1 H1 _ (r.own g1 e2 e3 e4 e5) qHa
theorem qA1 (i:Nat){x:Str}(hN:X.N.Nodup)(he:PX X Ew e g)(hi:X.N[i]?=some x:=by rfl)(hx:Loc X.env.scope x:=by first | exact Or.inl rfl | exact Or.inr rfl)(hs:swapsWith e (some (.Name x p')) pos.line X.env=pure false:=by rfl)
  (hf:X.fn x=true∨X.env.scope.names.lookup x=some .local:=by first | exact .inl rfl | exact .inr rfl | assumption) :
  PSX X Ew [i] (.Assign [.Name x p'] e pos) (fun δ=>g δ>>=asg i δ):=by
 obtain ⟨te,h1,h2⟩:=he
 exact ⟨_,qJw hN hi hx h1 hs hf,fun B0 F0 P B H σ δ D r p=>h2 B0 F0 P B H σ δ _ r ((qB5.bind r p).mono fun w B1 H1 g1 p1 v hw=>qb7 r g1 hw p1)⟩
def qI2 (i:Nat)(gd:qAi→Rs D)(δ:qAi):Rs Fl:=match δ[i]? with
 | some (.own ds)=>gd δ>>=fun d=>if ds.length < lim then .ok (.nx (δ.set i (.own (ds++[d])))) else .no
 | _=>.no
theorem qCd (i:Nat){x:Str}{cpos spos:Pos}{gd:qAi→Rs D}(he:PXd X Ew e gd)(hN:X.N[i]?=some x:=by rfl)(hv:Vis X.env.scope x:=by first | exact Or.inl rfl | exact Or.inr (Or.inl rfl) | exact Or.inr (Or.inr rfl))
  (hd:#[25]=false:=by decide) (hcd:#[48]=false:=by decide)
  (hbase:attributeBase (.Name x p') "append" X.env (eval (.Name x p') X.env)=eval (.Name x p') X.env:=by rfl)
  (hfew:((backTo cpos (starEach [e] X.env)).all (fun x=>!x.1) && #[91].all (fun x=>x.1.isSome)
   && decide ([e].length + ([]:List Keyword).length + #[90] < 30))=true:=by rfl)
  (hline:#[79]=true:=by rfl) (hst:starEach [e] X.env=#[38]::starEach [] X.env:=by rfl) (hplain:(backTo cpos #[39]).any (·.1)=false:=by rfl)
  (hsw:swapsWith (.Call (.Attribute (.Name x p') "append" apos) [e] [] cpos) none spos.line X.env=pure false:=by rfl) :
  PSX X Ew [] (.Expr (.Call (.Attribute (.Name x p') "append" apos) [e] [] cpos) spos) (qI2 i gd):=by
 obtain ⟨te,h1,h2⟩:=he
 refine ⟨_,qV3 (qZw PySem.F.plainAttrs_list PySem.F.slot_list_append PySem.F.type_list_append qJ4 (qC5 hN hv hd hcd) (qCq h1 qD8 hst) hbase hfew hline hst hplain) hsw,fun B0 F0 P B H σ δ D r p=>?_⟩
 unfold qI2 at p
 split at p
 ·rename_i ds ei
  obtain ⟨a,vs,e1,e2,e3,e4,e5,e6⟩:=r.sl i _ ei
  refine ⟨_,e1,.inl ⟨rfl,vs,SqL.of e5⟩,h2 B0 F0 P B H σ δ _ r ((qB5.bind r p).mono fun d B1 H1 g1 p1 v hd=>?_)⟩
  split at p1
  ·rename_i hl
   have l1:=e6.len
   refine ⟨a,vs,v,rfl,rfl,g1.sh _ _ e5,by rw [qDg];omega,?_⟩
   have r1:=(r.grow g1).put (ds:=ds) (es:=ds++[d]) (vs:=vs) (us:=vs++[v]) ei e1 ((IsDs.mono g1.sb _ _ e6).app (.one hd))
   exact p1 B1 _ σ r1 fun _ _=>rfl
  ·exact p1.elim
 ·exact p.elim
def qYk (i:Nat)(g:qAi→Rs W)(δ:qAi):Rs Fl:=match δ[i]? with
 | some (.own ds)=>g δ>>=fun w=>match w with
  | .li true zs=>if ds.length + zs.length≤lim then .ok (.nx (δ.set i (.own (ds++zs)))) else .no
  | _=>.no
 | _=>.no
theorem qHt (i:Nat){x:Str}{cpos spos:Pos}(he:PX X Ew e g)(hN:X.N[i]?=some x:=by rfl)(hv:Vis X.env.scope x:=by first | exact Or.inl rfl | exact Or.inr (Or.inl rfl) | exact Or.inr (Or.inr rfl))
  (hd:#[25]=false:=by decide) (hcd:#[48]=false:=by decide)
  (hbase:attributeBase (.Name x p') "extend" X.env (eval (.Name x p') X.env)=eval (.Name x p') X.env:=by rfl)
  (hfew:((backTo cpos (starEach [e] X.env)).all (fun x=>!x.1) && #[91].all (fun x=>x.1.isSome)
   && decide ([e].length + ([]:List Keyword).length + #[90] < 30))=true:=by rfl)
  (hline:#[79]=true:=by rfl) (hst:starEach [e] X.env=#[38]::starEach [] X.env:=by rfl) (hplain:(backTo cpos #[39]).any (·.1)=false:=by rfl)
  (hsw:swapsWith (.Call (.Attribute (.Name x p') "extend" apos) [e] [] cpos) none spos.line X.env=pure false:=by rfl) :
  PSX X Ew [] (.Expr (.Call (.Attribute (.Name x p') "extend" apos) [e] [] cpos) spos) (qYk i g):=by
 obtain ⟨te,h1,h2⟩:=he
 refine ⟨_,qV3 (qZw PySem.F.plainAttrs_list PySem.F.slot_list_extend PySem.F.type_list_extend qWm (qC5 hN hv hd hcd) (qCq h1 qD8 hst) hbase hfew hline hst hplain) hsw,fun B0 F0 P B H σ δ D r p=>?_⟩
 unfold qYk at p
 split at p
 ·rename_i ds ei
  obtain ⟨a,vs,e1,e2,e3,e4,e5,e6⟩:=r.sl i _ ei
  refine ⟨_,e1,.inl ⟨rfl,vs,SqL.of e5⟩,h2 B0 F0 P B H σ δ _ r ((qB5.bind r p).mono fun w B1 H1 g1 p1 v hw=>?_)⟩
  split at p1
  ·rename_i zs
   split at p1
   ·rename_i hl
    obtain ⟨b,us,rfl,q2,q3,q4,q5⟩:=hw
    have l1:=e6.len
    have l2:=q5.len
    refine ⟨a,b,vs,us,rfl,rfl,g1.sh _ _ e5,q4,by rw [qDg];omega,?_⟩
    have r1:=(r.grow g1).put (ds:=ds) (es:=ds++zs) (vs:=vs) (us:=vs++us) ei e1 ((IsDs.mono g1.sb _ _ e6).app q5)
    exact p1 B1 _ σ r1 fun _ _=>rfl
   ·exact p1.elim
  ·exact p1.elim
 ·exact p.elim
def PXg (X:Cx)(Wr:List Nat)(tg:Expr)(t:D→qAi→Rs qAi):Prop:=
 ∃ tt:TG,PG X tg tt∧∀ (B0 F0 P B H:Hp) (σ:L2.St) (δ δ':qAi) (d:D) (v:V) (Q:L2.St→Hp→Prop),R X.K B0 F0 P B H σ δ→IsD X.K B d v→t d δ=.ok δ'→
  (∀ σ',R X.K B0 F0 P B H σ' δ'→(∀ i,i∉Wr→σ'[i]?=σ[i]?)→Q σ' H)→tt v σ H Q
def PXgs (X:Cx)(Wr:List Nat)(tgs:List Expr)(t:List D→qAi→Rs qAi):Prop:=
 ∃ tt:TGs,PGs X tgs tt∧∀ (B0 F0 P B H:Hp) (σ:L2.St) (δ δ':qAi) (ds:List D) (vs:List V) (Q:L2.St→Hp→Prop),R X.K B0 F0 P B H σ δ→IsDs X.K B ds vs→t ds δ=.ok δ'→
  (∀ σ',R X.K B0 F0 P B H σ' δ'→(∀ i,i∉Wr→σ'[i]?=σ[i]?)→Q σ' H)→tt vs σ H Q
def qD6 (i:Nat):D→qAi→Rs qAi:=fun d δ=>.ok (δ.set i (.im d))
theorem qBn (i:Nat){x:Str}(hN:X.N.Nodup)(hi:X.N[i]?=some x:=by rfl)(hx:Loc X.env.scope x:=by first | exact Or.inl rfl | exact Or.inr rfl)
  (hf:X.fn x=true∨X.env.scope.names.lookup x=some .local:=by first | exact .inl rfl | exact .inr rfl | assumption):PXg X [i] (.Name x pos) (qD6 i):=by
 refine ⟨_,qQ3 hN hi hx hf,fun B0 F0 P B H σ δ δ' d v Q r hd e k=>?_⟩
 cases e
 exact k _ (r.im hd) qHa
theorem qFk:PXgs X [] [] (fun ds δ=>match ds with | []=>.ok δ | _=>.no):=by
 refine ⟨_,qV9,fun B0 F0 P B H σ δ δ' ds vs Q r hd e k=>?_⟩
 cases ds with
 | nil=>
  cases e
  exact ⟨hd,k σ r fun _ _=>rfl⟩
 | cons _ _=>cases e
def qHd (t:D→qAi→Rs qAi)(u:List D→qAi→Rs qAi):List D→qAi→Rs qAi:=fun ds δ=>match ds with
 | d::r=>t d δ>>=u r
 | []=>.no
theorem qCc {tg:Expr}{tgs:List Expr}{t:D→qAi→Rs qAi}{u:List D→qAi→Rs qAi}(h1:PXg X Wr tg t)(h2:PXgs X Wr' tgs u)
  (hs:(assignEach (tg::tgs) X.env).map (·.2)=assign tg X.env::(assignEach tgs X.env).map (·.2):=by rfl):PXgs X (Wr++Wr') (tg::tgs) (qHd t u):=by
 obtain ⟨tt,a1,a2⟩:=h1
 obtain ⟨tu,b1,b2⟩:=h2
 refine ⟨_,qMw a1 b1 hs,fun B0 F0 P B H σ δ δ' ds vs Q r hd e k=>?_⟩
 cases ds with
 | nil=>cases e
 | cons d ds=>
  obtain ⟨v,rr,rfl,q2,q3⟩:=hd
  have e':(t d δ>>=u ds)=.ok δ':=e
  cases z:t d δ with
  | no=>rw [z] at e';cases e'
  | ex x=>rw [z] at e';cases e'
  | ok δ1=>
   rw [z] at e'
   refine ⟨v,rr,rfl,a2 B0 F0 P B H σ δ δ1 d v _ r q2 z fun σ1 r1 f1=>?_⟩
   exact b2 B0 F0 P B H σ1 δ1 δ' ds rr Q r1 q3 e' fun σ2 r2 f2=>k σ2 r2 fun i hi=>(f2 i fun z=>hi (List.mem_append_right _ z)).trans (f1 i fun z=>hi (List.mem_append_left _ z))
def qYr (t:List D→qAi→Rs qAi)(n:Nat):D→qAi→Rs qAi:=fun d δ=>match d with
 | .tup ds=>if ds.length=n then t ds δ else .no
 | _=>.no
end
open PySem PySem.Spec PyProof.Rows L2
section
variable {X:Cx}{Ew:XW}{Wr Wr':List Nat}{st:Stmt}{sts:List Stmt}{e c:Expr}{es:List Expr}{pos p' apos:Pos}{g:qAi→Rs W}{h k:qAi→Rs Fl}
theorem qHs {tgs:List Expr}{k:Nat}{t:List D→qAi→Rs qAi}(n:Nat)(hc:X.calm=true)(h:PXgs X Wr tgs t)(hn:(assignEach tgs X.env).length=n:=by rfl)(hst:(assignEach tgs X.env).findIdx? (·.1)=none:=by rfl) :
  PXg X Wr (.Tuple tgs k pos) (qYr t n):=by
 obtain ⟨tt,a1,a2⟩:=h
 refine ⟨_,qbn hc a1 hn hst,fun B0 F0 P B H σ δ δ' d v Q r hd e k=>?_⟩
 unfold qYr at e
 split at e
 ·rename_i ds
  split at e
  ·rename_i hl
   obtain ⟨a,vs,rfl,e2,e3⟩:=hd
   exact ⟨a,vs,rfl,qA5.tp r.bh e2,by rw [←e3.len];exact hl,a2 B0 F0 P B H σ δ δ' ds vs Q r e3 e k⟩
  ·cases e
 ·cases e
end
structure IterOf (K:PySem.W.Frag) (B:Hp) (J:It) (ds:List D) (Pn:Hp):Prop where
 go:∀ (i:Nat) (d:D) (B2 H2:Hp),ds[i]?=some d→qA5 B B2→qA5 Pn H2→qA5 B2 H2→J.go i H2∧∀ x H3,J.yld i H2 x H3→∃ B3,Grow B2 H2 B3 H3∧IsD K B3 d x
 stop:∀ (B2 H2:Hp),qA5 B B2→qA5 Pn H2→qA5 B2 H2→J.stop ds.length H2
def qb9 (σ:L2.St)(δ:qAi)(Pn:Hp):Prop:=∀ (i:Nat) (s:Sl) (a:Addr),δ[i]?=some s→s.isOwn=true→σ[i]?=some #[31]→Pn a=none
def PXi (X:Cx)(Ew:XW)(tg iter:Expr)(gi:qAi→Rs (List D)):Prop:=
 ∃ wi:TI,PI X tg iter wi∧∀ (B0 F0 P B H:Hp) (σ:L2.St) (δ:qAi) (R':It→Hp→Prop),R X.K B0 F0 P B H σ δ→
  Pst Ew B H (fun ds B' H'=>∀ J Pn,IterOf X.K B' J ds Pn→qA5 Pn H'→qb9 σ δ Pn→R' J H') (gi δ)→wi σ H R'
def PXc (X:Cx)(Ew:XW)(tg iter:Expr)(gi:qAi→Rs (List D)):Prop:=
 ∃ wi:TI,PI X tg iter wi∧∀ (B0 F0 P B H:Hp) (σ:L2.St) (δ:qAi) (R':It→Hp→Prop),R X.K B0 F0 P B H σ δ→
  Pst Ew B H (fun ds B' H'=>∀ J Pn,IterOf X.K B' J ds Pn→qA5 Pn H'→R' J H') (gi δ)→wi σ H R'
def qE5:Hp:=fun _=>none
theorem qCu {H:Hp}:qA5 qE5 H:=fun b o e=>by cases (show (none:Option HO)=some o from e)
def qE3 (a:Addr)(o:HO):Hp:=upd qE5 a o
theorem qE2 {a:Addr}{o:HO}:qE3 a o a=some o:=qAu
theorem qEi {H:Hp}{a:Addr}{o:HO}(h:H a=some o):qA5 (qE3 a o) H:=fun b u e=>by
 by_cases hb:b=a
 ·subst hb;rw [qE2] at e;cases e;exact h
 ·unfold qE3 at e;rw [qAr hb] at e;cases (show (none:Option HO)=some u from e)
theorem qOz {a b:Addr}{o:HO}(h:b≠a):qE3 a o b=none:=by unfold qE3;rw [qAr h];rfl
section
variable {K:PySem.W.Frag}{B:Hp}
theorem qW2 {a:Addr}{vs:List V}{ds:List D}{Pn:Hp}(hq:∀ B2 H2,qA5 B B2→qA5 Pn H2→qA5 B2 H2→SqL K H2 a vs)(hd:IsDs K B ds vs):IterOf K B (Itl K a) ds Pn where
 go:=fun i d B2 H2 e s1 s2 s3=>by
  obtain ⟨v,ev,iv⟩:=hd.get e
  refine ⟨⟨vs,v,hq B2 H2 s1 s2 s3,ev⟩,fun x H3 ⟨e3,y⟩=>?_⟩
  subst e3
  have:=y vs (hq B2 _ s1 s2 s3)
  rw [ev] at this
  cases this
  exact ⟨B2,Grow.refl s3,IsD.mono s1 d _ iv⟩
 stop:=fun B2 H2 s1 s2 s3=>⟨vs,hq B2 H2 s1 s2 s3,by rw [hd.len];exact Nat.le_refl _⟩
theorem qac {a:Addr}{vs:List V}{ds:List D}{Pn:Hp}(hq:∀ B2 H2,qA5 B B2→qA5 Pn H2→qA5 B2 H2→SqT K H2 a vs)(hd:IsDs K B ds vs):IterOf K B (Itt K a) ds Pn where
 go:=fun i d B2 H2 e s1 s2 s3=>by
  obtain ⟨v,ev,iv⟩:=hd.get e
  refine ⟨⟨vs,v,hq B2 H2 s1 s2 s3,ev⟩,fun x H3 ⟨e3,y⟩=>?_⟩
  subst e3
  have:=y vs (hq B2 _ s1 s2 s3)
  rw [ev] at this
  cases this
  exact ⟨B2,Grow.refl s3,IsD.mono s1 d _ iv⟩
 stop:=fun B2 H2 s1 s2 s3=>⟨vs,hq B2 H2 s1 s2 s3,by rw [hd.len];exact Nat.le_refl _⟩
def qC4 (n:Nat):List D:=(List.range n).map fun (i:Nat)=>D.int (i:Int)
theorem qLs {n:Nat}:IterOf K B (Itr 0 n) (qC4 n) qE5 where
 go:=fun i d B2 H2 e s1 s2 s3=>by
  unfold qC4 at e
  rw [List.getElem?_map] at e
  have hi:i < n:=by
   cases q:(List.range n)[i]? with
   | none=>rw [q] at e;cases e
   | some j=>
    have:=(List.getElem?_eq_some_iff.mp q).1
    simpa using this
  rw [List.getElem?_range hi] at e
  cases e
  refine ⟨hi,fun x H3 ⟨e3,y⟩=>?_⟩
  subst e3 y
  exact ⟨B2,Grow.refl s3,by simp [IsD]⟩
 stop:=fun B2 H2 s1 s2 s3=>by
  show n≤(qC4 n).length
  unfold qC4
  simp
end
section
variable {X:Cx}{Ew:XW}{Wr Wr':List Nat}{tg iter e c:Expr}{es:List Expr}{body:List Stmt}{pos p:Pos}{g:qAi→Rs W}{h:qAi→Rs Fl}
def qKt (K:PySem.W.Frag)(B H:Hp)(σ:L2.St)(δ:qAi)(ds:List D)(v:V)(fr:Bool):Prop:=
 ∃ a vs Pn,v=.ref a∧IsDs K B ds vs∧qA5 Pn H∧(fr=true→qb9 σ δ Pn)∧
  ((SqL K H a vs∧∀ B2 H2,qA5 B B2→qA5 Pn H2→qA5 B2 H2→SqL K H2 a vs)∨(SqT K H a vs∧∀ B2 H2,qA5 B B2→qA5 Pn H2→qA5 B2 H2→SqT K H2 a vs))
def qcn (z:Str):List D:=z.cps.toList.map fun c=>D.str ⟨#[c]⟩
theorem qad {K:PySem.W.Frag}{B:Hp}{z:Str}:IterOf K B (Its z) (qcn z) qE5 where
 go:=fun i d B2 H2 e s1 s2 s3=>by
  unfold qcn at e
  rw [List.getElem?_map] at e
  cases q:z.cps.toList[i]? with
  | none=>rw [q] at e;cases e
  | some c=>
   rw [q] at e
   cases e
   have q':z.cps[i]?=some c:=by simpa using q
   refine ⟨(Array.getElem?_eq_some_iff.mp q').1,fun x H3 ⟨e3,c',y1,y2⟩=>?_⟩
   subst e3
   rw [q'] at y1
   cases y1
   subst y2
   exact ⟨B2,Grow.refl s3,by simp [IsD]⟩
 stop:=fun B2 H2 s1 s2 s3=>by
  show (qcn z).length=z.cps.size
  unfold qcn
  simp
def W.walk:W→Rs (List D):=fun w=>match w.items with
 | some (_,ds)=>.ok ds
 | none=>match w with
  | .im (.str z)=>.ok (qcn z)
  | _=>.no
theorem qN4 {K:PySem.W.Frag}{B H:Hp}{σ:L2.St}{δ:qAi}{d:D}{ds:List D}{v:V}{k:Bool}{fr:Bool}(hs:qA5 B H)(hd:IsD K B d v)(e:(W.im d).items=some (k,ds)):qKt K B H σ δ ds v fr:=by
 cases d with
 | lst es=>
  cases e
  obtain ⟨a,vs,rfl,e2,e3⟩:=hd
  exact ⟨a,vs,qE5,rfl,e3,qCu,fun _ _ _ _ _ _ _=>rfl,.inl ⟨hs.seq e2,fun B2 H2 s1 _ s3=>s3.seq (s1.seq e2)⟩⟩
 | tup es=>
  cases e
  obtain ⟨a,vs,rfl,e2,e3⟩:=hd
  exact ⟨a,vs,qE5,rfl,e3,qCu,fun _ _ _ _ _ _ _=>rfl,.inr ⟨qA5.tp hs e2,fun B2 H2 s1 _ s3=>qA5.sqT s3 (qA5.tp s1 e2)⟩⟩
 | _=>cases e
theorem qU6 {K:PySem.W.Frag}{B H:Hp}{σ:L2.St}{δ:qAi}{ds:List D}{a:Addr}{vs:List V}{fr:Bool}(hr:Rd H a (.lst vs))(hd:IsDs K B ds vs)(hf:∀ o,H a=some o→fr=true→qb9 σ δ (qE3 a o)):qKt K B H σ δ ds (.ref a) fr:=by
 rcases hr with e | ⟨o,e⟩
 ·exact ⟨a,vs,qE3 a (.lst vs),rfl,hd,qEi e,hf _ e,.inl ⟨SqL.of e,fun B2 H2 _ s2 _=>SqL.of (s2 a _ qE2)⟩⟩
 ·exact ⟨a,vs,qE3 a (.frz o (.lst vs)),rfl,hd,qEi e,hf _ e,.inl ⟨.inl (.inr ⟨o,e⟩),fun B2 H2 _ s2 _=>.inl (.inr ⟨o,s2 a _ qE2⟩)⟩⟩
theorem qcp {K:PySem.W.Frag}{B H:Hp}{σ:L2.St}{δ:qAi}{w:W}{ds:List D}{v:V}{k:Bool}(hs:qA5 B H)(hw:Rdw K B H w v)(e:w.items=some (k,ds)):qKt K B H σ δ ds v false:=by
 cases w with
 | li f es=>
  cases e
  obtain ⟨a,vs,rfl,e2,e3⟩:=hw
  exact qU6 e2 e3 fun _ _ z=>by cases z
 | im d=>exact qN4 hs hw e
theorem qQn {B H:Hp}{σ:L2.St}{δ:qAi}{ds:List D}{v:V}{fr:Bool}{R':It→Hp→Prop}(h:qKt X.K B H σ δ ds v fr)(q:∀ J Pn,IterOf X.K B J ds Pn→qA5 Pn H→(fr=true→qb9 σ δ Pn)→R' J H) :
  ∃ a,v=.ref a∧(((∃ xs,SqL X.K H a xs)∧R' (Itl X.K a) H)∨((∃ xs,SqT X.K H a xs)∧R' (Itt X.K a) H)):=by
 obtain ⟨a,vs,Pn,e1,e2,e3,e4,e5⟩:=h
 refine ⟨a,e1,?_⟩
 rcases e5 with ⟨h1,h2⟩ | ⟨h1,h2⟩
 ·exact .inl ⟨⟨vs,h1⟩,q _ Pn (qW2 h2 e2) e3 e4⟩
 ·exact .inr ⟨⟨vs,h1⟩,q _ Pn (qac h2 e2) e3 e4⟩
theorem qCp (he:PX X Ew e g):PXc X Ew tg e (fun δ=>g δ>>=W.walk):=by
 obtain ⟨te,h1,h2⟩:=he
 refine ⟨_,qV8 h1,fun B0 F0 P B H σ δ R' r p=>h2 B0 F0 P B H σ δ _ r #[61]⟩
 unfold W.walk at p1
 split at p1
 ·rename_i k ds ek
  exact .inl (qQn (qcp (σ:=σ) (δ:=δ) g1.bh hw.rd ek) fun J Pn hJ hP _=>p1 B1 H1 #[44] J Pn hJ hP)
 ·split at p1
  ·rename_i z _
   exact .inr ⟨z,hw,p1 B1 H1 #[44] _ qE5 qad qCu⟩
  ·exact p1.elim
def W.walkN:W→Rs (List D)
 | .li true ds=>.ok ds
 | .im (.lst ds)=>.ok ds
 | .im (.tup ds)=>.ok ds
 | _=>.no
theorem qDy {K:PySem.W.Frag}{B0 F0 P B H:Hp}{σ:L2.St}{δ:qAi}(r:R K B0 F0 P B H σ δ){i:Nat}{s:Sl}{a:Addr}(e:δ[i]?=some s)(o:s.isOwn=true)(z:σ[i]?=some #[31]):F0 a=none∧P a=none∧B a=none∧∃ u,H a=some u:=by
 cases s with
 | own ds=>
  obtain ⟨c,vs,e1,e2,e3,e4,e5,e6⟩:=r.sl i _ e
  rw [z] at e1
  cases e1
  exact ⟨e2,e3,e4,_,e5⟩
 | dct ks=>
  obtain ⟨c,vs,e1,e2,e3,e4,e5,e6⟩:=r.sl i _ e
  rw [z] at e1
  cases e1
  exact ⟨e2,e3,e4,_,e5⟩
 | dtt ks=>
  obtain ⟨c,vs,e1,e2,e3,e4,e5,e6⟩:=r.sl i _ e
  rw [z] at e1
  cases e1
  exact ⟨e2,e3,e4,_,e5⟩
 | _=>cases o
theorem qco {B0 F0 P B H B1 H1:Hp}{σ:L2.St}{δ:qAi}{w:W}{v:V}{ds:List D}(r:R X.K B0 F0 P B H σ δ)(g1:Grow B H B1 H1)(hw:IsW X.K B1 H H1 w v)(e:w.walkN=.ok ds):qKt X.K B1 H1 σ δ ds v true:=by
 cases w with
 | li f es=>
  cases f with
  | false=>cases e
  | true=>
   cases e
   obtain ⟨a,vs,rfl,e2,e3,e4,e5⟩:=hw
   refine qU6 (Rd.of e4) e5 fun o eo _ i s b q1 q2 q3=>?_
   obtain ⟨_,_,_,u,hu⟩:=qDy r q1 q2 q3
   exact qOz fun z=>by subst z;rw [e2] at hu;cases hu
 | im d=>
  cases d with
  | lst es=>cases e;exact qN4 g1.bh hw rfl
  | tup es=>cases e;exact qN4 g1.bh hw rfl
  | _=>cases e
theorem qQl {w:W}{x:XD}:w.walkN≠.ex x:=by
 intro e
 cases w with
 | li f ds=>cases f <;> cases e
 | im d=>cases d <;> cases e
theorem qEz (he:PX X Ew e g):PXi X Ew tg e (fun δ=>g δ>>=W.walkN):=by
 obtain ⟨te,h1,h2⟩:=he
 refine ⟨_,qV8 h1,fun B0 F0 P B H σ δ R' r p=>h2 B0 F0 P B H σ δ _ r #[61]⟩
 cases ew:w.walkN with
 | no=>rw [ew] at p1;exact p1.elim
 | ex x=>exact (qQl ew).elim
 | ok ds=>
  rw [ew] at p1
  exact .inl (qQn (qco r g1 hw ew) fun J Pn hJ hP hF=>p1 B1 H1 #[44] J Pn hJ hP (hF rfl))
def qFq (i:Nat):qAi→Rs (List D):=fun δ=>match δ[i]? with
 | some (.rd ds)=>.ok ds
 | some (.im (.lst ds))=>.ok ds
 | some (.im (.tup ds))=>.ok ds
 | _=>.no
theorem qI9 {i:Nat}{δ:qAi}{x:XD}:qFq i δ≠.ex x:=by
 intro e
 unfold qFq at e
 split at e <;> cases e
theorem qU5 {B0 F0 P B H:Hp}{σ:L2.St}{δ:qAi}{i:Nat}{ds:List D}(r:R X.K B0 F0 P B H σ δ)(e:qFq i δ=.ok ds):∃ v,σ[i]?=some (some v)∧qKt X.K B H σ δ ds v true:=by
 unfold qFq at e
 split at e
 ·rename_i es ei
  cases e
  obtain ⟨a,vs,e1,e2,e3⟩:=r.sl i _ ei
  have fr:∀ o,F0 a=some o→qb9 σ δ (qE3 a o):=fun o eo j s b q1 q2 q3=>qOz fun z=>by
   subst z
   obtain ⟨hf,_⟩:=qDy r q1 q2 q3
   rw [hf] at eo;cases eo
  refine ⟨_,e1,qU6 (qA5.rdl r.fh e2) e3 fun o eo _=>?_⟩
  rcases e2 with z | ⟨ob,z⟩
  ·have:=r.fh _ _ z
   rw [eo] at this;cases this
   exact fr _ z
  ·have:=r.fh _ _ z
   rw [eo] at this;cases this
   exact fr _ z
 ·rename_i es ei
  cases e
  obtain ⟨v,e1,hd⟩:=r.sl i _ ei
  exact ⟨v,e1,qN4 r.bh hd rfl⟩
 ·rename_i es ei
  cases e
  obtain ⟨v,e1,hd⟩:=r.sl i _ ei
  exact ⟨v,e1,qN4 r.bh hd rfl⟩
 ·cases e
theorem qVv (i:Nat){x:Str}(hN:X.N[i]?=some x:=by rfl)(hv:Vis X.env.scope x:=by first | exact Or.inl rfl | exact Or.inr (Or.inl rfl) | exact Or.inr (Or.inr rfl))(hd:#[25]=false:=by decide)
  (hcd:#[48]=false:=by decide):PXi X Ew tg (.Name x pos) (qFq i):=by
 refine ⟨_,qV8 (qC5 hN hv hd hcd),fun B0 F0 P B H σ δ R' r p=>?_⟩
 cases ew:qFq i δ with
 | no=>rw [ew] at p;exact p.elim
 | ex x=>exact (qI9 ew).elim
 | ok ds=>
  rw [ew] at p
  obtain ⟨v,e1,sr⟩:=qU5 r ew
  exact ⟨v,e1,.inl (qQn sr fun J Pn hJ hP hF=>p B H #[49] J Pn hJ hP (hF rfl))⟩
def qFt (ds:List D):List D:=ds.zipIdx.map fun x=>D.tup [.int (x.2:Int),x.1]
def qRl (ds:List D):Rs (List D):=.ok (qFt ds)
theorem qS5 {ds:List D}{i:Nat}{d:D}(h:(qFt ds)[i]?=some d):∃ x,ds[i]?=some x∧d=.tup [.int (i:Int),x]:=by
 unfold qFt at h
 rw [List.getElem?_map,List.getElem?_zipIdx] at h
 cases q:ds[i]? with
 | none=>rw [q] at h;cases h
 | some x=>
  rw [q] at h
  simp at h
  exact ⟨x,rfl,h.symm⟩
theorem qUa {K:PySem.W.Frag}{B:Hp}{a:Addr}{vs:List V}{ds:List D}{Pn:Hp}(hq:∀ B2 H2,qA5 B B2→qA5 Pn H2→qA5 B2 H2→SqL K H2 a vs)(hd:IsDs K B ds vs):IterOf K B (IeL K a) (qFt ds) Pn where
 go:=fun i d B2 H2 e s1 s2 s3=>by
  obtain ⟨x,ex,rfl⟩:=qS5 e
  obtain ⟨v,ev,iv⟩:=hd.get ex
  refine ⟨⟨vs,v,hq B2 H2 s1 s2 s3,ev⟩,fun y H3 ⟨p,v',e1,e2,e3,e4⟩=>?_⟩
  have:=e3 vs (hq B2 H2 s1 s2 s3)
  rw [ev] at this
  cases this
  subst e1 e4
  have sm:qA5 B2 (upd B2 p (.tup [.int (i:Int),v])):=fun b u z=>by rw [qAr (qAn z (s3.free e2))];exact z
  exact ⟨_,Grow.newB s3 e2,p,_,rfl,qAu,.int i,[v],rfl,by simp [IsD],v,[],rfl,IsD.mono sm _ _ (IsD.mono s1 _ _ iv),rfl⟩
 stop:=fun B2 H2 s1 s2 s3=>⟨vs,hq B2 H2 s1 s2 s3,by unfold qFt;simp [hd.len]⟩
theorem qT9 {K:PySem.W.Frag}{B:Hp}{a:Addr}{vs:List V}{ds:List D}{Pn:Hp}(hq:∀ B2 H2,qA5 B B2→qA5 Pn H2→qA5 B2 H2→SqT K H2 a vs)(hd:IsDs K B ds vs):IterOf K B (IeT K a) (qFt ds) Pn where
 go:=fun i d B2 H2 e s1 s2 s3=>by
  obtain ⟨x,ex,rfl⟩:=qS5 e
  obtain ⟨v,ev,iv⟩:=hd.get ex
  refine ⟨⟨vs,v,hq B2 H2 s1 s2 s3,ev⟩,fun y H3 ⟨p,v',e1,e2,e3,e4⟩=>?_⟩
  have:=e3 vs (hq B2 H2 s1 s2 s3)
  rw [ev] at this
  cases this
  subst e1 e4
  have sm:qA5 B2 (upd B2 p (.tup [.int (i:Int),v])):=fun b u z=>by rw [qAr (qAn z (s3.free e2))];exact z
  exact ⟨_,Grow.newB s3 e2,p,_,rfl,qAu,.int i,[v],rfl,by simp [IsD],v,[],rfl,IsD.mono sm _ _ (IsD.mono s1 _ _ iv),rfl⟩
 stop:=fun B2 H2 s1 s2 s3=>⟨vs,hq B2 H2 s1 s2 s3,by unfold qFt;simp [hd.len]⟩
theorem qYv {B H:Hp}{σ:L2.St}{δ:qAi}{ds:List D}{v:V}{fr:Bool}{R':It→Hp→Prop}(h:qKt X.K B H σ δ ds v fr)(q:∀ J Pn,IterOf X.K B J (qFt ds) Pn→qA5 Pn H→(fr=true→qb9 σ δ Pn)→R' J H) :
  ∃ a,[v]=[V.ref a]∧(((∃ xs,SqL X.K H a xs)∧R' (IeL X.K a) H)∨((∃ xs,SqT X.K H a xs)∧R' (IeT X.K a) H)):=by
 obtain ⟨a,vs,Pn,e1,e2,e3,e4,e5⟩:=h
 refine ⟨a,by rw [e1],?_⟩
 rcases e5 with ⟨h1,h2⟩ | ⟨h1,h2⟩
 ·exact .inl ⟨⟨vs,h1⟩,q _ Pn (qUa h2 e2) e3 e4⟩
 ·exact .inr ⟨⟨vs,h1⟩,q _ Pn (qT9 h2 e2) e3 e4⟩
theorem qGs {elts:List Expr}{kk:Nat}{tpos p2:Pos}(i:Nat){x:Str}(hg:Gl X "enumerate")(hm:X.mg "enumerate"=none)(hN:X.N[i]?=some x:=by rfl)(hv:Vis X.env.scope x:=by first | exact Or.inl rfl | exact Or.inr (Or.inl rfl) | exact Or.inr (Or.inr rfl))(hd:#[25]=false:=by decide)
  (hcd:#[48]=false:=by decide) (hs:starEach [.Name x p2] X.env=[#[85]]:=by rfl) (hs2:starEach [.Name x p2] X.env=#[85]::starEach [] X.env:=by rfl) :
  PXi X Ew (.Tuple elts kk tpos) (.Call (.Name "enumerate" p) [.Name x p2] [] pos) (fun δ=>qFq i δ>>=qRl):=by
 refine ⟨_,qdh hg hm (qCq (qC5 hN hv hd hcd) qD8 hs2) hs,fun B0 F0 P B H σ δ R' r p=>?_⟩
 have p':Pst Ew B H (fun ds B' H'=>∀ J Pn,IterOf X.K B' J ds Pn→qA5 Pn H'→qb9 σ δ Pn→R' J H') (qFq i δ>>=qRl):=p
 cases ew:qFq i δ with
 | no=>rw [ew] at p';exact p'.elim
 | ex x=>exact (qI9 ew).elim
 | ok ds=>
  rw [ew] at p'
  obtain ⟨v,e1,sr⟩:=qU5 r ew
  exact ⟨v,e1,qYv sr fun J Pn hJ hP hF=>p' B H #[49] J Pn hJ hP (hF rfl)⟩
def qYg:List W→Rs (List D)
 | [.im (.int j)]=>if -(2 ^ 62)≤j∧j < 2 ^ 62 then .ok (qC4 j.toNat) else .no
 | _=>.no
theorem qVm {ta:TA}{ka:qAi→Rs (List W)}(h2:∀ (B0 F0 P B H:Hp) (σ:L2.St) (δ:qAi) (Q:List V→Hp→Prop),R X.K B0 F0 P B H σ δ→qYc X.K Ew B H (ka δ) Q→ta σ H Q)
  {B0 F0 P B H:Hp} {σ:L2.St} {δ:qAi} {R':It→Hp→Prop} {A:List D→Hp→Hp→Prop} (r:R X.K B0 F0 P B H σ δ) (p:Pst Ew B H A (ka δ>>=qYg)) (hA:∀ n B' H',A (qC4 n) B' H'→R' (Itr 0 n) H'):iRng1 ta σ H R':=by
 refine h2 B0 F0 P B H σ δ _ r #[99]
 unfold qYg at p1
 split at p1
 ·rename_i j
  split at p1
  ·rename_i hj
   obtain ⟨v,rr,rfl,e2,e3⟩:=hw
   cases (show rr=[] from e3)
   exact ⟨j,by rw [show v=.int j from e2],hj.1,hj.2,hA _ B1 H1 (p1 B1 H1 #[44])⟩
  ·exact p1.elim
 ·exact p1.elim
theorem qJs {a:Expr}{ka:qAi→Rs (List W)}(hg:Gl X "range")(hm:X.mg "range"=none)(ha:PXa X Ew [a] ka)(hs:starEach [a] X.env=[(false,eval a X.env)]:=by rfl):PXi X Ew tg (.Call (.Name "range" p) [a] [] pos) (fun δ=>ka δ>>=qYg):=by
 obtain ⟨ta,h1,h2⟩:=ha
 exact ⟨_,qOu hg hm h1 hs,fun B0 F0 P B H σ δ R' r p=>qVm h2 r p fun n B' H' q=>q _ qE5 qLs qCu fun _ _ _ _ _ _=>rfl⟩
theorem qVw {a:Expr}{ka:qAi→Rs (List W)}(hg:Gl X "range")(hm:X.mg "range"=none)(ha:PXa X Ew [a] ka)(hs:starEach [a] X.env=[(false,eval a X.env)]:=by rfl):PXc X Ew tg (.Call (.Name "range" p) [a] [] pos) (fun δ=>ka δ>>=qYg):=by
 obtain ⟨ta,h1,h2⟩:=ha
 exact ⟨_,qOu hg hm h1 hs,fun B0 F0 P B H σ δ R' r p=>qVm h2 r p fun n B' H' q=>q _ qE5 qLs qCu⟩
def qEv (t:D→qAi→Rs qAi)(b:qAi→Rs Fl):List D→qAi→Rs Fl
 | [],δ=>.ok (.nx δ)
 | d::ds,δ=>match t d δ with
  | .ok δ1=>(match b δ1 with
   | .ok (.nx δ2)=>qEv t b ds δ2
   | .ok (.ct δ2)=>qEv t b ds δ2
   | .ok (.bk δ2)=>.ok (.nx δ2)
   | .ok (.rt w)=>.ok (.rt w)
   | .ok (.rl d δ2)=>.ok (.rl d δ2)
   | .no=>.no
   | .ex x=>.ex x)
  | _=>.no
def qLr (Pn P:Hp):Hp:=fun a=>match Pn a with
 | some o=>some o
 | none=>P a
section
variable {K:PySem.W.Frag}{B0 F0 P Pn B Bs H:Hp}{σ:L2.St}{δ:qAi}
theorem R.base (r:R K B0 F0 P B H σ δ):R K B F0 P B H σ δ:=⟨qA5.refl _,fun _ _ e=>.inl e,r.fh,r.ph,r.bh,r.len,r.sl,r.ne⟩
theorem R.unbase (r:R K Bs F0 P B H σ δ)(h1:qA5 B0 Bs)(h2:∀ a o,Bs a=some o→B0 a=some o∨Nw F0 a o):R K B0 F0 P B H σ δ:=
 ⟨h1.trans r.b0,fun a o e=>(r.nw a o e).elim (fun z=>h2 a o z) .inr,r.fh,r.ph,r.bh,r.len,r.sl,r.ne⟩
theorem qew.pin {ov:Option (Option V)}{s:Sl}{P':Hp}(h:qew K F0 P B H ov s)(hp:∀ a,s.isOwn=true→ov=some #[31]→P' a=none):qew K F0 P' B H ov s:=by
 cases s with
 | own ds=>
  obtain ⟨a,vs,e1,e2,e3,e4,e5,e6⟩:=h
  exact ⟨a,vs,e1,e2,hp a rfl e1,e4,e5,e6⟩
 | dct ks=>
  obtain ⟨a,vs,e1,e2,e3,e4,e5,e6⟩:=h
  exact ⟨a,vs,e1,e2,hp a rfl e1,e4,e5,e6⟩
 | dtt ks=>
  obtain ⟨a,vs,e1,e2,e3,e4,e5,e6⟩:=h
  exact ⟨a,vs,e1,e2,hp a rfl e1,e4,e5,e6⟩
 | _=>exact h
theorem R.pin (r:R K B0 F0 P B H σ δ)(hs:qA5 Pn H)(hf:qb9 σ δ Pn):R K B0 F0 (qLr Pn P) B H σ δ where
 b0:=r.b0
 nw:=r.nw
 fh:=r.fh
 ph:=fun a o e=>by
  unfold qLr at e
  split at e
  ·rename_i o' q
   cases e
   exact hs a _ q
  ·exact r.ph a o e
 bh:=r.bh
 len:=r.len
 sl:=fun i s e=>(r.sl i s e).pin fun a o z=>by
  unfold qLr
  rw [hf i s a e o z]
  exact (qDy r e o z).2.1
 ne:=r.ne
theorem R.unpin (r:R K B0 F0 (qLr Pn P) B H σ δ)(hP:qA5 P (qLr Pn P)):R K B0 F0 P B H σ δ where
 b0:=r.b0
 nw:=r.nw
 fh:=r.fh
 ph:=hP.trans r.ph
 bh:=r.bh
 len:=r.len
 sl:=fun i s e=>(r.sl i s e).pin fun a o z=>by
  have:=(qDy r e o z).2.1
  unfold qLr at this
  split at this
  ·cases this
  ·exact this
 ne:=r.ne
end
theorem qW0 {Pn P H:Hp}(h:qA5 (qLr Pn P) H):qA5 Pn H:=fun a o e=>h a o (by unfold qLr;rw [e])
theorem join_p {Pn P H:Hp}(h1:qA5 Pn H)(h2:qA5 P H):qA5 P (qLr Pn P):=fun a o e=>by
 unfold qLr
 split
 ·rename_i o' q
  have z1:=h1 a _ q
  have z2:=h2 a _ e
  rw [z1] at z2
  exact z2
 ·exact e
theorem qCf {gi:qAi→Rs (List D)}{t:D→qAi→Rs qAi}(hp:PassesOwn #[12] X.A X.env X.xe)(hc:X.calm=true)(hi:PXi X Ew tg iter gi)(hg:PXg X Wr tg t)(hb:qRt X Ew Wr' body h)
  (hs:∀ x,foldedSetIterable iter X.env x=pure x:=by intro _;rfl):PSX X Ew (Wr++Wr') (.For tg iter body [] pos) (fun δ=>gi δ>>=fun ds=>qEv t h ds δ):=by
 obtain ⟨wi,i1,i2⟩:=hi
 obtain ⟨tt,g1,g2⟩:=hg
 obtain ⟨tb,b1,b2⟩:=hb
 refine ⟨_,ps_for hp hc i1 g1 b1 hs,fun B0 F0 P B H σ δ D r p=>i2 B0 F0 P B H σ δ _ r ((qB5.bind r p).mono fun ds Bs Hs gs ps J Pn hJ hPn hfree=>?_)⟩
 have rs:=r.grow gs
 have hcomp:qA5 P (qLr Pn P):=join_p hPn rs.ph
 have out:∀ {B' H':Hp} {σ':L2.St} {δ':qAi},R X.K Bs F0 (qLr Pn P) B' H' σ' δ'→R X.K B0 F0 P B' H' σ' δ':=fun r'=>(r'.unpin hcomp).unbase rs.b0 rs.nw
 refine ⟨fun i m σ' H'=>m + i=ds.length∧∃ B' δ',R X.K Bs F0 (qLr Pn P) B' H' σ' δ'∧(∀ j,j∉Wr++Wr'→σ'[j]?=σ[j]?)∧qB5 X.K Ew B0 F0 P (Wr++Wr') σ (qEv t h (ds.drop i) δ') D,
  ⟨ds.length,rfl,Bs,δ,(rs.base.pin hPn hfree),fun _ _=>rfl,ps⟩,?_⟩
 rintro i m σ1 H1 ⟨hm,B1,δ1,r1,fr1,p1⟩
 by_cases hlt:i < ds.length
 ·have ed:ds[i]?=some ds[i]:=List.getElem?_eq_getElem hlt
  rw [List.drop_eq_getElem_cons hlt] at p1
  obtain ⟨go,yld⟩:=hJ.go i ds[i] B1 H1 ed r1.b0 (qW0 r1.ph) r1.bh
  refine .inr ⟨go,fun σ' H'=>∃ B' δ',R X.K Bs F0 (qLr Pn P) B' H' σ' δ'∧(∀ j,j∉Wr++Wr'→σ'[j]?=σ[j]?)∧qB5 X.K Ew B0 F0 P (Wr++Wr') σ (qEv t h #[59] δ') D,
   fun σ' H' ⟨B',δ',q1,q2,q3⟩=>⟨m - 1,by omega,by omega,B',δ',q1,q2,q3⟩,fun x H2 y=>?_⟩
  obtain ⟨B2,gr2,d2⟩:=yld x H2 y
  have r2:=r1.grow gr2
  have p1':qB5 X.K Ew B0 F0 P (Wr++Wr') σ (match t ds[i] δ1 with
   | .ok δ1=>(match h δ1 with
    | .ok (.nx δ2)=>qEv t h #[59] δ2
    | .ok (.ct δ2)=>qEv t h #[59] δ2
    | .ok (.bk δ2)=>.ok (.nx δ2)
    | .ok (.rt w)=>.ok (.rt w)
    | .ok (.rl d δ2)=>.ok (.rl d δ2)
    | .no=>.no
    | .ex x=>.ex x)
   | _=>.no) D:=p1
  cases et:t ds[i] δ1 with
  | no=>rw [et] at p1';exact p1'.elim
  | ex x=>rw [et] at p1';exact p1'.elim
  | ok δ2=>
   rw [et] at p1'
   refine g2 Bs F0 (qLr Pn P) B2 H2 σ1 δ1 δ2 ds[i] x _ r2 d2 et fun σ3 r3 f3=>?_
   have fr3:∀ j,j∉Wr++Wr'→σ3[j]?=σ[j]?:=fun j hj=>(f3 j fun z=>hj (List.mem_append_left _ z)).trans (fr1 j hj)
   refine b2 Bs F0 (qLr Pn P) B2 H2 σ3 δ2 _ r3 ?_
   have p2:qB5 X.K Ew B0 F0 P (Wr++Wr') σ (match h δ2 with
    | .ok (.nx δ2)=>qEv t h #[59] δ2
    | .ok (.ct δ2)=>qEv t h #[59] δ2
    | .ok (.bk δ2)=>.ok (.nx δ2)
    | .ok (.rt w)=>.ok (.rt w)
    | .ok (.rl d δ2)=>.ok (.rl d δ2)
    | .no=>.no
    | .ex x=>.ex x) D:=p1'
   cases eh:h δ2 with
   | no=>rw [eh] at p2;exact p2
   | ex x=>
    rw [eh] at p2
    intro B' H' gg
    exact p2 B' H' ⟨rs.b0.trans gg.sb,gg.sh,gg.bh,fun a o e=>(gg.nw a o e).elim (fun z=>rs.nw a o z) .inr⟩
   | ok f=>
    rw [eh] at p2
    cases f with
    | nx δ4=>exact fun B' H' σ' r' f'=>⟨B',δ4,r',fun j hj=>(f' j fun z=>hj (List.mem_append_right _ z)).trans (fr3 j hj),p2⟩
    | ct δ4=>exact fun B' H' σ' r' f'=>⟨B',δ4,r',fun j hj=>(f' j fun z=>hj (List.mem_append_right _ z)).trans (fr3 j hj),p2⟩
    | bk δ4=>exact fun B' H' σ' r' f'=>p2 B' H' σ' (out r') fun j hj=>(f' j fun z=>hj (List.mem_append_right _ z)).trans (fr3 j hj)
    | rl d δ4=>exact fun v B' H' σ' r' f'=>p2 v B' H' σ' (out r') fun j hj=>(f' j fun z=>hj (List.mem_append_right _ z)).trans (fr3 j hj)
    | rt w=>exact fun v B' H' gg hw=>p2 v B' H' ⟨rs.b0.trans gg.sb,gg.sh,gg.bh,fun a o e=>(gg.nw a o e).elim (fun z=>rs.nw a o z) .inr⟩ hw
 ·have e:i=ds.length:=by omega
  subst e
  rw [List.drop_length] at p1
  exact .inl ⟨hJ.stop B1 H1 r1.b0 (qW0 r1.ph) r1.bh,p1 B1 H1 σ1 (out r1) fr1⟩
def qCb (t:qAi→Rs Bool)(b:qAi→Rs Fl):Nat→qAi→Rs Fl
 | 0,_=>.no
 | n + 1,δ=>t δ>>=fun c=>if c=true then (match b δ with
  | .ok (.nx δ2)=>qCb t b n δ2
  | .ok (.ct δ2)=>qCb t b n δ2
  | .ok (.bk δ2)=>.ok (.nx δ2)
  | .ok (.rt w)=>.ok (.rt w)
  | .ok (.rl d δ2)=>.ok (.rl d δ2)
  | .no=>.no
  | .ex x=>.ex x) else .ok (.nx δ)
theorem qE1 (n:Nat){t:qAi→Rs Bool}(hp:PassesOwn #[12] X.A X.env X.xe)(hc:PXt X Ew c t)(hb:qRt X Ew Wr body h):PSX X Ew Wr (.While c body [] pos) (qCb t h n):=by
 obtain ⟨tc,c1,c2⟩:=hc
 obtain ⟨tb,b1,b2⟩:=hb
 refine ⟨_,qZo hp c1 b1,fun B0 F0 P B H σ δ D r p=>?_⟩
 refine ⟨fun m σ' H'=>∃ B' δ',R X.K B0 F0 P B' H' σ' δ'∧(∀ j,j∉Wr→σ'[j]?=σ[j]?)∧qB5 X.K Ew B0 F0 P Wr σ (qCb t h m δ') D,⟨n,B,δ,r,fun _ _=>rfl,p⟩,?_⟩
 rintro m σ1 H1 ⟨B1,δ1,r1,fr1,p1⟩
 cases m with
 | zero=>exact False.elim p1
 | succ m=>
  have p1':qB5 X.K Ew B0 F0 P Wr σ (t δ1>>=fun c=>if c=true then (match h δ1 with
   | .ok (.nx δ2)=>qCb t h m δ2
   | .ok (.ct δ2)=>qCb t h m δ2
   | .ok (.bk δ2)=>.ok (.nx δ2)
   | .ok (.rt w)=>.ok (.rt w)
   | .ok (.rl d δ2)=>.ok (.rl d δ2)
   | .no=>.no
   | .ex x=>.ex x) else .ok (.nx δ1)) D:=p1
  refine c2 B0 F0 P B1 H1 σ1 δ1 _ r1 ((qB5.bind r1 p1').mono fun b B2 H2 gr p2=>?_)
  have r2:=r1.grow gr
  cases b with
  | false=>
   rw [if_neg Bool.false_ne_true] at p2
   dsimp only
   rw [if_neg Bool.false_ne_true]
   exact p2 B2 H2 σ1 r2 fr1
  | true=>
   rw [if_pos rfl] at p2
   dsimp only
   rw [if_pos rfl]
   refine ⟨fun σ' H'=>∃ B' δ',R X.K B0 F0 P B' H' σ' δ'∧(∀ j,j∉Wr→σ'[j]?=σ[j]?)∧qB5 X.K Ew B0 F0 P Wr σ (qCb t h m δ') D,fun σ' H' q=>⟨m,Nat.lt_succ_self m,q⟩,?_⟩
   refine b2 B0 F0 P B2 H2 σ1 δ1 _ r2 ?_
   cases eh:h δ1 with
   | no=>rw [eh] at p2;exact p2
   | ex x=>rw [eh] at p2;exact p2
   | ok f=>
    rw [eh] at p2
    cases f with
    | nx δ4=>exact fun B' H' σ' r' f'=>⟨B',δ4,r',fun j hj=>(f' j hj).trans (fr1 j hj),p2⟩
    | ct δ4=>exact fun B' H' σ' r' f'=>⟨B',δ4,r',fun j hj=>(f' j hj).trans (fr1 j hj),p2⟩
    | bk δ4=>exact fun B' H' σ' r' f'=>p2 B' H' σ' r' fun j hj=>(f' j hj).trans (fr1 j hj)
    | rl d δ4=>exact fun v B' H' σ' r' f'=>p2 v B' H' σ' r' fun j hj=>(f' j hj).trans (fr1 j hj)
    | rt w=>exact p2
end
open PySem PySem.Spec PyProof.Rows L2
def teS (X:Cx)(e:Expr):TE:=fun σ H Q=>∀ pins s,Inv X pins σ H s→wpAny #[12] X.A (eval e X.env) (EP X pins σ Q) X.xe s
def ttS (X:Cx)(ifs:List Expr):TT:=fun σ H Q=>∀ pins s,Inv X pins σ H s→
 wpAny #[12] X.A (forIn ifs true fun c r=>if r=true then do let ok ←isTrue c X.env (eval c X.env);pure (ForInStep.yield ok) else pure (ForInStep.yield r)) (TP X pins σ Q) X.xe s
def PXts (X:Cx)(Ew:XW)(ifs:List Expr)(g:qAi→Rs Bool):Prop:=
 ∃ tt:TT,PTs X ifs tt∧∀ (B0 F0 P B H:Hp) (σ:L2.St) (δ:qAi) (Q:Bool→Hp→Prop),R X.K B0 F0 P B H σ δ→qUt Ew B H (g δ) Q→tt σ H Q
theorem qCx {X:Cx}{Ew:XW}:PXts X Ew [] #[43]:=⟨_,qc8,fun B0 F0 P B H σ δ Q r p=>p B H #[49]⟩
theorem qEg {X:Cx}{Ew:XW}{c:Expr}{t:qAi→Rs Bool}(h:PXt X Ew c t):PXts X Ew [c] t:=let ⟨tt,h1,h2⟩:=h;⟨tt,qc7 h1,h2⟩
def qGm (t:qAi→Rs Bool)(el:qAi→Rs D):List D→qAi→Rs (List D)
 | [],_=>.ok []
 | d::ds,δ=>t (.im d::δ)>>=fun b=>if b=true then el (.im d::δ)>>=fun y=>qGm t el ds δ>>=fun r=>.ok (y::r) else qGm t el ds δ
def qKn (t:qAi→Rs Bool)(el:qAi→Rs D)(ds:List D)(δ:qAi):Rs W:=if ds.length < lim then qGm t el ds δ>>=fun r=>.ok (.li true r) else .no
section
variable {K:PySem.W.Frag}{B0 F0 P B H:Hp}{σ:L2.St}{δ:qAi}
theorem R.push (r:R K B0 F0 P B H σ δ){d:D}{v:V}(h:IsD K B d v):R K B0 F0 P B H (some v::σ) (.im d::δ) where
 b0:=r.b0
 nw:=r.nw
 fh:=r.fh
 ph:=r.ph
 bh:=r.bh
 len:=by rw [List.length_cons,List.length_cons,r.len]
 sl:=fun i s e=>by
  cases i with
  | zero=>cases e;exact ⟨v,rfl,h⟩
  | succ i=>exact r.sl i s e
 ne:=fun i j s t a hij e1 e2 o1 o2 z1 z2=>by
  cases i with
  | zero=>cases e1;cases o1
  | succ i=>
   cases j with
   | zero=>cases e2;cases o2
   | succ j=>exact r.ne i j s t a (fun z=>hij (by rw [z])) e1 e2 o1 o2 z1 z2
theorem R.side (r:R K B0 F0 P B H σ δ){l:Addr}{o:HO}(h1:F0 l=none)(h2:P l=none)(h3:B l=none)(h4:∀ (i:Nat) (s:Sl),δ[i]?=some s→s.isOwn=true→σ[i]?≠some (some (.ref l))):R K B0 F0 P B (upd H l o) σ δ:=by
 have keep:∀ {G:Hp},qA5 G H→G l=none→qA5 G (upd H l o):=fun hs hn b u e=>by
  rw [qAr (qAn e hn)];exact hs b u e
 refine ⟨r.b0,r.nw,keep r.fh h1,keep r.ph h2,keep r.bh h3,r.len,fun i s e=>?_,r.ne⟩
 have:=r.sl i s e
 cases s with
 | own ds=>
  obtain ⟨a,vs,e1,e2,e3,e4,e5,e6⟩:=this
  have hne:a≠l:=fun z=>by subst z;exact h4 i _ e rfl e1
  exact ⟨a,vs,e1,e2,e3,e4,by rw [qAr hne];exact e5,e6⟩
 | dct ks=>
  obtain ⟨a,vs,e1,e2,e3,e4,e5,e6⟩:=this
  have hne:a≠l:=fun z=>by subst z;exact h4 i _ e rfl e1
  exact ⟨a,vs,e1,e2,e3,e4,by rw [qAr hne];exact e5,e6⟩
 | dtt ks=>
  obtain ⟨a,vs,e1,e2,e3,e4,e5,e6⟩:=this
  have hne:a≠l:=fun z=>by subst z;exact h4 i _ e rfl e1
  exact ⟨a,vs,e1,e2,e3,e4,by rw [qAr hne];exact e5,e6⟩
 | _=>exact this
end
section
variable {X:Cx}{Ew:XW}{elt iter:Expr}{x y:Str}{px py:Pos}{ifs:List Expr}{scope:Scope}{pos spos:Pos}
theorem qS8 {gi:qAi→Rs (List D)}{t:qAi→Rs Bool}{el:qAi→Rs D}{wi:TI}{tt:TT}{te:TE}
  (i2:∀ (B0 F0 P B H:Hp) (σ:L2.St) (δ:qAi) (R':It→Hp→Prop),R X.K B0 F0 P B H σ δ→Pst Ew B H (fun ds B' H'=>∀ J Pn,IterOf X.K B' J ds Pn→qA5 Pn H'→R' J H') (gi δ)→wi σ H R')
  (t2:∀ (B0 F0 P B H:Hp) (σ:L2.St) (δ:qAi) (Q:Bool→Hp→Prop),R X.K B0 F0 P B H σ δ→qUt Ew B H (t δ) Q→tt σ H Q)
  (e2:∀ (B0 F0 P B H:Hp) (σ:L2.St) (δ:qAi) (Q:VK),R X.K B0 F0 P B H σ δ→qa6 X.K Ew B H (el δ) Q→te σ H Q)
  (B0 F0 P B H:Hp) (σ:L2.St) (δ:qAi) (Q:VK) (r:R X.K B0 F0 P B H σ δ) (p:qHi X.K Ew B H (gi δ>>=fun ds=>qKn t el ds δ) Q):qcm wi tt te σ H Q:=by
 refine i2 B0 F0 P B H σ δ _ r ((Pst.bind p).mono fun ds B1 H1 g1 p1 J Pn hJ hPn l hl=>?_)
 have r1:=r.grow g1
 have lH:H l=none:=g1.sh.free hl
 have lB1:B1 l=none:=g1.bh.free hl
 have lF:F0 l=none:=r1.fh.free hl
 have lP:P l=none:=r1.ph.free hl
 have lPn:Pn l=none:=hPn.free hl
 have lown:∀ (i:Nat) (s:Sl),δ[i]?=some s→s.isOwn=true→σ[i]?≠some (some (.ref l)):=fun i s e o z=>by
  obtain ⟨_,_,_,u,hu⟩:=qDy r1 e o z
  rw [hl] at hu;cases hu
 have same_l:∀ {G G':Hp} {o:HO},qA5 G G'→G l=none→qA5 G (upd G' l o):=fun hs hn b u e=>by
  rw [qAr (qAn e hn)];exact hs b u e
 unfold qKn at p1
 by_cases hlim:ds.length < lim
 ·rw [if_pos hlim] at p1
  let Fin:List D→Rs (List D)→Prop:=fun acc r=>match r with
   | .no=>False
   | .ok qFw=>∀ B' H',Grow B1 H1 B' H'→∀ v,IsW X.K B' H H' (.li true (acc++qFw)) v→Q v H'
   | .ex x=>∀ B' H',Grow B1 H1 B' H'→Ew x B' H'
  have fin0:Fin [] (qGm t el ds δ):=by
   cases q:qGm t el ds δ with
   | no=>rw [q] at p1;exact p1
   | ok qFw=>rw [q] at p1;exact p1
   | ex x=>rw [q] at p1;exact p1
  refine ⟨fun i acc m H2=>m + i=ds.length∧acc.length≤i∧∃ B2 accD,Grow B1 H1 B2 H2∧R X.K B0 F0 P B2 H2 σ δ∧H2 l=some (.lst acc)∧B2 l=none∧IsDs X.K B2 accD acc∧qA5 Pn H2∧Fin accD (qGm t el (ds.drop i) δ),
   ⟨ds.length,rfl,Nat.zero_le _,B1,[],⟨qA5.refl _,same_l (qA5.refl _) hl,same_l g1.bh lB1,fun _ _ e=>.inl e⟩,r1.side lF lP lB1 lown,qAu,lB1,rfl,same_l hPn lPn,fin0⟩,?_⟩
  rintro i acc m H2 ⟨hm,hacc,B2,accD,g2,r2,al,bl,ad,pn2,f2⟩
  by_cases hlt:i < ds.length
  ·have ed:ds[i]?=some ds[i]:=List.getElem?_eq_getElem hlt
   rw [List.drop_eq_getElem_cons hlt] at f2
   obtain ⟨go,yld⟩:=hJ.go i ds[i] B2 H2 ed g2.sb pn2 r2.bh
   refine .inr ⟨go,fun v H3 yy=>?_⟩
   obtain ⟨B3,g3,d3⟩:=yld v H3 yy
   have r3:=(r2.grow g3).push d3
   have g13:=g2.trans g3
   have f2':Fin accD (t (.im ds[i]::δ)>>=fun b=>if b=true then el (.im ds[i]::δ)>>=fun y=>qGm t el #[59] δ>>=fun r=>.ok (y::r) else qGm t el #[59] δ):=f2
   refine t2 B0 F0 P B3 H3 (some v::σ) (.im ds[i]::δ) _ r3 ?_
   cases et:t (.im ds[i]::δ) with
   | no=>rw [et] at f2';exact f2'
   | ex x=>rw [et] at f2';exact fun B' H' g'=>f2' B' H' (g13.trans g')
   | ok b=>
    rw [et] at f2'
    intro B4 H4 g4
    have g14:=g13.trans g4
    have al4:H4 l=some (.lst acc):=g4.sh _ _ (g3.sh _ _ al)
    have bl4:B4 l=none:=(g3.trans g4).free bl al
    cases b with
    | false=>
     dsimp only
     rw [if_neg Bool.false_ne_true]
     refine ⟨m - 1,by omega,by omega,by omega,B4,accD,g14,(r2.grow g3).grow g4,al4,bl4,IsDs.mono (g3.trans g4).sb _ _ ad,pn2.trans (g3.trans g4).sh,f2'⟩
    | true=>
     dsimp only
     rw [if_pos rfl]
     have f3:Fin accD (el (.im ds[i]::δ)>>=fun y=>qGm t el #[59] δ>>=fun r=>.ok (y::r)):=f2'
     refine e2 B0 F0 P B4 H4 (some v::σ) (.im ds[i]::δ) _ (r3.grow g4) ?_
     cases ee:el (.im ds[i]::δ) with
     | no=>rw [ee] at f3;exact f3
     | ex x=>rw [ee] at f3;exact fun B' H' g'=>f3 B' H' (g14.trans g')
     | ok yD=>
      rw [ee] at f3
      intro B5 H5 g5 yv hy
      have g25:=g3.trans (g4.trans g5)
      have al5:H5 l=some (.lst acc):=g5.sh _ _ al4
      have bl5:B5 l=none:=g5.free bl4 al4
      have r5:=((r2.grow g3).grow g4).grow g5
      have g15:=g14.trans g5
      refine ⟨al5,by rw [qDg];omega,m - 1,by omega,by omega,by rw [List.length_append,List.length_singleton];omega,B5,accD++[yD],?_,r5.side lF lP bl5 lown,qAu,bl5,(IsDs.mono g25.sb _ _ ad).app (.one hy),?_,?_⟩
      ·exact ⟨g15.sb,same_l g15.sh hl,same_l r5.bh bl5,g15.nw⟩
      ·exact same_l (pn2.trans g25.sh) lPn
      ·have f4:Fin accD (qGm t el #[59] δ>>=fun r=>.ok (yD::r)):=f3
       cases eq:qGm t el #[59] δ with
       | no=>rw [eq] at f4;exact f4
       | ex x=>rw [eq] at f4;exact f4
       | ok qFw=>
        rw [eq] at f4
        intro B' H' g' v hv
        rw [List.append_assoc] at hv
        exact f4 B' H' g' v hv
  ·have e:i=ds.length:=by omega
   subst e
   rw [List.drop_length] at f2
   have f2':∀ B' H',Grow B1 H1 B' H'→∀ v,IsW X.K B' H H' (.li true (accD++[])) v→Q v H':=f2
   refine .inl ⟨hJ.stop B2 H2 g2.sb pn2 r2.bh,f2' B2 H2 g2 (.ref l) ⟨l,acc,rfl,lH,bl,al,?_⟩⟩
   rw [List.append_nil]
   exact ad
 ·rw [if_neg hlim] at p1
  exact p1.elim
theorem qCy {gi:qAi→Rs (List D)}{t:qAi→Rs Bool}{el:qAi→Rs D}(hc:X.calm=true)(hN:X.N.Nodup)(S:CompScope X M x scope)(hi:PXc X Ew (.Name x px) iter gi)
  (ht:∀ s₀ H₀ C fp cl,PXts #[62] Ew ifs t) (he:∀ s₀ H₀ C fp cl,PXd #[62] Ew elt el)
  (hs:∀ x,foldedSetIterable iter X.env x=pure x:=by intro _;rfl):PX X Ew #[76] (fun δ=>gi δ>>=fun ds=>qKn t el ds δ):=by
 obtain ⟨wi,i1,i2⟩:=hi
 refine ⟨_,qdj (tt:=fun σ H Q=>∀ s₀ H₀ C fp cl,ttS #[62] ifs σ H Q) (te:=fun σ H Q=>∀ s₀ H₀ C fp cl,teS #[62] elt σ H Q) hc hN S i1
  (fun s₀ H₀ C fp cl pins s σ H Q I h=>h s₀ H₀ C fp cl pins s I) (fun s₀ H₀ C fp cl pins s σ H Q I h=>h s₀ H₀ C fp cl pins s I) hs,qS8 i2 #[96] #[96]⟩
 ·obtain ⟨tt,h1,h2⟩:=ht s₀ H₀ C fp cl
  exact h1 pins s σ H Q I (h2 B0 F0 P B H σ δ Q r p)
 ·obtain ⟨te,h1,h2⟩:=he s₀ H₀ C fp cl
  exact h1 pins s σ H Q I (h2 B0 F0 P B H σ δ Q r p)
theorem qMv (i:Nat){gi:qAi→Rs (List D)}{t:qAi→Rs Bool}{el:qAi→Rs D}(hc:X.calm=true)(hN:X.N.Nodup)(S:CompScope X M x scope)(hi:PXc X Ew (.Name x px) iter gi)
  (ht:∀ s₀ H₀ C fp cl,PXts #[62] Ew ifs t) (he:∀ s₀ H₀ C fp cl,PXd #[62] Ew elt el) (hiy:X.N[i]?=some y:=by rfl) (hy:X.env.scope.names.lookup y=some .local:=by rfl)
  (hsw:swapsWith #[76] (some (.Name y py)) spos.line X.env=pure true:=by rfl)
  (hs:∀ x,foldedSetIterable iter X.env x=pure x:=by intro _;rfl):PSX X Ew [i] (.Assign [.Name y py] #[76] spos) (fun δ=>(gi δ>>=fun ds=>qKn t el ds δ)>>=asg i δ):=by
 obtain ⟨wi,i1,i2⟩:=hi
 refine ⟨_,qdd (tt:=fun σ H Q=>∀ s₀ H₀ C fp cl,ttS #[62] ifs σ H Q) (te:=fun σ H Q=>∀ s₀ H₀ C fp cl,teS #[62] elt σ H Q) hc hN S i1 hiy hy
  (fun s₀ H₀ C fp cl pins s σ H Q I h=>h s₀ H₀ C fp cl pins s I) (fun s₀ H₀ C fp cl pins s σ H Q I h=>h s₀ H₀ C fp cl pins s I) hsw hs,fun B0 F0 P B H σ δ D r p=>?_⟩
 refine qS8 (Ew:=Ew) (gi:=gi) (t:=t) (el:=el) i2 #[96] #[96] B0 F0 P B H σ δ _ r ((qB5.bind r p).mono fun w B1 H1 g1 p1 v hw=>qb7 r g1 hw p1)
 ·obtain ⟨tt,h1,h2⟩:=ht s₀ H₀ C fp cl
  exact h1 pins s σ H Q I (h2 B0 F0 P B H σ δ Q r p)
 ·obtain ⟨te,h1,h2⟩:=he s₀ H₀ C fp cl
  exact h1 pins s σ H Q I (h2 B0 F0 P B H σ δ Q r p)
end
open PySem PySem.Spec PyProof.Rows L2
abbrev EN:XW:=fun _ _ _=>False
def spD (K:PySem.W.Frag)(n:Nat)(m:List W→Rs W):Sp:=fun vs H Q _=>∃ B ws,qA5 B H∧qQj K B H ws vs∧ws.length=n∧qHi K EN B H (m ws) Q
theorem qQj.len {K:PySem.W.Frag}{B H:Hp}:∀ {ws:List W} {vs:List V},qQj K B H ws vs→ws.length=vs.length
 | [],vs,h=>by cases #[56];rfl
 | w::ws,vs,h=>by
  obtain ⟨v,r,e1,e2,e3⟩:=h
  subst e1
  rw [List.length_cons,List.length_cons,qQj.len e3]
def W.slot:W→Sl
 | .im d=>.im d
 | .li _ ds=>.rd ds
def frame (N:List Str)(ws:List W):qAi:=ws.map W.slot++List.replicate (N.length - ws.length) .un
def fin:Fl→Rs W
 | .nx _=>.ok (.im .non)
 | .rt w=>.ok w
 | .rl d _=>.ok (.im d)
 | .bk _=>.no
 | .ct _=>.no
def mir (N:List Str)(h:qAi→Rs Fl):List W→Rs W:=fun ws=>h (frame N ws)>>=fin
theorem qMk {K:PySem.W.Frag}{B H:Hp}{N:List Str}{ws:List W}{vs:List V}(hs:qA5 B H)(hw:qQj K B H ws vs)(hl:ws.length≤N.length):R K B H qE5 B H (L2.start N vs) (frame N ws):=by
 have hlen:=hw.len
 have get:∀ {ws:List W} {vs:List V},qQj K B H ws vs→∀ (i:Nat) (w:W),ws[i]?=some w→∃ v,vs[i]?=some v∧Rdw K B H w v:=by
  intro ws
  induction ws with
  | nil=>intro vs h i w e;simp at e
  | cons w ws ih=>
   intro vs h i w' e
   obtain ⟨v,r,rfl,e2,e3⟩:=h
   cases i with
   | zero=>simp at e;subst e;exact ⟨v,rfl,e2⟩
   | succ i=>exact ih e3 i w' (by simpa using e)
 have slots:∀ (i:Nat) (s:Sl),(frame N ws)[i]?=some s→(∃ w,ws[i]?=some w∧s=w.slot)∨s=.un:=fun i s e=>by
  unfold frame at e
  by_cases hi:i < ws.length
  ·rw [List.getElem?_append_left (by simpa using hi),List.getElem?_map] at e
   cases q:ws[i]? with
   | none=>rw [q] at e;cases e
   | some w=>rw [q] at e;cases e;exact .inl ⟨w,rfl,rfl⟩
  ·rw [List.getElem?_append_right (by simpa using hi)] at e
   rw [List.getElem?_replicate] at e
   split at e
   ·cases e;exact .inr rfl
   ·cases e
 have notOwn:∀ (i:Nat) (s:Sl),(frame N ws)[i]?=some s→s.isOwn=false:=fun i s e=>by
  rcases slots i s e with ⟨w,_,rfl⟩ | rfl
  ·cases w <;> rfl
  ·rfl
 refine ⟨qA5.refl _,fun _ _ e=>.inl e,qA5.refl _,qCu,hs,?_,fun i s e=>?_,fun i j s t a hij e1 e2 o1 o2 z1 z2=>?_⟩
 ·unfold frame L2.start
  simp only [List.length_append,List.length_map,List.length_replicate]
  omega
 ·rcases slots i s e with ⟨w,ew,rfl⟩ | rfl
  ·obtain ⟨v,ev,hv⟩:=get hw i w ew
   have hi:i < vs.length:=(List.getElem?_eq_some_iff.mp ev).1
   have es:(L2.start N vs)[i]?=some (some v):=by
    unfold L2.start
    rw [List.getElem?_append_left (by simpa using hi),List.getElem?_map,ev]
    rfl
   rw [es]
   cases w with
   | im d=>exact ⟨v,rfl,hv⟩
   | li f ds=>
    obtain ⟨a,us,rfl,e2,e3⟩:=hv
    exact ⟨a,us,rfl,e2,e3⟩
  ·exact trivial
 ·rw [notOwn i s e1] at o1;cases o1
section
variable {P:Program}{w:World}{K:PySem.W.Frag}{mg:Str→Option Value}{base:Heap}
theorem Fun.okD {x qual:Str}{st:Stmt}{f:Addr}{fd:FuncData}{N ps:List Str}{k:Nat}{h:qAi→Rs Fl}(F:Fun K x qual st f fd)(S:FnScope N ps (qAg st))(hl:ps.length≤N.length)
  (hbody:∀ (cdv:Value) (A:Around) (outer:List Env) (s:Shared) (H:Hp) (E:XK),Room k (A.deeper (envOfC qual (qAg st) s.heap.objs.size f cdv))→
   ∃ Wr,qRt (qRo CX0 P w K mg base N qual (qAg st) f cdv A outer s H E).nox EN Wr (qB6 st) h):FnOk P w K mg base CX0 (k + 1) f fd ps (spD K ps.length (mir N h)):=by
 refine F.ok S (fun vs H Q E hsp=>?_) fun cdv A outer s H vs Q E hr hsp=>?_
 ·obtain ⟨B,ws,hs,hw,hn,_⟩:=hsp
  rw [←hw.len,hn]
 ·obtain ⟨B,ws,hs,hw,hn,p⟩:=hsp
  obtain ⟨Wr,ts,h1,h2⟩:=hbody cdv A outer s H E hr
  refine ⟨ts,h1,h2 B H qE5 B H _ (frame N ws) _ (qMk hs hw #[0]) ?_⟩
  have p':qHi K EN B H (h (frame N ws)>>=fin) Q:=p
  cases q:h (frame N ws) with
  | no=>rw [q] at p';exact p'
  | ex x=>rw [q] at p';exact p'
  | ok fl=>
   rw [q] at p'
   cases fl with
   | nx δ=>exact fun B' H' σ' r' _=>p' B' H' r'.whole .non rfl
   | rt w=>exact fun v B' H' g hw'=>p' B' H' g v hw'
   | rl d δ=>exact fun v B' H' σ' r' _ hd=>p' B' H' r'.whole v hd
   | bk δ=>exact p'.elim
   | ct δ=>exact p'.elim
structure FnD (P:Program) (w:World) (K:PySem.W.Frag) (mg:Str→Option Value) (base:Heap) (k:Nat) (x:Str) (n:Nat) (m:List W→Rs W):Prop where
 ex:∃ f fd ps,FnOk P w K mg base CX0 k f fd ps (spD K n m)∧mg x=some (.ref f)∧PySem.W.keepIn K (.ref f)=true∧qKu K fd ps []∧ps.length=n
end
section
variable {X:Cx}{Ew:XW}{e:Expr}{es:List Expr}{p pos:Pos}{x:Str}{n k:Nat}{m:List W→Rs W}{g:qAi→Rs (List W)}
theorem qAl (F:FnD X.prog X.w X.K X.mg X.base k x n m)(hr:Room k X.A)(hg:Gl X x)(ha:PXa X EN (e::es) g)(hn:(e::es).length=n)(hdb:#[25]=false:=by decide)
  (he:starEach (e::es) X.env=#[38]::starEach es X.env:=by rfl) (hpl:#[77].any (·.1)=false:=by rfl):PX X EN #[82] (fun δ=>g δ>>=fun ws=>if ws.length=n then m ws else .no):=by
 obtain ⟨f,fd,ps,F1,hm,hk,hb,hps⟩:=F.ex
 obtain ⟨ta,h1,h2⟩:=ha
 refine ⟨_,qQ4 (E:=E0) F1 hr hg hm hk hb .nil qdm h1 hdb he hpl,fun B0 F0 P B H σ δ Q r p=>h2 B0 F0 P B H σ δ _ r #[99]⟩
 split at p1
 ·rename_i hl
  refine ⟨B1,ws,g1.bh,by rw [List.append_nil];exact hw.rd,hl,Pst.mono p1 fun w B' H' _ q v hv=>q v (hv.older g1.sh)⟩
 ·exact p1.elim
end
def rA (K:PySem.W.Frag)(Ew:XW)(fn:List W→Rs W):List V→Hp→VK→Prop:=fun xs H Q=>∃ B ws,qA5 B H∧qQj K B H ws xs∧qHi K Ew B H (fn ws) Q
section
variable {X:Cx}{Ew:XW}{e:Expr}{es:List Expr}{p pos:Pos}{x:Str}{id T:String}{fn:List W→Rs W}{g:qAi→Rs (List W)}
theorem qBp (hc:qEo X (.builtin id) (rA X.K Ew fn))(hg:Gl X x)(hm:X.mg x=none)(hv:bootBuiltins x=some (.builtin id))(ha:PXa X Ew (e::es) g)(hn:x≠"__name__":=by decide)(hdb:#[25]=false:=by decide)
  (he:starEach (e::es) X.env=#[38]::starEach es X.env:=by rfl) (hpl:#[77].any (·.1)=false:=by rfl):PX X Ew #[82] (fun δ=>g δ>>=fn):=by
 obtain ⟨ta,h1,h2⟩:=ha
 refine ⟨_,qMy hc hg hm hv h1 hn hdb he hpl,fun B0 F0 P B H σ δ Q r p=>h2 B0 F0 P B H σ δ _ r #[99]⟩
 exact ⟨B1,ws,g1.bh,hw.rd,Pst.mono p1 fun w B' H' _ q v hv=>q v (hv.older g1.sh)⟩
theorem qC9 (hc:qEo X (.type T) (rA X.K Ew fn))(hg:Gl X x)(hm:X.mg x=none)(hv:bootBuiltins x=some (.type T))(ha:PXa X Ew (e::es) g)(hn:x≠"__name__":=by decide)(hdb:#[25]=false:=by decide)
  (he:starEach (e::es) X.env=#[38]::starEach es X.env:=by rfl) (hpl:#[77].any (·.1)=false:=by rfl):PX X Ew #[82] (fun δ=>g δ>>=fn):=by
 obtain ⟨ta,h1,h2⟩:=ha
 refine ⟨_,qOv hc hg hm hv h1 hn hdb he hpl,fun B0 F0 P B H σ δ Q r p=>h2 B0 F0 P B H σ δ _ r #[99]⟩
 exact ⟨B1,ws,g1.bh,hw.rd,Pst.mono p1 fun w B' H' _ q v hv=>q v (hv.older g1.sh)⟩
def qIs:List W→Rs W
 | [w]=>match w.items with
  | some (_,ds)=>.ok (.im (.int ds.length))
  | none=>match w with
   | .im (.str z)=>if z.length≤lim then .ok (.im (.int z.length)) else .no
   | _=>.no
 | _=>.no
theorem qB1:qEo X (.builtin "len") (rA X.K Ew qIs):=by
 intro pins s σ H xs us Q I rx ⟨B,ws,hs,hw,p⟩
 unfold qIs at p
 split at p
 ·rename_i w
  obtain ⟨v,r,rfl,e2,e3⟩:=hw
  cases (show r=[] from e3)
  split at p
  ·rename_i k ds ek
   obtain ⟨c,vs,rfl,q2,q3⟩:=e2.items hs ek
   have q:=p B H #[26] (.int vs.length) (by show V.int _=V.int _;rw [q3.len])
   refine qP9 pins s σ H _ us Q I rx ⟨c,vs,rfl,?_,q⟩
   cases k with
   | true=>exact .inl q2
   | false=>exact .inr q2
  ·split at p
   ·rename_i z _
    split at p
    ·rename_i hl
     exact qP8 pins s σ H _ us Q I rx ⟨z,by rw [show v=.str z from e2],by rw [qDg];exact hl,p B H #[26] _ rfl⟩
    ·exact p.elim
   ·exact p.elim
 ·exact p.elim
def qYj:List W→Rs W
 | [.im (.int i)]=>.ok (.im (.int i))
 | [.im (.bl b)]=>.ok (.im (.int (if b then 1 else 0)))
 | _=>.no
theorem qHe:qEo X (.type "int") (rA X.K Ew qYj):=by
 intro pins s σ H xs us Q I rx ⟨B,ws,hs,hw,p⟩
 unfold qYj at p
 split at p
 ·obtain ⟨v,r,rfl,e2,e3⟩:=hw
  cases (show r=[] from e3)
  exact qQa pins s σ H _ us Q I rx (.inl ⟨_,by rw [show v=.int _ from e2],p B H #[26] _ rfl⟩)
 ·rename_i b
  obtain ⟨v,r,rfl,e2,e3⟩:=hw
  cases (show r=[] from e3)
  exact qQa pins s σ H _ us Q I rx (.inr ⟨b,by rw [show v=.bl b from e2],p B H #[26] _ rfl⟩)
 ·exact p.elim
def qci:List W→Rs W
 | [w]=>match w.items with
  | some (_,ds)=>.ok (.im (.tup ds))
  | none=>.no
 | _=>.no
theorem qEm:qEo X (.type "tuple") (rA X.K Ew qci):=by
 intro pins s σ H xs us Q I rx ⟨B,ws,hs,hw,p⟩
 unfold qci at p
 split at p
 ·rename_i w
  obtain ⟨v,r,rfl,e2,e3⟩:=hw
  cases (show r=[] from e3)
  split at p
  ·rename_i k ds ek
   cases k with
   | true=>
    obtain ⟨c,vs,rfl,q2,q3⟩:=e2.items hs ek
    refine qHf pins s σ H _ us Q I rx ⟨c,vs,rfl,.inl ⟨q2,fun l hl=>?_⟩⟩
    have sm:qA5 B (upd B l (.tup vs)):=fun b u z=>by rw [qAr (qAn z (hs.free hl))];exact z
    exact p _ _ (Grow.newB hs hl) _ ⟨l,vs,rfl,qAu,IsDs.mono sm _ _ q3⟩
   | false=>
    cases w with
    | li f es=>cases ek
    | im d=>
     cases d with
     | tup es=>
      cases ek
      obtain ⟨c,vs,rfl,z2,z3⟩:=e2
      exact qHf pins s σ H _ us Q I rx ⟨c,vs,rfl,.inr ⟨qA5.tp hs z2,p B H #[26] _ ⟨c,vs,rfl,z2,z3⟩⟩⟩
     | _=>cases ek
  ·exact p.elim
 ·exact p.elim
def lstA:List W→Rs W
 | [w]=>match w.items with
  | some (_,ds)=>.ok (.li true ds)
  | none=>.no
 | _=>.no
theorem qMa:qEo X (.type "list") (rA X.K Ew lstA):=by
 intro pins s σ H xs us Q I rx ⟨B,ws,hs,hw,p⟩
 unfold lstA at p
 split at p
 ·rename_i w
  obtain ⟨v,r,rfl,e2,e3⟩:=hw
  cases (show r=[] from e3)
  split at p
  ·rename_i k ds ek
   obtain ⟨c,vs,rfl,q2,q3⟩:=e2.items hs ek
   refine qP7 pins s σ H _ us Q I rx ⟨c,vs,rfl,?_,fun l hl=>p B _ (Grow.new hs hl (hs.free hl)) _ ⟨l,vs,rfl,hl,hs.free hl,qAu,q3⟩⟩
   cases k with
   | true=>exact .inl q2
   | false=>exact .inr q2
  ·exact p.elim
 ·exact p.elim
theorem qc3 {z:Str}{u:Value}(hg:Gl X x)(hm:X.mg x=some u)(r:RelV (.str z) u)(hd:#[25]=false:=by decide):PXd X Ew (.Name x pos) (cst (.str z)):=
 ⟨_,qdi hg hm r hd,fun B0 F0 P B H σ δ Q r p=>p B H #[49] _ rfl⟩
def tyD (T:String):W→Rs Bool
 | .im .non=>.ok (T == "NoneType")
 | .im (.bl _)=>.ok (T == "bool" || T == "int")
 | .im (.int _)=>.ok (T == "int")
 | .im (.str _)=>.ok (T == "str")
 | .im (.tup _)=>.ok (T == "tuple")
 | .im (.lst _)=>.ok (T == "list")
 | .li _ _=>.ok (T == "list")
 | .im (.fn _)=>.no
 | .im (.clo _ _ _)=>.no
end
open PySem PySem.Spec PyProof.Rows L2
section
variable {X:Cx}{Ew:XW}{e a:Expr}{es:List Expr}{p p2 pos:Pos}{x:Str}{g:qAi→Rs W}
structure TyTab (K:PySem.W.Frag) (T:String):Prop where
 non:PySem.W.kitOne K (.type "NoneType") (.type T)=some (T == "NoneType")
 bl:PySem.W.kitOne K (.type "bool") (.type T)=some (T == "bool" || T == "int")
 int:PySem.W.kitOne K (.type "int") (.type T)=some (T == "int")
 str:PySem.W.kitOne K (.type "str") (.type T)=some (T == "str")
 tup:PySem.W.kitOne K (.type "tuple") (.type T)=some (T == "tuple")
 lst:PySem.W.kitOne K (.type "list") (.type T)=some (T == "list")
theorem ty_int (K:PySem.W.Frag):TyTab K "int":=⟨by kernel_rfl,by kernel_rfl,by kernel_rfl,by kernel_rfl,by kernel_rfl,by kernel_rfl⟩
theorem qch (K:PySem.W.Frag):TyTab K "bool":=⟨by kernel_rfl,by kernel_rfl,by kernel_rfl,by kernel_rfl,by kernel_rfl,by kernel_rfl⟩
theorem ty_str (K:PySem.W.Frag):TyTab K "str":=⟨by kernel_rfl,by kernel_rfl,by kernel_rfl,by kernel_rfl,by kernel_rfl,by kernel_rfl⟩
theorem qYp (K:PySem.W.Frag):TyTab K "tuple":=⟨by kernel_rfl,by kernel_rfl,by kernel_rfl,by kernel_rfl,by kernel_rfl,by kernel_rfl⟩
def rTy (K:PySem.W.Frag)(T:String):List V→Hp→VK→Prop:=fun xs H Q=>∃ B w v b,qA5 B H∧xs=[v,.ty T]∧Rdw K B H w v∧tyD T w=.ok b∧Q (.bl b) H
theorem qX8 {T:String}(tab:TyTab X.K T):qEo X (.builtin "isinstance") (rTy X.K T):=by
 intro pins s σ H xs us Q I rx ⟨B,w,v,b,hs,exs,hw,hb,q⟩
 subst exs
 cases rx with
 | cons r1 r2=>
  cases r2 with
  | cons r3 r4=>
   cases r4
   cases (show _=Value.type T from r3)
   have go:∀ {t:Value},TyOf X.K H v t→PySem.W.kitOne X.K t (.type T)=some b→wpAny #[12] X.A (call (.builtin "isinstance") [_,.type T]) (EP X pins σ Q) X.xe s:=fun ty e=>
    qW3 I r1 ty e fun tk=>⟨.bl b,H,I.tok tk,rfl,q⟩
   cases w with
   | li f ds=>
    obtain ⟨c,vs,rfl,e2,e3⟩:=hw
    cases hb
    rcases e2 with e2 | ⟨o,e2⟩
    ·exact go (.lst e2) tab.lst
    ·exact go (.frz e2) tab.lst
   | im d=>
    cases d with
    | non=>cases hb;cases (show v=.non from hw);exact go .non tab.non
    | bl k=>cases hb;cases (show v=.bl k from hw);exact go (.bl k) tab.bl
    | int k=>cases hb;cases (show v=.int k from hw);exact go (.int k) tab.int
    | str k=>cases hb;cases (show v=.str k from hw);exact go (.str k) tab.str
    | tup ds=>
     cases hb
     obtain ⟨c,vs,rfl,e2,e3⟩:=hw
     cases (show _=Value.ref c from r1)
     obtain ⟨its,_,⟨o,h1,h2,_⟩,_⟩:=I.tuple (qA5.tp hs e2)
     exact PySem.W.kia_one PySem.W.kitx_tuple I.kIn ⟨o,h1,h2⟩ tab.tup #[58] fun tk=>⟨.bl _,H,I.tok tk,rfl,q⟩
    | lst ds=>
     cases hb
     obtain ⟨c,vs,rfl,e2,e3⟩:=hw
     cases (show _=Value.ref c from r1)
     obtain ⟨its,_,⟨o,n,h1,h2,_⟩,_⟩:=I.list (hs.seq e2)
     exact PySem.W.kia_one PySem.W.kitx_list I.kIn ⟨o,h1,h2⟩ tab.lst #[58] fun tk=>⟨.bl _,H,I.tok tk,rfl,q⟩
    | fn c=>cases hb
    | clo _ _ _=>cases hb
def qYi (T:String)(w:W):Rs W:=tyD T w>>=fun b=>.ok (.im (.bl b))
theorem qSf {T:String}{Tn:Str}(tab:TyTab X.K T)(hv:bootBuiltins Tn=some (.type T))(hg:Gl X "isinstance")(hm:X.mg "isinstance"=none)(hgT:Gl X Tn)(hmT:X.mg Tn=none)(ha:PX X Ew a g)(hn:Tn≠"__name__":=by decide)(hd:(Tn == ("__debug__":Str))=false:=by decide)
  (he:starEach [a,.Name Tn p2] X.env=(false,eval a X.env)::starEach [.Name Tn p2] X.env:=by rfl) (he2:starEach [.Name Tn p2] X.env=(false,eval (.Name Tn p2) X.env)::starEach [] X.env:=by rfl)
  (hpl:(backTo pos (starEach [.Name Tn p2] X.env)).any (·.1)=false:=by rfl) :
  PX X Ew (.Call (.Name "isinstance" p) [a,.Name Tn p2] [] pos) (fun δ=>g δ>>=qYi T):=by
 obtain ⟨te,h1,h2⟩:=ha
 refine ⟨_,qMy (qX8 tab) hg hm boot_isinstance (qCq h1 (qCq (qdl (v:=.ty T) hgT hmT hv rfl hn hd) qD8 he2) he) #[5] #[5] he hpl,fun B0 F0 P B H σ δ Q r p=>h2 B0 F0 P B H σ δ _ r #[61]⟩
 cases eb:tyD T w with
 | no=>unfold qYi at p1;rw [eb] at p1;exact p1.elim
 | ex x=>
  cases w with
  | li f ds=>cases eb
  | im d=>cases d <;> cases eb
 | ok b=>
  unfold qYi at p1
  rw [eb] at p1
  exact ⟨B1,w,v,b,g1.bh,rfl,hw.rd,eb,(show Pst Ew B1 H1 _ (Rs.ok (W.im (.bl b))) from p1) B1 H1 #[44] _ rfl⟩
def qHg:List D→Option (List Bool)
 | []=>some []
 | .bl b::r=>(qHg r).map (b::·)
 | _=>none
theorem qH8 {K:PySem.W.Frag}{B:Hp}:∀ {ds:List D} {vs:List V} {us:List Value} {bs:List Bool},IsDs K B ds vs→qBv vs us→qHg ds=some bs→us=bs.map Value.bool
 | [],vs,us,bs,h,r,e=>by cases #[56];cases r;cases e;rfl
 | d::ds,vs,us,bs,h,r,e=>by
  obtain ⟨v,rr,rfl,e2,e3⟩:=h
  cases r with
  | cons r1 r2=>
   cases d with
   | bl b=>
    simp only [qHg] at e
    obtain ⟨bs',q1,q2⟩:=Option.map_eq_some_iff.mp e
    subst q2
    cases (show v=.bl b from e2)
    cases (show _=Value.bool b from r1)
    rw [qH8 e3 r2 q1]
    rfl
   | _=>cases e
theorem qQi:∀ (bs:List Bool),(List.range bs.length).all (fun i=>bs.getD i true)=bs.all id
 | []=>rfl
 | b::bs=>by
  rw [List.length_cons,List.range_succ_eq_map,List.all_cons,List.all_map,List.all_cons]
  have ih:=qQi bs
  have:((fun i=>(b::bs).getD i true) ∘ Nat.succ)=fun i=>bs.getD i true:=by funext i;rfl
  rw [this,ih]
  rfl
def qUq:List W→Rs W
 | [w]=>match w.seq with
  | some ds=>match qHg ds with
   | some bs=>.ok (.im (.bl (bs.all id)))
   | none=>.no
  | none=>.no
 | _=>.no
theorem qFh (hh:X.calm=true):qEo X (.builtin "all") (rA X.K Ew qUq):=by
 intro pins s σ H xs us Q I rx ⟨B,ws,hs,hw,p⟩
 unfold qUq at p
 split at p
 ·rename_i w
  obtain ⟨v,r,rfl,e2,e3⟩:=hw
  cases (show r=[] from e3)
  split at p
  ·rename_i ds ek
   split at p
   ·rename_i bs eb
    obtain ⟨c,vs,rfl,q2,q3⟩:=e2.seq hs ek
    cases rx with
    | cons r1 r2=>
     cases r2
     cases (show _=Value.ref c from r1)
     obtain ⟨its,rv,pl,hz⟩:=I.list q2
     have eits:=qH8 q3 rv eb
     refine call_all_walk (wpAny_pyIter_list pl.isList ?_)
     have hd:X.A.in1.handled=none:=I.ok.hd hh
     have hne:c≠s.heap.objs.size:=Nat.ne_of_lt pl.lt
     refine ⟨s.heap.objs.size,_,_,its.toArray.size,_,_,fun i=>bs.getD i true,rfl,Walks.list hd s.heap.objs.size c hne its.toArray,⟨⟨_,Heap.get?_push_size _ rfl,rfl,rfl⟩,?_⟩,?_,?_⟩
     ·exact (pl.keeps fun b o e=>Heap.get?_push_of_some _ e).isList
     ·intro i u s' Q' E' hu hQ'
      subst eits
      simp only [List.getElem?_toArray,List.getElem?_map] at hu
      cases q:bs[i]? with
      | none=>rw [q] at hu;cases hu
      | some b=>
       rw [q] at hu
       cases hu
       dsimp only at hQ'
       rw [qD4 q] at hQ'
       exact wpAny_truthy_bool hQ'
     ·intro h' tk kp
      have ev:(List.range its.toArray.size).all (fun i=>bs.getD i true)=bs.all id:=by
       subst eits
       simp only [List.size_toArray,List.length_map]
       exact qQi bs
      rw [ev]
      exact ⟨.bl _,H,I.kept (t':=tk) fun b o e=>kp b o (by simp;exact Nat.ne_of_lt #[45]) #[78],rfl,p B H #[26] _ rfl⟩
   ·exact p.elim
  ·exact p.elim
 ·exact p.elim
end
open PySem PySem.Spec PyProof.Rows L2
theorem qG3 {A:Around}{k:Nat}(hr:Room k A):A.units + 50 < cLine:=by have:=hr.un;omega
theorem qUu {A:Around}{k:Nat}(hr:Room k A):A.units + 51 < cLine:=by have:=hr.un;omega
abbrev toW (m:qAi→Rs D):qAi→Rs W:=fun δ=>m δ>>=fun d=>Rs.ok (W.im d)
abbrev qBc (m:qAi→Rs W):qAi→Rs D:=fun δ=>m δ>>=W.toD
abbrev qAc (m:qAi→Rs W)(k:qAi→Rs (List W)):qAi→Rs (List W):=fun δ=>m δ>>=fun w=>k δ>>=fun ws=>Rs.ok (w::ws)
abbrev qAw (m:qAi→Rs D)(k:qAi→Rs (List D)):qAi→Rs (List D):=fun δ=>m δ>>=fun w=>k δ>>=fun ws=>Rs.ok (w::ws)
abbrev qAz:qAi→Rs (List W):=fun _=>.ok []
abbrev qB9:qAi→Rs (List D):=fun _=>.ok []
abbrev qAd {α β:Type}(k:qAi→Rs α)(fn:α→Rs β):qAi→Rs β:=fun δ=>k δ>>=fn
abbrev qAo (m:List W→Rs W)(n:Nat)(k:qAi→Rs (List W)):qAi→Rs W:=fun δ=>k δ>>=fun ws=>if ws.length=n then m ws else .no
abbrev qGb (t:qAi→Rs Bool):qAi→Rs Bool:=fun δ=>t δ>>=fun b=>.ok (!b)
abbrev notW (m:qAi→Rs W):qAi→Rs W:=fun δ=>m δ>>=fun w=>w.bool>>=fun b=>.ok (.im (.bl (!b)))
abbrev qD5 (m:qAi→Rs W)(l u:qAi→Rs (Option Int)):qAi→Rs W:=fun δ=>m δ>>=fun w=>l δ>>=fun l=>u δ>>=fun u=>slW w l u
abbrev qB4 (gi:qAi→Rs (List D))(t:qAi→Rs Bool)(el:qAi→Rs D):qAi→Rs W:=fun δ=>gi δ>>=fun ds=>qKn t el ds δ
abbrev qCk (i:Nat)(m:qAi→Rs W):qAi→Rs Fl:=fun δ=>m δ>>=asg i δ
abbrev qBw (m:qAi→Rs W):qAi→Rs Fl:=fun δ=>m δ>>=fun w=>.ok (.rt w)
abbrev qGi (gi:qAi→Rs (List D))(t:D→qAi→Rs qAi)(b:qAi→Rs Fl):qAi→Rs Fl:=fun δ=>gi δ>>=fun ds=>qEv t b ds δ
abbrev qCw:qAi→Rs Fl:=fun δ=>.ok (.nx δ)
abbrev noF:qAi→Rs Fl:=fun _=>.no
abbrev qC6:qAi→Rs (Option Int):=fun _=>.ok none
abbrev part (m:qAi→Rs W):qAi→Rs (Option Int):=fun δ=>m δ>>=W.part
abbrev qdp:List D→qAi→Rs qAi:=fun ds δ=>match ds with | []=>.ok δ | _=>.no
def Has (K:PySem.W.Frag)(mg:Str→Option Value)(x:Str)(st:Stmt):Prop:=∃ f fd,Fun K x x st f fd∧mg x=some (.ref f)
section
variable {P:Program}{w:World}{K:PySem.W.Frag}{mg:Str→Option Value}{base:Heap}
theorem qBi {x:Str}{st:Stmt}{N ps:List Str}{k:Nat}{h:qAi→Rs Fl}(T:Has K mg x st)(S:FnScope N ps (qAg st))(hl:ps.length≤N.length)
  (hb:∀ (kV doc pm:Value) (an:Option Addr) (cdv ct:Value) (us:List Value),us.length=ps.length→bindArgs #[88] ⟨us,[]⟩=pure (ps.zip us))
  (hbody:∀ (f:Addr) (cdv:Value) (A:Around) (outer:List Env) (s:Shared) (H:Hp) (E:XK),Room k (A.deeper (envOfC x (qAg st) s.heap.objs.size f cdv))→
   ∃ Wr,qRt (qRo CX0 P w K mg base N x (qAg st) f cdv A outer s H E).nox EN Wr (qB6 st) h):FnD P w K mg base (k + 1) x ps.length (mir N h):=by
 obtain ⟨f,fd,F,hm⟩:=T
 exact ⟨f,fd,ps,PD.Fun.okD F S hl (hbody f),hm,F.kp,F.binds hb,rfl⟩
end
open PySem PySem.Spec PyProof.Rows L2
theorem has_mk {K:PySem.W.Frag}{h:Heap}{mg:Str→Option Value}{x:Str}{st:Stmt}{f:Addr}{od an:Option Addr}{sl:Array (Option Value)}{oc kV dc pm cd ct:Value}(X:K.In h)(G:h.Ns mainGlobals mg)
  (a:PySem.W.nsIn K mainGlobals x=some (some (.ref f))) (l:K.lookup f=some ⟨oc,od,.func (PySem.W.fnOf x x (qDf st) (qB6 st) (qAg st) .none kV dc pm an cd ct),sl⟩)
  (c:PySem.W.codeIn K cd x=true) (k:PySem.W.keepIn K (.ref f)=true):Has K mg x st:=⟨f,_,fun_mk (st:=st) l c k,PySem.W.mg_of X G a⟩
theorem ok_of_fnD {P:Program}{w:World}{K:PySem.W.Frag}{mg:Str→Option Value}{base:Heap}{k:Nat}{x p:Str}{m:List W→Rs W}{st:Stmt}{fa:Addr}(T:Has K mg x st)(hfa:mg x=some (.ref fa))
  (hps:∀ f fd,Fun K x x st f fd→∀ base,FnOk P w K mg base CX0 k f fd [p] (spD K 1 m)) (hb:∀ (kV doc pm:Value) (an:Option Addr) (cdv ct:Value) (u:Value),bindArgs #[88] ⟨[u],[]⟩=pure [(p,u)]) :
  ∃ fd:FuncData,(∀ (s:Shared) (u:Value),BindsTo s fd ⟨[u],[]⟩ [(p,u)])∧∀ base:Heap,K.In base→base.Ns mainGlobals mg→FnOk P w K mg base CX0 k fa fd [p] (spD K 1 m):=by
 obtain ⟨f,fd,F,hm⟩:=T
 rw [hfa] at hm
 cases hm
 obtain ⟨oc,od,kV,doc,pm,an,cdv,ct,osl,rfl,lk,hcd⟩:=id F.ex
 exact ⟨_,fun s u=>.of_eq (hb kV doc pm an cdv ct u),fun base _ _=>hps _ _ F base⟩
open PySem PySem.Spec PyProof.Rows L2
def qa5:List DictEntry→List (Str×Int)→Prop
 | [],t=>t=[]
 | e::r,t=>∃ s n t',t=(s,n)::t'∧(∃ u,e.key=.str s u)∧(∃ u,e.val=.int n u)∧qa5 r t'
def qHm (t:List (Str×Int))(k:Str):Option Int:=(t.find? fun p=>p.1 == k).map (·.2)
theorem qRy:∀ {es:List DictEntry} {t:List (Str×Int)},qa5 es t→∀ k:Str,qYm ((qHm t k).map V.int) ((es.find? fun e=>Value.isStrOf k e.key).map (·.val))
 | [],t,h,k=>by cases (show t=[] from h);trivial
 | e::r,t,h,k=>by
  obtain ⟨s,n,t',rfl,⟨u,hk⟩,⟨u',hv⟩,hr⟩:=h
  have ih:=qRy hr k
  unfold qHm at ih ⊢
  rw [List.find?_cons,List.find?_cons,hk]
  by_cases z:s=k
  ·subst z
   simp only [beq_self_eq_true,Value.isStrOf,Option.map_some,hv]
   exact ⟨u',rfl⟩
  ·have b1:(s == k)=false:=by simpa using z
   have b2:Value.isStrOf k (.str s u)=false:=by simpa [Value.isStrOf] using z
   simp only [b1,b2]
   exact ih
def qev (w:World)(K:PySem.W.Frag)(mg:Str→Option Value)(x:Str)(t:List (Str×Int)):Prop:=
 ∃ d es n,mg x=some (.ref d)∧K.lookup d=some ⟨.type "dict",none,.dict es n,#[]⟩∧PySem.W.KeysLit w.params es.toList∧(d == sysModules)=false∧qa5 es.toList t
def qPp (t:List (Str×Int)):W→Rs W
 | .im (.str k)=>match qHm t k with
  | some n=>.ok (.im (.int n))
  | none=>.ok (.im .non)
 | _=>.no
section
variable {X:Cx}{Ew:XW}{a:Expr}{p pos apos:Pos}{x:Str}{g:qAi→Rs W}{t:List (Str×Int)}
theorem qV0 (T:qev X.w X.K X.mg x t)(hg:Gl X x)(ha:PX X Ew a g)(m:M1 X (.Name x p) "get" apos a pos)(hd:#[25]=false:=by decide):PX X Ew (.Call (.Attribute (.Name x p) "get" apos) [a] [] pos) (fun δ=>g δ>>=qPp t):=by
 obtain ⟨d,es,n,hm,lk,kl,hsys,tb⟩:=T
 obtain ⟨te,h1,h2⟩:=ha
 refine ⟨fun σ H Q=>te σ H fun y H1=>∃ k,y=.str k∧Q (((qHm t k).map V.int).getD .non) H1,fun pins s σ H Q I hq=>?_,fun B0 F0 P B H σ δ Q r p=>h2 B0 F0 P B H σ δ _ r #[61]⟩
 ·refine wpAny_Call_method m.base m.few m.line PySem.F.plainAttrs_dict PySem.F.slot_dict_get PySem.F.type_dict_get (qM6 I hg hm ?_ hd)
  have ho:=I.kIn _ _ lk
  refine ⟨⟨_,ho,rfl⟩,fun b q=>by cases q;exact ⟨_,ho,rfl⟩,?_⟩
  rw [m.trees]
  refine Calls.callWith_builtin rfl (Calls.evalArgs_plain (Calls.spliced_cons (thn (h1 pins s σ H _ I hq) fun iv s2 ⟨y,H2,I2,ry,k,ey,q2⟩=>Calls.spliced_nil ?_)))
  subst ey
  obtain ⟨tk,rfl⟩:=ry
  have mo:=PySem.W.mapOf_K (prog:=X.prog) (w:=X.w) I2.kIn lk kl
  refine call_meetsIn PySem.F.slot_dict_get mo.typeIs PySem.F.entry_dict_get (PySem.F.args_dict_get_2 _ _) (meets_dict_get (strKind X.prog X.w) d (strKind_is _ _ k tk) hsys) ⟨_,mo,?_⟩
  have rel:=qRy tb k
  have e:findBy Value.isStrOf es k=(es.toList.find? fun e=>Value.isStrOf k e.key).map (·.val):=by
   unfold findBy
   rw [←Array.find?_toList]
  refine ⟨_,H2,I2.tok _,?_,q2⟩
  rw [e]
  cases z:qHm t k with
  | none=>
   rw [z] at rel
   cases z2:(es.toList.find? fun e=>Value.isStrOf k e.key).map (·.val) with
   | none=>exact rfl
   | some v=>rw [z2] at rel;exact rel.elim
  | some i=>
   rw [z] at rel
   cases z2:(es.toList.find? fun e=>Value.isStrOf k e.key).map (·.val) with
   | none=>rw [z2] at rel;exact rel.elim
   | some v=>rw [z2] at rel;exact rel
 ·cases w with
  | li f ds=>exact False.elim p1
  | im dd=>
   cases dd with
   | str k=>
    refine ⟨k,hw,?_⟩
    unfold qPp at p1
    cases z:qHm t k with
    | none=>simp only [z] at p1;exact p1 B1 H1 #[44] _ rfl
    | some i=>simp only [z] at p1;exact p1 B1 H1 #[44] _ rfl
   | _=>exact False.elim p1
def qN0:List D→Option (List Str)
 | []=>some []
 | .str b::r=>(qN0 r).map (b::·)
 | _=>none
theorem qJe {K:PySem.W.Frag}{B:Hp}:∀ {ds:List D} {vs:List V} {us:List Value} {bs:List Str},IsDs K B ds vs→qBv vs us→qN0 ds=some bs→us.length=bs.length∧∀ (i:Nat) (v:Value),us[i]?=some v→∃ t,v=.str (bs.getD i Str.empty) t
 | [],vs,us,bs,h,r,e=>by cases #[56];cases r;cases e;exact ⟨rfl,fun i v q=>by simp at q⟩
 | d::ds,vs,us,bs,h,r,e=>by
  obtain ⟨v,rr,rfl,e2,e3⟩:=h
  cases r with
  | cons r1 r2=>
   cases d with
   | str b=>
    simp only [qN0] at e
    obtain ⟨bs',q1,q2⟩:=Option.map_eq_some_iff.mp e
    subst q2
    cases (show v=.str b from e2)
    obtain ⟨t,rfl⟩:=(show ∃ t,_=Value.str b t from r1)
    obtain ⟨l,ih⟩:=qJe e3 r2 q1
    refine ⟨by simp [l],fun i v q=>?_⟩
    cases i with
    | zero=>simp at q;exact ⟨t,q.symm⟩
    | succ i=>exact ih i v (by simpa using q)
   | _=>cases e
def qHl (bs:List Str):Nat:=(qHj (fun i=>bs.getD i Str.empty) bs.length).length
def qG1 (w:W):Rs W:=match w.items with
 | some (_,ds)=>match qN0 ds with
  | some bs=>if bs.length < 1000 then .ok (.im (.int (qHl bs))) else .no
  | none=>.no
 | none=>.no
def qYx (P:Program)(w:World)(p:Addr)(bs:List Str):HO:=.ext fun h=>h.SetOf (strKind P w) p (fun k'=>(qHj (fun i=>bs.getD i Str.empty) bs.length).any (· == k')) (qHl bs)
def rSet (X:Cx):List V→Hp→VK→Prop:=fun xs H Q=>∃ B w v k ds bs,qA5 B H∧xs=[v]∧Rdw X.K B H w v∧w.items=some (k,ds)∧qN0 ds=some bs∧bs.length < 1000∧∀ p,H p=none→Q (.ref p) (upd H p (qYx X.prog X.w p bs))
theorem qX7 (hc:X.calm=true):qEo X (.type "set") (rSet X):=by
 intro pins s σ H xs us Q I rx ⟨B,w,v,k,ds,bs,hs,exs,hw,ek,eb,hl,q⟩
 subst exs
 obtain ⟨c,vs,rfl,q2,q3⟩:=hw.items hs ek
 cases rx with
 | cons r1 r2=>
  cases r2
  cases (show _=Value.ref c from r1)
  have hd:X.A.handled=none:=I.ok.hd hc
  have done:∀ (h':Heap) (tk:Nat),h'.SetOf (strKind X.prog X.w) s.heap.objs.size (fun k'=>(qHj (fun i=>bs.getD i Str.empty) bs.length).any (· == k')) (qHj (fun i=>bs.getD i Str.empty) bs.length).length→
    (∀ b o,b < s.heap.objs.size→s.heap.get? b=some o→h'.get? b=some o)→EP X pins σ Q #[52] { s with heap:=h',toks:=tk }:=fun h' tk hS kp=>by
   refine ⟨.ref s.heap.objs.size,_,I.laid (t':=tk) (o:=qYx X.prog X.w s.heap.objs.size bs) (fun b u e=>kp b u #[45] e) #[8] ?_,rfl,q _ (I.hok.fresh #[8])⟩
   refine ⟨hS,?_,fun h1 h2 hs1 kk=>?_⟩
   ·obtain ⟨o,es,ep,t,ho,_⟩:=hS
    exact ⟨o,ho⟩
   ·obtain ⟨o,es,ep,t,ho,qFw⟩:=hs1
    exact ⟨o,es,ep,t,kk o ho,qFw⟩
  cases k with
  | true=>
   obtain ⟨its,rv,pl,hz⟩:=I.list (show SqL X.K H c vs from q2)
   obtain ⟨e1,e2⟩:=qJe q3 rv eb
   have esz:its.toArray.size=bs.length:=by rw [List.size_toArray];exact e1
   refine qQo (val:=fun i=>bs.getD i Str.empty) hd pl.isList (fun i v hv=>e2 i v (by simpa using hv)) (by rw [esz];unfold scanBound;omega) fun h' tk hS kp=>?_
   rw [esz] at hS
   exact done h' tk hS kp
  | false=>
   obtain ⟨its,rv,pl,hz⟩:=I.tuple (show SqT X.K H c vs from q2)
   obtain ⟨e1,e2⟩:=qJe q3 rv eb
   have esz:its.toArray.size=bs.length:=by rw [List.size_toArray];exact e1
   refine qN6 (val:=fun i=>bs.getD i Str.empty) hd (show s.heap.IsTuple c its.toArray from pl) (fun i v hv=>e2 i v (by simpa using hv)) (by rw [esz];unfold scanBound;omega) fun h' tk hS kp=>?_
   rw [esz] at hS
   exact done h' tk hS kp
def rLenS (X:Cx):List V→Hp→VK→Prop:=fun xs H Q=>∃ p bs,xs=[.ref p]∧H p=some (qYx X.prog X.w p bs)∧bs.length < 1000∧Q (.int (qHl bs)) H
theorem qUo:qEo X (.builtin "len") (rLenS X):=by
 intro pins s σ H xs us Q I rx ⟨p,bs,exs,hp,hl,q⟩
 subst exs
 cases rx with
 | cons r1 r2=>
  cases r2
  cases (show _=Value.ref p from r1)
  obtain ⟨hS,_,_⟩:=(show qB8 X.prog X.w H s.heap p (qYx X.prog X.w p bs) from I.hok p _ hp)
  obtain ⟨o,es,ep,tb,ho,hex,hd,_,_,hb,hf,hn⟩:=hS
  have hb2:scanBound < 2 ^ 62:=by unfold scanBound;decide
  refine call_len_set ho hex hd hf #[0] ⟨.int (qHl bs),H,I.tok _,⟨_,by rw [hn]⟩,q⟩
theorem qOr {p1 p2 pos2:Pos}(hc:X.calm=true)(hgl:Gl X "len")(hml:X.mg "len"=none)(hgs:Gl X "set")(hms:X.mg "set"=none)(ha:PX X Ew a g)
  (hs:starEach [a] X.env=(false,eval a X.env)::starEach [] X.env:=by rfl) (hs2:starEach [.Call (.Name "set" p2) [a] [] pos2] X.env=(false,eval (.Call (.Name "set" p2) [a] [] pos2) X.env)::starEach [] X.env:=by rfl)
  (hp1:(backTo pos2 #[39]).any (·.1)=false:=by rfl) (hp2:(backTo pos #[39]).any (·.1)=false:=by rfl) :
  PX X Ew (.Call (.Name "len" p1) [.Call (.Name "set" p2) [a] [] pos2] [] pos) (fun δ=>g δ>>=qG1):=by
 obtain ⟨te,h1,h2⟩:=ha
 refine ⟨_,qMy qUo hgl hml boot_len (qCq (qOv (qX7 hc) hgs hms boot_set (qCq h1 qD8 hs) #[5] #[5] hs hp1) qD8 hs2) #[5] #[5] hs2 hp2,fun B0 F0 P B H σ δ Q r p=>h2 B0 F0 P B H σ δ _ r #[61]⟩
 unfold qG1 at p1
 split at p1
 ·rename_i k ds ek
  split at p1
  ·rename_i bs eb
   split at p1
   ·rename_i hl
    refine ⟨B1,w,v,k,ds,bs,g1.bh,rfl,hw.rd,ek,eb,hl,fun q hq=>⟨q,bs,rfl,qAu,hl,?_⟩⟩
    exact p1 B1 _ (Grow.new g1.bh hq (g1.bh.free hq)) _ rfl
   ·exact p1.elim
  ·exact p1.elim
 ·exact p1.elim
end
open PySem PySem.Spec PyProof.Rows L2
theorem qNo:bootBuiltins "reversed"=some (.type "reversed"):=by rfl
theorem qIn:∀ {xs:List V} {us:List Value},qBv xs us→qBv xs.reverse us.reverse
 | [],[],_=>.nil
 | x::xs,u::us,.cons r1 r2=>by
  rw [List.reverse_cons,List.reverse_cons]
  exact (qIn r2).append (.cons r1 .nil)
theorem qIo {K:PySem.W.Frag}{B:Hp}:∀ {ds:List D} {vs:List V},IsDs K B ds vs→IsDs K B ds.reverse vs.reverse
 | [],vs,h=>by cases #[56];exact rfl
 | d::ds,vs,h=>by
  obtain ⟨v,r,rfl,e2,e3⟩:=h
  rw [List.reverse_cons,List.reverse_cons]
  exact (qIo e3).app (IsDs.one e2)
theorem qM8 {its:List Value}{acc:Array Value}(h:ItemsOf (fun i v=>its.toArray[its.toArray.size - 1 - i]?=some v) acc its.toArray.size):acc=its.reverse.toArray:=by
 obtain ⟨h1,h2⟩:=h
 apply Array.ext'
 apply List.ext_getElem?
 intro i
 by_cases hi:i < acc.size
 ·have e:=h2 i acc[i] (Array.getElem?_eq_getElem hi)
  rw [Array.getElem?_toList,Array.getElem?_eq_getElem hi]
  simp only [List.getElem?_toArray,List.size_toArray] at e h1
  rw [List.getElem?_reverse #[0]]
  exact e.symm
 ·rw [Array.getElem?_toList,Array.getElem?_eq_none #[0]]
  simp only [List.size_toArray] at h1
  rw [List.getElem?_eq_none (by simp;omega)]
def revL (w:W):Rs W:=match w.items with
 | some (true,ds)=>.ok (.li true ds.reverse)
 | _=>.no
section
variable {X:Cx}{Ew:XW}{a:Expr}{p pos:Pos}{g:qAi→Rs W}
theorem qTz {p1 p2 pos2:Pos}(hc:X.calm=true)(hgl:Gl X "list")(hml:X.mg "list"=none)(hgs:Gl X "reversed")(hms:X.mg "reversed"=none)(ha:PX X Ew a g)
  (hs:starEach [a] X.env=(false,eval a X.env)::starEach [] X.env:=by rfl) (hs2:starEach [.Call (.Name "reversed" p2) [a] [] pos2] X.env=(false,eval (.Call (.Name "reversed" p2) [a] [] pos2) X.env)::starEach [] X.env:=by rfl)
  (hp1:(backTo pos2 #[39]).any (·.1)=false:=by rfl) (hp2:(backTo pos #[39]).any (·.1)=false:=by rfl) (hn1:backTo pos #[39]=[]:=by rfl) (hn2:backTo pos2 #[39]=[]:=by rfl) :
  PX X Ew (.Call (.Name "list" p1) [.Call (.Name "reversed" p2) [a] [] pos2] [] pos) (fun δ=>g δ>>=revL):=by
 obtain ⟨te,h1,h2⟩:=ha
 refine ⟨fun σ H Q=>te σ H fun y H1=>∃ c vs,y=.ref c∧SqL X.K H1 c vs∧∀ l,H1 l=none→Q (.ref l) (upd H1 l (.lst vs.reverse)),fun pins s σ H Q I hq=>?_,fun B0 F0 P B H σ δ Q r p=>h2 B0 F0 P B H σ δ _ r #[61]⟩
 ·refine wpAny_Call_Name_kw (qFc I hgl hml boot_list ?_ #[5] #[5])
  refine PyProof.Rows.callWith_type1 ?_ hs2 hp2
  rw [hs2]
  show wpAny _ _ (spliced ((false,eval (.Call (.Name "reversed" p2) [a] [] pos2) X.env)::backTo pos #[39])) _ _ s
  rw [hn1]
  refine Calls.spliced_cons ?_
  refine wpAny_Call_Name_kw (qFc I hgs hms qNo ?_ #[5] #[5])
  refine PyProof.Rows.callWith_type1 ?_ hs hp1
  rw [hs]
  show wpAny _ _ (spliced ((false,eval a X.env)::backTo pos2 #[39])) _ _ s
  rw [hn2]
  refine Calls.spliced_cons (thn (h1 pins s σ H _ I hq) fun iv s2 ⟨y,H2,I2,ry,c,vs,ey,hl,q2⟩=>Calls.spliced_nil ?_)
  subst ey
  cases (show iv=Value.ref c from ry)
  obtain ⟨its,rv,pl,hz⟩:=I2.list hl
  have hlen:=rv.length
  have hd:X.A.handled=none:=I2.ok.hd hc
  refine wpAny_mono (qY6 (Q:=EP X pins σ Q) hd pl.isList (by simp only [List.size_toArray] <;> omega) fun h' tk acc' c' n hn kp e hacc=>?_) (fun v s' h=>Calls.spliced_nil h) fun _ _ e=>e
  have ea:=qM8 hacc
  subst ea
  exact ⟨.ref n,_,I2.laid (t':=tk) kp hn (show qB8 X.prog X.w _ h' _ (.lst vs.reverse) from ⟨by simpa using hz,its.reverse,c',qIn rv,e⟩),rfl,q2 _ (I2.hok.fresh hn)⟩
 ·unfold revL at p1
  split at p1
  ·rename_i ds ek
   obtain ⟨c,vs,rfl,q2,q3⟩:=hw.rd.items g1.bh ek
   exact ⟨c,vs,rfl,q2,fun l hl=>p1 B1 _ (Grow.new g1.bh hl (g1.bh.free hl)) _ ⟨l,vs.reverse,rfl,g1.sh.free hl,g1.bh.free hl,qAu,qIo q3⟩⟩
  ·exact p1.elim
end
open PySem PySem.Spec PyProof.Rows L2 PySem.W
def ltP (a b:Int×Str):Bool:=if a.1=b.1 then decide (a.2.cps.toList < b.2.cps.toList) else decide (a.1 < b.1)
theorem qWp (a b:Int×Str)(h:ltP a b=true):ltP b a=false:=by
 unfold ltP at h ⊢
 by_cases e:a.1=b.1
 ·rw [if_pos e] at h
  rw [if_pos e.symm]
  have h':=of_decide_eq_true h
  exact decide_eq_false fun z=>List.lt_irrefl _ (List.lt_trans h' z)
 ·rw [if_neg e] at h
  rw [if_neg (Ne.symm e)]
  have h':=of_decide_eq_true h
  exact decide_eq_false #[0]
theorem qWo (a b c:Int×Str)(h:ltP b a=false)(h':ltP c b=false):ltP c a=false:=by
 unfold ltP at h h' ⊢
 by_cases e:b.1=a.1
 ·rw [if_pos e] at h
  by_cases e2:c.1=b.1
  ·rw [if_pos e2] at h'
   rw [if_pos (e2.trans e)]
   have q:=of_decide_eq_false h
   have q':=of_decide_eq_false h'
   exact decide_eq_false (List.not_lt.mpr (List.le_trans (List.not_lt.mp q) (List.not_lt.mp q')))
  ·rw [if_neg e2] at h'
   rw [if_neg #[0]]
   have q':=of_decide_eq_false h'
   exact decide_eq_false #[0]
 ·rw [if_neg e] at h
  have q:=of_decide_eq_false h
  by_cases e2:c.1=b.1
  ·rw [if_neg #[0]]
   exact decide_eq_false #[0]
  ·rw [if_neg e2] at h'
   have q':=of_decide_eq_false h'
   rw [if_neg #[0]]
   exact decide_eq_false #[0]
theorem qZ3 (a b:Int×Str)(h:ltP a b=false)(h':ltP b a=false):a=b:=by
 unfold ltP at h h'
 obtain ⟨a1,⟨⟨a2⟩⟩⟩:=a
 obtain ⟨b1,⟨⟨b2⟩⟩⟩:=b
 simp only at h h'
 by_cases e:a1=b1
 ·subst e
  rw [if_pos rfl] at h h'
  have q:=of_decide_eq_false h
  have q':=of_decide_eq_false h'
  have:a2=b2:=List.le_antisymm (List.not_lt.mp q') (List.not_lt.mp q)
  subst this;rfl
 ·rw [if_neg e] at h
  rw [if_neg (Ne.symm e)] at h'
  have q:=of_decide_eq_false h
  have q':=of_decide_eq_false h'
  omega
theorem qJb {α:Type}{r:α→α→Prop}(anti:∀ a b,r a b→r b a→a=b):∀ (l l':List α),l.Perm l'→l.Pairwise r→l'.Pairwise r→l=l'
 | [],l',h,_,_=>(h.symm.eq_nil).symm
 | a::l,[],h,_,_=>absurd h.length_eq #[7]
 | a::l,b::l',h,h1,h2=>by
  have e:a=b:=by
   rcases List.mem_cons.mp (h.mem_iff.mp (List.mem_cons_self (a:=a) (l:=l))) with e | m
   ·exact e
   ·rcases List.mem_cons.mp (h.mem_iff.mpr (List.mem_cons_self (a:=b) (l:=l'))) with e | m'
    ·exact e.symm
    ·exact anti _ _ ((List.pairwise_cons.mp h1).1 b m') ((List.pairwise_cons.mp h2).1 a m)
  subst e
  rw [qJb anti l l' (List.Perm.cons_inv h) (List.pairwise_cons.mp h1).2 (List.pairwise_cons.mp h2).2]
def qC2 (ps:List (Int×Str)):List (Int×Str):=ps.mergeSort fun a b=>!ltP b a
theorem qCt (ps:List (Int×Str)):(qC2 ps).Perm ps:=List.mergeSort_perm _ _
theorem qMl (ps:List (Int×Str)):(qC2 ps).Pairwise fun a b=>ltP b a=false:=by
 have h:=List.pairwise_mergeSort (le:=fun a b:Int×Str=>!ltP b a) (fun a b c h1 h2=>by
  simp only [Bool.not_eq_true'] at h1 h2 ⊢;exact qWo _ _ _ h1 h2) (fun a b=>by
  simp only [Bool.or_eq_true,Bool.not_eq_true']
  cases z:ltP b a with
  | false=>exact .inl rfl
  | true=>exact .inr (qWp _ _ z)) ps
 exact h.imp fun {a b} q=>by simpa using q
theorem qIu {ps l:List (Int×Str)}(h:l.Perm ps)(u:l.Pairwise fun a b=>ltP b a=false):l=qC2 ps:=
 qJb (fun a b h1 h2=>(qZ3 _ _ h1 h2).symm) _ _ (h.trans (qCt ps).symm) u (qMl ps)
def qLl:List D→Option (List (Int×Str))
 | []=>some []
 | .tup [.int a,.str x]::r=>(qLl r).map ((a,x)::·)
 | _=>none
def unP (p:Int×Str):D:=.tup [.int p.1,.str p.2]
def qTg:List W→Rs W
 | [w]=>match w.items with
  | some (true,ds)=>match qLl ds with
   | some ps=>if ps.length < 64 then .ok (.li true ((qC2 ps).map unP)) else .no
   | none=>.no
  | _=>.no
 | _=>.no
theorem qLk:∀ (ps:List (Int×Str)),qLl (ps.map unP)=some ps
 | []=>rfl
 | p::r=>by simp only [List.map_cons,unP,qLl];rw [qLk r];rfl
theorem qOw:∀ {ds:List D} {ps:List (Int×Str)},qLl ds=some ps→ds=ps.map unP
 | [],ps,h=>by cases h;rfl
 | d::r,ps,h=>by
  unfold qLl at h
  split at h
  ·rename_i e;cases e
  ·rename_i a x r' e
   cases e
   obtain ⟨q,h1,h2⟩:=Option.map_eq_some_iff.mp h
   subst h2
   rw [qOw h1];rfl
  ·cases h
def Pr (h:Heap)(v:Value)(p:Int×Str):Prop:=∃ c t u o k,v=.ref c∧h.get? c=some o∧o.cls=.type "tuple"∧o.data=.seq #[.int p.1 t,.str p.2 u] k
theorem Pr.kept {h h':Heap}{v:Value}{p:Int×Str}(x:Pr h v p)(k:∀ b o,h.get? b=some o→h'.get? b=some o):Pr h' v p:=by
 obtain ⟨c,t,u,o,n,rfl,ho,hc,hd⟩:=x
 exact ⟨c,t,u,o,n,rfl,k _ _ ho,hc,hd⟩
section
variable {X:Cx}{pins:List (Addr×Obj)}{σ:L2.St}{H B:Hp}{s:Shared}
theorem qV5 (I:Inv X pins σ H s)(hs:qA5 B H):∀ {ps:List (Int×Str)} {vs:List V} {us:List Value},IsDs X.K B (ps.map unP) vs→qBv vs us→us.length=ps.length∧∀ i,i < ps.length→Pr s.heap (us.getD i .none) (ps.getD i (0,Str.empty))
 | [],vs,us,h,r=>by cases #[56];cases r;exact ⟨rfl,fun i hi=>absurd hi #[7]⟩
 | p::ps,vs,us,h,r=>by
  obtain ⟨v,rr,rfl,e2,e3⟩:=h
  cases r with
  | cons r1 r2=>
   obtain ⟨l,ih⟩:=qV5 I hs e3 r2
   refine ⟨by simp [l],fun i hi=>?_⟩
   cases i with
   | zero=>
    obtain ⟨c,ws,rfl,q2,q3⟩:=e2
    obtain ⟨v0,rr0,rfl,b2,b3⟩:=q3
    obtain ⟨v1,rr1,rfl,c2,c3⟩:=b3
    cases (show rr1=[] from c3)
    cases (show v0=.int p.1 from b2)
    cases (show v1=.str p.2 from c2)
    obtain ⟨its,rv,⟨ob,ho,hc,n,hd⟩,hz⟩:=I.tuple (qA5.tp hs q2)
    cases rv with
    | cons s1 s2=>
     cases s2 with
     | cons s3 s4=>
      cases s4
      obtain ⟨t,rfl⟩:=s1
      obtain ⟨u,rfl⟩:=s3
      cases (show _=Value.ref c from r1)
      exact ⟨c,t,u,_,_,rfl,ho,hc,hd⟩
   | succ i=>exact ih i (by simpa using hi)
theorem pr_lt {prog:Program}{w:World}{A:Around}{E:Value→Shared→Prop}{s:Shared}{x y:Value}{p q:Int×Str}{C:Bool→Shared→Prop}(hx:Pr s.heap x p)(hy:Pr s.heap y q)(h:C (ltP p q) s) :
  wpAny #[22] A (keyLt' (tuples' true) x y) C E s:=by
 obtain ⟨c,t,u,o,k,rfl,ho,hc,hd⟩:=hx
 obtain ⟨c',t',u',o',k',rfl,ho',hc',hd'⟩:=hy
 refine kat_lt ho hd ho' hd' ?_
 unfold ltP at h
 refine kat_cons (wpAny_eqBool_int (kat_go (fun e=>?_) fun e=>?_))
 ·rw [if_pos (by simpa using e)] at h
  refine kat_yes (kat_cons (wpAny_eqBool_str (kat_go (fun e2=>?_) fun e2=>?_)))
  ·refine kat_yes (kat_nil ?_)
   have e3:p.2=q.2:=of_decide_eq_true e2
   rw [e3,decide_eq_false (List.lt_irrefl _)] at h
   exact h
  ·exact kat_no (kat_one _ _ (PyProof.Rows.lt_str h))
 ·rw [if_neg (by simpa using e)] at h
  exact kat_no (oneLt_int h)
theorem qWz:∀ {h:Heap} {us:List Value} {ps:List (Int×Str)},us.length=ps.length→(∀ i,i < ps.length→Pr h (us.getD i .none) (ps.getD i (0,Str.empty)))→∃ fs,KatTups h us fs∧fs.length=us.length∧∀ v∈fs,∃ a t,v=.int a t
 | h,[],ps,hl,hp=>⟨[],.nil,rfl,fun v hv=>absurd hv #[7]⟩
 | h,u::us,[],hl,hp=>absurd hl #[7]
 | h,u::us,p::ps,hl,hp=>by
  obtain ⟨fs,h1,h2,h3⟩:=qWz (h:=h) (us:=us) (ps:=ps) (by simpa using hl) fun i hi=>by simpa using hp (i + 1) (by simpa using hi)
  obtain ⟨c,t,u',o,k,e,ho,hc,hd⟩:=hp 0 #[7]
  have e':u=.ref c:=by simpa using e
  subst e'
  refine ⟨.int p.1 t::fs,KatTups.cons ho hc hd rfl h1,by simp [h2],fun v hv=>?_⟩
  rcases List.mem_cons.mp hv with e | m
  ·exact ⟨_,_,e⟩
  ·exact h3 v m
theorem qJa {vs:List V}{us:List Value}(r:qBv vs us):∀ (l:List Nat),(∀ i∈l,i < vs.length)→qBv (l.map fun i=>vs.getD i .non) (l.map fun i=>us.getD i .none)
 | [],_=>.nil
 | i::l,h=>by
  have hi:=h i #[51]
  obtain ⟨u,e1,e2⟩:=r.get (List.getElem?_eq_getElem hi)
  refine .cons ?_ (qJa r l fun j hj=>h j (List.mem_cons_of_mem _ hj))
  show L2.RelV (vs.getD i .non) (us.getD i .none)
  rw [List.getD_eq_getElem?_getD,List.getD_eq_getElem?_getD,List.getElem?_eq_getElem hi,e1]
  exact e2
theorem qJ8 {K:PySem.W.Frag}{B:Hp}{ps:List (Int×Str)}{vs:List V}(r:IsDs K B (ps.map unP) vs):∀ (l:List Nat),(∀ i∈l,i < vs.length)→IsDs K B ((l.map fun i=>ps.getD i (0,Str.empty)).map unP) (l.map fun i=>vs.getD i .non)
 | [],_=>rfl
 | i::l,h=>by
  have hi:=h i #[51]
  have hl:vs.length=ps.length:=by rw [←r.len];simp
  have hi':i < ps.length:=by omega
  refine ⟨_,_,rfl,?_,qJ8 r l fun j hj=>h j (List.mem_cons_of_mem _ hj)⟩
  obtain ⟨v,e1,e2⟩:=r.get (i:=i) (d:=unP (ps.getD i (0,Str.empty))) (by rw [List.getElem?_map,List.getElem?_eq_getElem hi',List.getD_eq_getElem?_getD,List.getElem?_eq_getElem hi'];rfl)
  show IsD K B (unP (ps.getD i (0,Str.empty))) (vs.getD i .non)
  rw [show vs.getD i .non=v by rw [List.getD_eq_getElem?_getD,e1];rfl]
  exact e2
theorem boot_sorted:bootBuiltins "sorted"=some (.builtin "sorted"):=by rfl
theorem qIm {Ew:XW}:qEo X (.builtin "sorted") (rA X.K Ew qTg):=by
 intro pins s σ H xs us Q I rx ⟨B,ws,hs,hw,p⟩
 unfold qTg at p
 split at p
 ·rename_i w
  obtain ⟨v,r,rfl,e2,e3⟩:=hw
  cases (show r=[] from e3)
  split at p
  ·rename_i ds ek
   split at p
   ·rename_i ps eps
    split at p
    ·rename_i h64
     obtain ⟨c,vs,rfl,q2,q3⟩:=e2.items hs ek
     rw [qOw eps] at q3
     cases rx with
     | cons r1 r2=>
      cases r2
      cases (show _=Value.ref c from r1)
      obtain ⟨its,rv,pl,hz⟩:=I.list (show SqL X.K H c vs from q2)
      obtain ⟨hl,hp⟩:=qV5 I hs q3 rv
      have hvl:vs.length=ps.length:=by rw [←q3.len];simp
      refine qYu (κ:=tuples' true) (lt:=fun i j=>ltP (ps.getD i (0,Str.empty)) (ps.getD j (0,Str.empty))) (PP:=fun p=>Pm its.length p∧Up (fun i j=>ltP (ps.getD i (0,Str.empty)) (ps.getD j (0,Str.empty))) p 0 its.length∨p=(List.range its.length).toArray∧its.length < 2)
       pl.isList #[0] (fun h2 h1 k Q q=>?_) (fun h1 tk i j C k hi hj hC=>?_) (fun h2=>qGa (fun p z=>.inl z) _ (qWf (fun i j=>qWp _ _) (fun i j k=>qWo _ _ _) #[0])) (fun h2=>.inr ⟨rfl,h2⟩) fun h' tk cc n p' hPP hn kp e=>?_
      ·obtain ⟨fs,f1,f2,f3⟩:=qWz hl fun i hi=>(hp i hi).kept k
       have e0:(Value.type "int" != Value.type "tuple")=true:=by decide
       refine kat_kind (s:={ s with heap:=h1 }) (T:=Value.type "int") f1 #[0] (fun v hv=>?_) #[5] (by rw [e0];exact q)
       obtain ⟨a,t,rfl⟩:=f3 v hv
       exact .now
      ·unfold kas_ask
       exact pr_lt ((hp i #[0]).kept k) ((hp j #[0]).kept k) (hC tk)
      ·have fin:∀ l:List Nat,l.Perm (List.range its.length)→(l.map fun i=>ps.getD i (0,Str.empty)).Pairwise (fun a b=>ltP b a=false)→p'.toList=l→EP X pins σ Q (.ref n) { s with heap:=h',toks:=tk }:=fun l hlp hup el=>by
        have hmem:∀ i∈l,i < vs.length:=fun i hi=>by
         have:=hlp.mem_iff.mp hi
         rw [List.mem_range] at this;omega
        have hsrt:(l.map fun i=>ps.getD i (0,Str.empty))=qC2 ps:=by
         refine qIu ?_ hup
         refine (hlp.map _).trans ?_
         have:(List.range its.length).map (fun i=>ps.getD i (0,Str.empty))=ps:=by
          apply List.ext_getElem
          ·simp [hl]
          ·intro i h1 h2
           simp [List.getD_eq_getElem?_getD,List.getElem?_eq_getElem h2]
         rw [this]
        rw [el] at e
        have hll:l.length=vs.length:=by rw [hlp.length_eq,List.length_range];omega
        refine ⟨.ref n,_,I.laid (t':=tk) kp hn (show qB8 X.prog X.w _ h' _ (.lst (l.map fun i=>vs.getD i .non)) from ⟨by rw [List.length_map,hll];exact hz,_,cc,qJa rv l hmem,e⟩),rfl,?_⟩
        have hfr:=I.hok.fresh hn
        refine p B _ (Grow.new hs hfr (hs.free hfr)) _ ⟨n,_,rfl,hfr,hs.free hfr,qAu,?_⟩
        rw [←hsrt]
        exact qJ8 q3 l hmem
       rcases hPP with ⟨hpm,hup⟩ | ⟨rfl,h2⟩
       ·refine fin p'.toList ?_ ?_ rfl
        ·simpa using hpm.pm.toList
        ·rw [List.pairwise_map,List.pairwise_iff_getElem]
         intro i j hi hj hij
         have hsz:=hpm.sz
         have:=hup i j #[50] hij (by simpa [hsz] using hj)
         have g1:p'.getD i 0=p'.toList[i]:=by simp [Array.getD,show i < p'.size by simpa using hi]
         have g2:p'.getD j 0=p'.toList[j]:=by simp [Array.getD,show j < p'.size by simpa using hj]
         rw [g1,g2] at this
         exact this
       ·refine fin (List.range its.length) (List.Perm.refl _) ?_ #[7]
        have:its.length=0∨its.length=1:=by omega
        rcases this with z | z
        ·rw [z];simp
        ·rw [z];simp [List.range_succ]
    ·exact p.elim
   ·exact p.elim
  ·exact p.elim
 ·exact p.elim
end
open PySem PySem.Spec PyProof.Rows L2
theorem hu1 {A:Around}{k:Nat}(hr:Room k A):A.units + 1 < cLine:=by have:=hr.un;omega
def kD:Key→D
 | .inl i=>.int i
 | .inr x=>.str x
def keyD:D→Option Key
 | .int i=>some (.inl i)
 | .str x=>some (.inr x)
 | _=>none
def qMu (ks:List (Key×D))(k:Key)(d:D):List (Key×D):=
 if #[84]=true then ks.map (fun kv=>if kv.1=k then (kv.1,d) else kv) else ks++[(k,d)]
section
variable {K:PySem.W.Frag}{B:Hp}
theorem qWy {d:D}{k:Key}{v:V}(e:keyD d=some k)(h:IsD K B d v):v=kV k:=by
 cases d with
 | int i=>cases e;exact h
 | str x=>cases e;exact h
 | _=>cases e
theorem KD.len {ks:List (Key×D)}{kvs:List (Key×V)}(h:KD K B ks kvs):kvs.length=ks.length:=by have:=congrArg List.length h.1;simpa using this
theorem KD.swap {k:Key}{d:D}{v:V}(hd:IsD K B d v):∀ {ks:List (Key×D)} {kvs:List (Key×V)},KD K B ks kvs→KD K B (ks.map fun kv=>if kv.1=k then (kv.1,d) else kv) (kvs.map fun kv=>if kv.1=k then (kv.1,v) else kv)
 | [],kvs,h=>by
  have:kvs=[]:=by have:=h.len;simpa using this
  subst this;exact ⟨rfl,rfl⟩
 | (k1,d1)::ks,kvs,h=>by
  cases kvs with
  | nil=>have:=h.len;simp at this
  | cons q kvs=>
   obtain ⟨k2,v2⟩:=q
   obtain ⟨h1,u,us,e,h2,h3⟩:=h
   simp only [List.map_cons,List.cons.injEq] at h1 e
   obtain ⟨rfl,rfl⟩:=e
   obtain ⟨rfl,h1⟩:=h1
   have ih:=KD.swap hd (k:=k) (ks:=ks) (kvs:=kvs) ⟨h1,h3⟩
   by_cases z:k2=k
   ·simp only [List.map_cons,if_pos z]
    exact ⟨by simp only [List.map_cons];rw [ih.1],v,_,rfl,hd,ih.2⟩
   ·simp only [List.map_cons,if_neg z]
    exact ⟨by simp only [List.map_cons];rw [ih.1],v2,_,rfl,h2,ih.2⟩
theorem KD.put {ks:List (Key×D)}{kvs:List (Key×V)}{k:Key}{d:D}{v:V}(h:KD K B ks kvs)(hd:IsD K B d v):KD K B (qMu ks k d) (qJu kvs k v):=by
 have e:#[83]=#[84]:=by
  have a1:#[83]=(kvs.map (·.1)).any fun x=>decide (x=k):=by rw [List.any_map];rfl
  have a2:#[84]=(ks.map (·.1)).any fun x=>decide (x=k):=by rw [List.any_map];rfl
  rw [a1,a2,h.1]
 unfold qMu qJu
 rw [e]
 split
 ·exact h.swap hd
 ·exact ⟨by rw [List.map_append,List.map_append,h.1];rfl,by rw [List.map_append,List.map_append];exact h.2.app (.one hd)⟩
variable {B0 F0 P H:Hp}{σ:L2.St}{δ:qAi}
theorem R.dct {B' H':Hp}(r:R K B0 F0 P B H σ δ)(g:Grow B H B' H'){i:Nat}{ks:List (Key×D)}{a:Addr}{kvs:List (Key×V)}(h0:H a=none)(hb:B' a=none)(hh:H' a=some (.dK kvs))(h:KD K B' ks kvs) :
  R K B0 F0 P B' H' (σ.set i #[31]) (δ.set i (.dct ks)):=by
 have r':=r.grow g
 refine ⟨r'.b0,r'.nw,r'.fh,r'.ph,r'.bh,by rw [List.length_set,List.length_set];exact r.len,fun j s e=>?_,fun j k s t b hjk e1 e2 o1 o2 z1 z2=>?_⟩
 ·by_cases hj:i=j
  ·subst hj
   obtain ⟨rfl,hl⟩:=qBd e
   refine ⟨a,kvs,?_,r.fh.free h0,r.ph.free h0,hb,hh,h⟩
   rw [List.getElem?_set_self (by rw [←r.len];exact hl)]
  ·rw [qA0 hj] at e
   rw [qA0 hj]
   exact r'.sl j s e
 ·have live:∀ (j:Nat) (s:Sl),δ[j]?=some s→s.isOwn=true→σ[j]?=some #[31]→False:=fun j s e o z=>by
   obtain ⟨_,_,_,u,hu⟩:=qDy r e o z
   rw [h0] at hu;cases hu
  by_cases hj:i=j
  ·subst hj
   by_cases hk:i=k
   ·exact hjk hk
   ·rw [qA0 hk] at e2 z2
    obtain ⟨_,hl⟩:=qBd z1
    rw [List.getElem?_set_self hl] at z1
    cases z1
    exact live k t e2 o2 z2
  ·by_cases hk:i=k
   ·subst hk
    rw [qA0 hj] at e1 z1
    obtain ⟨_,hl⟩:=qBd z2
    rw [List.getElem?_set_self hl] at z2
    cases z2
    exact live j s e1 o1 z1
   ·rw [qA0 hj] at e1 z1
    rw [qA0 hk] at e2 z2
    exact r.ne j k s t b hjk e1 e2 o1 o2 z1 z2
theorem R.putd (r:R K B0 F0 P B H σ δ){i:Nat}{ks es:List (Key×D)}{a:Addr}{us:List (Key×V)}(ei:δ[i]?=some (.dct ks))(ea:σ[i]?=some #[31])(hu:KD K B es us) :
  R K B0 F0 P B (upd H a (.dK us)) σ (δ.set i (.dct es)):=by
 obtain ⟨a',vs',q1,q2,q3,q4,q5,q6⟩:=r.sl i _ ei
 rw [ea] at q1
 cases q1
 have keep:∀ {G:Hp},qA5 G H→G a=none→qA5 G (upd H a (.dK us)):=fun hs hn b o e=>by
  rw [qAr (qAn e hn)];exact hs b o e
 refine ⟨r.b0,r.nw,keep r.fh q2,keep r.ph q3,keep r.bh q4,by rw [List.length_set];exact r.len,fun j s e=>?_,fun j k s t b hjk e1 e2 o1 o2 z1 z2=>?_⟩
 ·by_cases hj:i=j
  ·subst hj
   obtain ⟨rfl,hl⟩:=qBd e
   exact ⟨a,us,ea,q2,q3,q4,qAu,hu⟩
  ·rw [qA0 hj] at e
   have:=r.sl j s e
   cases s with
   | own fs=>
    obtain ⟨c,ws,w1,w2,w3,w4,w5,w6⟩:=this
    have hne:c≠a:=fun z=>by
     subst z
     exact r.ne j i _ _ c (Ne.symm hj) e ei rfl rfl w1 ea
    exact ⟨c,ws,w1,w2,w3,w4,by rw [qAr hne];exact w5,w6⟩
   | dct fs=>
    obtain ⟨c,ws,w1,w2,w3,w4,w5,w6⟩:=this
    have hne:c≠a:=fun z=>by
     subst z
     exact r.ne j i _ _ c (Ne.symm hj) e ei rfl rfl w1 ea
    exact ⟨c,ws,w1,w2,w3,w4,by rw [qAr hne];exact w5,w6⟩
   | dtt fs=>
    obtain ⟨c,ws,w1,w2,w3,w4,w5,w6⟩:=this
    have hne:c≠a:=fun z=>by
     subst z
     exact r.ne j i _ _ c (Ne.symm hj) e ei rfl rfl w1 ea
    exact ⟨c,ws,w1,w2,w3,w4,by rw [qAr hne];exact w5,w6⟩
   | _=>exact this
 ·have back:∀ (j:Nat) (s:Sl),(δ.set i (.dct es))[j]?=some s→s.isOwn=true→∃ s',δ[j]?=some s'∧s'.isOwn=true:=fun j s e o=>by
   by_cases hj:i=j
   ·subst hj;exact ⟨_,ei,rfl⟩
   ·rw [qA0 hj] at e;exact ⟨s,e,o⟩
  obtain ⟨s',e1',o1'⟩:=back j s e1 o1
  obtain ⟨t',e2',o2'⟩:=back k t e2 o2
  exact r.ne j k s' t' b hjk e1' e2' o1' o2' z1 z2
end
section
variable {X:Cx}{Ew:XW}{e c:Expr}{pos p' pos' dpos:Pos}
def dnewF (i:Nat)(δ:qAi):Rs Fl:=.ok (.nx (δ.set i (.dct [])))
theorem qZm (i:Nat){x:Str}(hN:X.N.Nodup)(hi:X.N[i]?=some x:=by rfl)(hx:Loc X.env.scope x:=by first | exact Or.inl rfl | exact Or.inr rfl)(hs:swapsWith (.Dict [] [] dpos) (some (.Name x p')) pos.line X.env=pure false:=by rfl)
  (hf:X.fn x=true∨X.env.scope.names.lookup x=some .local:=by first | exact .inl rfl | exact .inr rfl | assumption) :
  PSX X Ew [i] (.Assign [.Name x p'] (.Dict [] [] dpos) pos) (dnewF i):=
 ⟨_,qJw hN hi hx qZs hs hf,fun B0 F0 P B H σ δ D r p q hq=>p B _ _ (r.dct (Grow.new r.bh hq (r.bh.free hq)) hq (r.bh.free hq) qAu ⟨rfl,rfl⟩) qHa⟩
def qXv (i:Nat)(gv ge:qAi→Rs D)(δ:qAi):Rs Fl:=match δ[i]? with
 | some (.dct ks)=>gv δ>>=fun d=>ge δ>>=fun kd=>match keyD kd with
  | some k=>if ks.length < lim then .ok (.nx (δ.set i (.dct (qMu ks k d)))) else .no
  | none=>.no
 | _=>.no
theorem qZl (i:Nat){x:Str}{gv ge:qAi→Rs D}(hu:X.A.units + 1 < cLine)(hv:PXd X Ew e gv)(he:PXd X Ew c ge)(hN:X.N[i]?=some x:=by rfl)(hvi:Vis X.env.scope x:=by first | exact Or.inl rfl | exact Or.inr (Or.inl rfl) | exact Or.inr (Or.inr rfl))
  (hd:#[25]=false:=by decide) (hcd:#[48]=false:=by decide) (hs:swapsWith e (some (.Subscript (.Name x p') c pos')) pos.line X.env=pure false:=by rfl) :
  PSX X Ew [] (.Assign [.Subscript (.Name x p') c pos'] e pos) (qXv i gv ge):=by
 obtain ⟨tv,v1,v2⟩:=hv
 obtain ⟨te,h1,h2⟩:=he
 refine ⟨_,qV4 hu (qC5 hN hvi hd hcd) h1 v1 hs,fun B0 F0 P B H σ δ D r p=>?_⟩
 unfold qXv at p
 split at p
 ·rename_i ks ei
  obtain ⟨a,kvs,e1,e2,e3,e4,e5,e6⟩:=r.sl i _ ei
  refine v2 B0 F0 P B H σ δ _ r ((qB5.bind r p).mono fun d B1 H1 g1 p1 v hd=>?_)
  have r1:=r.grow g1
  refine ⟨_,e1,h2 B0 F0 P B1 H1 σ δ _ r1 ((qB5.bind r1 p1).mono fun kd B2 H2 g2 p2 y hy=>?_)⟩
  split at p2
  ·rename_i k ek
   split at p2
   ·rename_i hl
    have e7:=g2.sh _ _ (g1.sh _ _ e5)
    have l1:=e6.len
    have hyk:=qWy ek hy
    subst hyk
    refine ⟨a,_,rfl,qca.k e7 (by rw [qDg,l1];exact hl),?_⟩
    have r2:=(r1.grow g2).putd (ks:=ks) (es:=qMu ks k d) (us:=qJu kvs k v) ei e1 (((e6.mono g1.sb).mono g2.sb).put (IsD.mono g2.sb d v hd))
    exact p2 B2 _ σ r2 fun _ _=>rfl
   ·exact p2.elim
  ·exact p2.elim
 ·exact p.elim
def qWu (i:Nat)(δ:qAi):Rs W:=match δ[i]? with
 | some (.dct ks)=>.ok (.li true (ks.map fun q=>kD q.1))
 | _=>.no
theorem qNy {P:Program}{w:World}:∀ {kvs:List (Key×V)} {ks:List (Key×Value)} {us:List Value},KV kvs ks→us.length=ks.length→(∀ (i:Nat) (v:Value),us[i]?=some v→∃ k x,ks[i]?=some (k,x)∧qRd k v=true)→qBv (kvs.map fun q=>kV q.1) us
 | [],ks,us,h,hl,hv=>by
  cases h
  cases us with
  | nil=>exact .nil
  | cons _ _=>simp at hl
 | q::kvs,ks,us,h,hl,hv=>by
  cases h with
  | cons h1 h2=>
   rename_i q' ks'
   cases us with
   | nil=>simp at hl
   | cons u us=>
    refine .cons ?_ (qNy (P:=P) (w:=w) h2 (by simpa using hl) fun i v e=>by simpa using hv (i + 1) v (by simpa using e))
    obtain ⟨k,x,e1,e2⟩:=hv 0 u rfl
    have e3:q'=(k,x):=by simpa using e1
    subst e3
    show L2.RelV (kV q.1) u
    rw [h1.1]
    rcases qB2 e2 with ⟨i,t,e4,e5⟩ | ⟨z,t,e4,e5⟩
    ·cases (show k=_ from e4);exact ⟨t,e5⟩
    ·cases (show k=_ from e4);exact ⟨t,e5⟩
theorem qPa {K:PySem.W.Frag}{B:Hp}:∀ {ks:List (Key×D)} {kvs:List (Key×V)},kvs.map (·.1)=ks.map (·.1)→IsDs K B (ks.map fun q=>kD q.1) (kvs.map fun q=>kV q.1)
 | [],kvs,h=>by
  have:kvs=[]:=by simpa using h
  subst this;rfl
 | q::ks,kvs,h=>by
  cases kvs with
  | nil=>simp at h
  | cons q' kvs=>
   simp only [List.map_cons,List.cons.injEq] at h
   refine ⟨_,_,rfl,?_,qPa h.2⟩
   show IsD K B (kD q.1) (kV q'.1)
   rw [h.1]
   cases q.1 <;> rfl
theorem qZb (i:Nat){x:Str}{p1 p2:Pos}(hc:X.calm=true)(hgl:Gl X "list")(hml:X.mg "list"=none)(hN:X.N[i]?=some x:=by rfl)(hvi:Vis X.env.scope x:=by first | exact Or.inl rfl | exact Or.inr (Or.inl rfl) | exact Or.inr (Or.inr rfl))
  (hd:#[25]=false:=by decide) (hcd:#[48]=false:=by decide)
  (hs:starEach [.Name x p2] X.env=#[85]::starEach [] X.env:=by rfl) (hp1:(backTo pos #[39]).any (·.1)=false:=by rfl) (hn1:backTo pos #[39]=[]:=by rfl) :
  PX X Ew (.Call (.Name "list" p1) [.Name x p2] [] pos) (qWu i):=by
 refine ⟨fun σ H Q=>∃ a kvs,σ[i]?=some #[31]∧H a=some (.dK kvs)∧∀ l,H l=none→Q (.ref l) (upd H l (.lst (kvs.map fun q=>kV q.1))),fun pins s σ H Q I ⟨a,kvs,ea,eh,q⟩=>?_,fun B0 F0 P B H σ δ Q r p=>?_⟩
 ·refine wpAny_Call_Name_kw (qFc I hgl hml boot_list ?_ #[5] #[5])
  refine PyProof.Rows.callWith_type1 ?_ hs hp1
  rw [hs]
  show wpAny _ _ (spliced (#[85]::backTo pos #[39])) _ _ s
  rw [hn1]
  refine Calls.spliced_cons #[112]
  subst ey eH
  cases (show iv=Value.ref a from ry)
  obtain ⟨z,hsys,vs,kv,o,es,ep,qFw⟩:=(show qB8 X.prog X.w H2 s2.heap a (.dK kvs) from I2.hok a _ eh)
  have hat:s2.heap.DictAt (qCh X.prog X.w) a vs ep:=⟨o,es,qFw⟩
  have hl:kvs.length=vs.length:=Paired.length kv
  refine PySem.W.kdl_call (PySem.W.kdl_dict (knd:=qCh X.prog X.w) (kvs:=vs) (ep:=ep) hsys) (I2.ok.hd hc) hat #[0] fun h' tk acc' c' kp e hacc=>?_
  have hv:qBv (kvs.map fun q=>kV q.1) acc'.toList:=qNy (P:=X.prog) (w:=X.w) kv (by rw [Array.length_toList];exact hacc.1) fun j v ej=>hacc.2 j v (by rw [←Array.getElem?_toList];exact ej)
  refine ⟨.ref s2.heap.objs.size,_,I2.laid (t':=tk) kp #[8] (show qB8 X.prog X.w _ h' _ (.lst (kvs.map fun q=>kV q.1)) from ⟨by rw [List.length_map];exact z,acc'.toList,c',hv,by rw [Array.toArray_toList];exact e⟩),rfl,q _ (I2.hok.fresh #[8])⟩
 ·unfold qWu at p
  split at p
  ·rename_i ks ei
   obtain ⟨a,kvs,e1,e2,e3,e4,e5,e6⟩:=r.sl i _ ei
   exact ⟨a,kvs,e1,e5,fun l hl=>p B _ (Grow.new r.bh hl (r.bh.free hl)) _ ⟨l,_,rfl,hl,r.bh.free hl,qAu,qPa e6.1⟩⟩
  ·exact p.elim
end
open PySem PySem.Spec PyProof.Rows L2
def qZ8:List D→Option (List Key)
 | []=>some []
 | d::r=>match keyD d,qZ8 r with
  | some k,some ks=>some (k::ks)
  | _,_=>none
def qGt (ks:List (List Key×D))(k:List Key)(d:D):List (List Key×D):=
 if #[84]=true then ks.map (fun kv=>if kv.1=k then (kv.1,d) else kv) else ks++[(k,d)]
def qF3 (ks:List (List Key×D))(k:List Key):Option D:=(ks.find? fun kv=>decide (kv.1=k)).map (·.2)
section
variable {K:PySem.W.Frag}{B:Hp}
theorem qSp:∀ {ds:List D} {k:List Key} {vs:List V},qZ8 ds=some k→IsDs K B ds vs→vs=k.map kV
 | [],k,vs,e,h=>by cases e;exact h
 | d::ds,k,vs,e,h=>by
  obtain ⟨v,r,rfl,h1,h2⟩:=h
  unfold qZ8 at e
  split at e
  ·rename_i k1 ks q1 q2
   cases e
   rw [qWy q1 h1,qSp q2 h2];rfl
  ·cases e
theorem KDt.len {ks:List (List Key×D)}{kvs:List #[41]}(h:KDt K B ks kvs):kvs.length=ks.length:=by have:=congrArg List.length h.1;simpa using this
theorem KDt.swap {k:List Key}{d:D}{v:V}(hd:IsD K B d v):∀ {ks:List (List Key×D)} {kvs:List #[41]},KDt K B ks kvs→KDt K B (ks.map fun kv=>if kv.1=k then (kv.1,d) else kv) (kvs.map fun kv=>if kv.1=k then (kv.1,v) else kv)
 | [],kvs,h=>by
  have:kvs=[]:=by have:=h.len;simpa using this
  subst this;exact ⟨rfl,rfl⟩
 | (k1,d1)::ks,kvs,h=>by
  cases kvs with
  | nil=>have:=h.len;simp at this
  | cons q kvs=>
   obtain ⟨k2,v2⟩:=q
   obtain ⟨h1,u,us,e,h2,h3⟩:=h
   simp only [List.map_cons,List.cons.injEq] at h1 e
   obtain ⟨rfl,rfl⟩:=e
   obtain ⟨rfl,h1⟩:=h1
   have ih:=KDt.swap hd (k:=k) (ks:=ks) (kvs:=kvs) ⟨h1,h3⟩
   by_cases z:k2=k
   ·simp only [List.map_cons,if_pos z]
    exact ⟨by simp only [List.map_cons];rw [ih.1],v,_,rfl,hd,ih.2⟩
   ·simp only [List.map_cons,if_neg z]
    exact ⟨by simp only [List.map_cons];rw [ih.1],v2,_,rfl,h2,ih.2⟩
theorem KDt.put {ks:List (List Key×D)}{kvs:List #[41]}{k:List Key}{d:D}{v:V}(h:KDt K B ks kvs)(hd:IsD K B d v):KDt K B (qGt ks k d) (qJu kvs k v):=by
 have e:#[83]=#[84]:=by
  have a1:#[83]=(kvs.map (·.1)).any fun x=>decide (x=k):=by rw [List.any_map];rfl
  have a2:#[84]=(ks.map (·.1)).any fun x=>decide (x=k):=by rw [List.any_map];rfl
  rw [a1,a2,h.1]
 unfold qGt qJu
 rw [e]
 split
 ·exact h.swap hd
 ·exact ⟨by rw [List.map_append,List.map_append,h.1];rfl,by rw [List.map_append,List.map_append];exact h.2.app (.one hd)⟩
variable {B0 F0 P H:Hp}{σ:L2.St}{δ:qAi}
theorem R.dtt {B' H':Hp}(r:R K B0 F0 P B H σ δ)(g:Grow B H B' H'){i:Nat}{ks:List (List Key×D)}{a:Addr}{kvs:List #[41]}(h0:H a=none)(hb:B' a=none)(hh:H' a=some (.dT kvs))(h:KDt K B' ks kvs) :
  R K B0 F0 P B' H' (σ.set i #[31]) (δ.set i (.dtt ks)):=by
 have r':=r.grow g
 refine ⟨r'.b0,r'.nw,r'.fh,r'.ph,r'.bh,by rw [List.length_set,List.length_set];exact r.len,fun j s e=>?_,fun j k s t b hjk e1 e2 o1 o2 z1 z2=>?_⟩
 ·by_cases hj:i=j
  ·subst hj
   obtain ⟨rfl,hl⟩:=qBd e
   refine ⟨a,kvs,?_,r.fh.free h0,r.ph.free h0,hb,hh,h⟩
   rw [List.getElem?_set_self (by rw [←r.len];exact hl)]
  ·rw [qA0 hj] at e
   rw [qA0 hj]
   exact r'.sl j s e
 ·have live:∀ (j:Nat) (s:Sl),δ[j]?=some s→s.isOwn=true→σ[j]?=some #[31]→False:=fun j s e o z=>by
   obtain ⟨_,_,_,u,hu⟩:=qDy r e o z
   rw [h0] at hu;cases hu
  by_cases hj:i=j
  ·subst hj
   by_cases hk:i=k
   ·exact hjk hk
   ·rw [qA0 hk] at e2 z2
    obtain ⟨_,hl⟩:=qBd z1
    rw [List.getElem?_set_self hl] at z1
    cases z1
    exact live k t e2 o2 z2
  ·by_cases hk:i=k
   ·subst hk
    rw [qA0 hj] at e1 z1
    obtain ⟨_,hl⟩:=qBd z2
    rw [List.getElem?_set_self hl] at z2
    cases z2
    exact live j s e1 o1 z1
   ·rw [qA0 hj] at e1 z1
    rw [qA0 hk] at e2 z2
    exact r.ne j k s t b hjk e1 e2 o1 o2 z1 z2
theorem R.putt (r:R K B0 F0 P B H σ δ){i:Nat}{ks es:List (List Key×D)}{a:Addr}{us:List #[41]}(ei:δ[i]?=some (.dtt ks))(ea:σ[i]?=some #[31])(hu:KDt K B es us) :
  R K B0 F0 P B (upd H a (.dT us)) σ (δ.set i (.dtt es)):=by
 obtain ⟨a',vs',q1,q2,q3,q4,q5,q6⟩:=r.sl i _ ei
 rw [ea] at q1
 cases q1
 have keep:∀ {G:Hp},qA5 G H→G a=none→qA5 G (upd H a (.dT us)):=fun hs hn b o e=>by
  rw [qAr (qAn e hn)];exact hs b o e
 refine ⟨r.b0,r.nw,keep r.fh q2,keep r.ph q3,keep r.bh q4,by rw [List.length_set];exact r.len,fun j s e=>?_,fun j k s t b hjk e1 e2 o1 o2 z1 z2=>?_⟩
 ·by_cases hj:i=j
  ·subst hj
   obtain ⟨rfl,hl⟩:=qBd e
   exact ⟨a,us,ea,q2,q3,q4,qAu,hu⟩
  ·rw [qA0 hj] at e
   have:=r.sl j s e
   cases s with
   | own fs=>
    obtain ⟨c,ws,w1,w2,w3,w4,w5,w6⟩:=this
    have hne:c≠a:=fun z=>by
     subst z
     exact r.ne j i _ _ c (Ne.symm hj) e ei rfl rfl w1 ea
    exact ⟨c,ws,w1,w2,w3,w4,by rw [qAr hne];exact w5,w6⟩
   | dtt fs=>
    obtain ⟨c,ws,w1,w2,w3,w4,w5,w6⟩:=this
    have hne:c≠a:=fun z=>by
     subst z
     exact r.ne j i _ _ c (Ne.symm hj) e ei rfl rfl w1 ea
    exact ⟨c,ws,w1,w2,w3,w4,by rw [qAr hne];exact w5,w6⟩
   | dct fs=>
    obtain ⟨c,ws,w1,w2,w3,w4,w5,w6⟩:=this
    have hne:c≠a:=fun z=>by
     subst z
     exact r.ne j i _ _ c (Ne.symm hj) e ei rfl rfl w1 ea
    exact ⟨c,ws,w1,w2,w3,w4,by rw [qAr hne];exact w5,w6⟩
   | _=>exact this
 ·have back:∀ (j:Nat) (s:Sl),(δ.set i (.dtt es))[j]?=some s→s.isOwn=true→∃ s',δ[j]?=some s'∧s'.isOwn=true:=fun j s e o=>by
   by_cases hj:i=j
   ·subst hj;exact ⟨_,ei,rfl⟩
   ·rw [qA0 hj] at e;exact ⟨s,e,o⟩
  obtain ⟨s',e1',o1'⟩:=back j s e1 o1
  obtain ⟨t',e2',o2'⟩:=back k t e2 o2
  exact r.ne j k s' t' b hjk e1' e2' o1' o2' z1 z2
end
theorem KDt.val {K:PySem.W.Frag}{B:Hp}{k:List Key}{d:D}:∀ {ks:List (List Key×D)} {kvs:List #[41]},KDt K B ks kvs→qF3 ks k=some d→∃ v,qQk kvs k=some v∧IsD K B d v
 | [],kvs,h,e=>by cases e
 | (k1,d1)::ks,kvs,h,e=>by
  cases kvs with
  | nil=>have:=h.len;simp at this
  | cons q kvs=>
   obtain ⟨k2,v2⟩:=q
   obtain ⟨h1,u,us,e1,h2,h3⟩:=h
   simp only [List.map_cons,List.cons.injEq] at h1 e1
   obtain ⟨rfl,rfl⟩:=e1
   obtain ⟨rfl,h1⟩:=h1
   unfold qF3 at e
   unfold qQk
   rw [List.find?_cons] at e ⊢
   by_cases z:k2=k
   ·simp only [z,decide_true,Option.map_some] at e ⊢
    cases e
    exact ⟨_,rfl,h2⟩
   ·simp only [z,decide_false] at e ⊢
    exact KDt.val (ks:=ks) (kvs:=kvs) ⟨h1,h3⟩ e
section
variable {X:Cx}{Ew:XW}{e:Expr}{cs:List Expr}{pos p' pos' dpos tpos:Pos}
def qeh (i:Nat)(δ:qAi):Rs Fl:=.ok (.nx (δ.set i (.dtt [])))
theorem qOs (i:Nat){x:Str}(hN:X.N.Nodup)(hi:X.N[i]?=some x:=by rfl)(hx:Loc X.env.scope x:=by first | exact Or.inl rfl | exact Or.inr rfl)(hs:swapsWith (.Dict [] [] dpos) (some (.Name x p')) pos.line X.env=pure false:=by rfl)
  (hf:X.fn x=true∨X.env.scope.names.lookup x=some .local:=by first | exact .inl rfl | exact .inr rfl | assumption) :
  PSX X Ew [i] (.Assign [.Name x p'] (.Dict [] [] dpos) pos) (qeh i):=
 ⟨_,qJw hN hi hx qSi hs hf,fun B0 F0 P B H σ δ D r p q hq=>p B _ _ (r.dtt (Grow.new r.bh hq (r.bh.free hq)) hq (r.bh.free hq) qAu ⟨rfl,rfl⟩) qHa⟩
end
open PySem
def qYf (h:Heap)(a:Addr)(cls:Value)(T:Option Addr)(fl:Value):Prop:=
 ∃ oe vs,h.get? a=some oe∧oe.cls=cls∧oe.dict=none∧oe.data=.fields vs∧1 < vs.size∧
  match T with
  | none=>vs[1]?=some .none
  | some t=>vs[1]?=some (.ref t)∧t≠a∧∃ oT ts,h.get? t=some oT∧oT.data=.fields ts∧ts[3]?=some fl
def tl:Option Addr→List Addr
 | none=>[]
 | some t=>[t]
structure Lft (l:List Env) (a:Addr) (cls:Value) (T:Option Addr) (fl:Value) (h h':Heap):Prop where
 keep:∀ b o,h.get? b=some o→b≠a→b∉tl T→b∉l.filterMap (·.frame)→h'.get? b=some o
 slot:∀ b o,h.get? b=some o→(∀ vs,o.data≠.fields vs)→b∈l.filterMap (·.frame)→∃ sl,h'.get? b=some { o with slots:=sl }
 exc:∃ t,qYf h' a cls (some t) fl∧(t∈tl T∨h.get? t=none)
section
variable {M:Model}{A:Around}{E:Value→Shared→Prop}{s:Shared}
structure Flt (a:Addr) (cls:Value) (t:Addr) (h h':Heap):Prop where
 keep:∀ b o,h.get? b=some o→b≠t→h'.get? b=some o
 exc:qYf h' a cls (some t) .none
theorem Lft.flt {l:List Env}{a t:Addr}{cls fl:Value}{T:Option Addr}{h h1 h2:Heap}(x:Lft l a cls T fl h h1)(y:Flt a cls t h1 h2)(ht:t∈tl T∨h.get? t=none)(hT:∃ oT ts,h1.get? t=some oT∧oT.data=.fields ts):Lft l a cls T .none h h2:=by
 refine ⟨fun b o q n m nf=>y.keep b o (x.keep b o q n m nf) fun w=>?_,fun b o q nd m=>?_,t,y.exc,ht⟩
 ·subst w
  rcases ht with ht | ht
  ·exact m ht
  ·rw [ht] at q;cases q
 ·obtain ⟨sl,q1⟩:=x.slot b o q nd m
  refine ⟨sl,y.keep b _ q1 fun w=>?_⟩
  subst w
  obtain ⟨oT,ts,k1,k2⟩:=hT
  rw [q1] at k1;cases k1
  exact nd ts k2
theorem qYf.tb {h:Heap}{a t:Addr}{cls fl:Value}(x:qYf h a cls (some t) fl):∃ oT ts,h.get? t=some oT∧oT.data=.fields ts:=by
 obtain ⟨_,_,_,_,_,_,_,_,_,oT,ts,k1,k2,_⟩:=x
 exact ⟨oT,ts,k1,k2⟩
end
open PySem PySem.Spec PyProof.Rows L2
def Fly (h0 h:Heap)(H:Hp)(a C:Addr):Prop:=h0.get? a=none∧H a=none∧∃ t,qYf h a (.ref C) (some t) .none∧h0.get? t=none∧H t=none
def CXE (P:Program)(w:World):CXT:=fun outer H s E e s'=>
 ∃ a C H',e=.ref a∧s'.os=s.os∧AllBare s'.gens∧Un (frs outer) [] H H' s.heap s'.heap∧HOk P w H' s'.heap∧Fly s.heap s'.heap H' a C∧E e (some C) H'
section
variable {X:Cx}{pins:List (Addr×Obj)}{σ:L2.St}{H H':Hp}{s:Shared}
end
section
variable {P:Program}{w:World}{K:PySem.W.Frag}{mg:Str→Option Value}{base:Heap}{N:List Str}{qual:Str}{scope:Scope}{f:Addr}{cd:Value}{A:Around}{outer:List Env}{s:Shared}{H:Hp}{E:XK}
end
open PySem PySem.Spec PyProof.Rows L2
structure XcE (X:Cx) (E:XK):Prop where
 stk:X.stack=X.env::X.outer
 frm:X.env.frame=some X.env.locals
 ex:X.ex=[]
 calm:X.calm=true
 xe:X.xe=fun e s'=>wpAny #[12] X.A (leaving X.env e) (fun _ s''=>CXE X.prog X.w X.outer X.H₀ X.s₀ E e s'') (fun e' s''=>CXE X.prog X.w X.outer X.H₀ X.s₀ E e' s'') s'
section
variable {X:Cx}{E:XK}{x:Str}{C:Addr}{e:Expr}{es:List Expr}{np cpos pos:Pos}{ta:TA}{bmB:List Value}{B newId initId:String}
end
open PySem PySem.Spec PyProof.Rows L2
section
variable {X:Cx}{pins:List (Addr×Obj)}{σ:L2.St}{H H1 H2:Hp}{s:Shared}{a C:Addr}
end
section
variable {X:Cx}{i:Nat}{n cls:Str}{ex hx:Expr}{tb:XK→TE}{th:TE}{np rpos qpos hpos pos:Pos}{Cc:Addr}
end
open PySem PySem.Spec PyProof.Rows L2
structure ExcKit (K:PySem.W.Frag) (D:Addr):Prop where
 cls:(PySem.W.clsIn K D).isSome=true
 ga:PySem.W.findIn K (.ref D) "__getattribute__"=some (some (.builtin "BaseException.__getattribute__"))
 gn:PySem.W.findIn K (.ref D) "__getattr__"=some none
 at_:PySem.W.findIn K (.ref D) "__class__"=some (some (.builtin "object.__class__"))
 get:PySem.W.specialIn K (.builtin "object.__class__") "__get__"=some (some (.builtin "getset_descriptor.__get__"))
 tk:PySem.W.takesIn K (.builtin "object.__class__")=some true
 obj:PySem.W.mroIn K D (.type "object")=some true
 base:PySem.W.subIn K (.ref D) (.type "BaseException")=some true
section
variable {prog:Program}{w:World}{A:Around}{E:Value→Shared→Prop}{K:PySem.W.Frag}{a D:Addr}{o:Obj}{vs:Array Value}
end
open PySem PySem.Spec PyProof.Rows L2
section
variable {X:Cx}{Ew:XW}{p p1 p2 pos:Pos}{e Tn:Str}{i:Nat}{tab:List (Str×Bool)}
end
section
variable {X:Cx}
end
open PySem PySem.Spec PyProof.Rows L2
section
variable {X:Cx}{Ew:XW}{p p' apos cpos:Pos}{e:Expr}
end
def bareA (A:Around):Around:={ A with handled:=none }
structure FnQ (P:Program) (w:World) (K:PySem.W.Frag) (mg:Str→Option Value) (base:Heap) (k:Nat) (f:Addr) (fd:FuncData) (ps:List Str) (sp:List V→Hp→VK→Prop):Prop where
 len:∀ vs H Q,sp vs H Q→vs.length=ps.length
 run:∀ (A:Around) (outer:List Env) (s:Shared) (H:Hp) (args:Args) (us:List Value) (vs:List V) (Q:VK),Room k (bareA A)→Env0 P w K mg base A outer s H→BindsTo s fd args (ps.zip us)→qBv vs us→sp vs H Q→
  codeAny (model P w) A (.call (.ref f) args) (CR CX0 outer P w H s Q E0) s
section
variable {P:Program}{w:World}{K:PySem.W.Frag}{mg:Str→Option Value}{base:Heap}
end
open PySem PySem.Spec PyProof.Rows L2
def XD.nm (x:XD):Str:=match x.why with
 | .str s=>s
 | _=>Str.empty
def EwOf (K:PySem.W.Frag)(E:XK):XW:=fun x _ H'=>∀ a C,PySem.W.nsIn K mainGlobals x.nm=some (some (.ref C))→H' a=none→E (.ref a) (some C) H'
def spX (K:PySem.W.Frag)(n:Nat)(m:List W→Rs W):Sp:=fun vs H Q E=>∃ B ws,qA5 B H∧qQj K B H ws vs∧ws.length=n∧qHi K (EwOf K E) B H (m ws) Q
structure FnX (P:Program) (w:World) (K:PySem.W.Frag) (mg:Str→Option Value) (base:Heap) (k:Nat) (x:Str) (n:Nat) (m:List W→Rs W):Prop where
 ex:∃ f fd ps,FnOk P w K mg base (CXE P w) k f fd ps (spX K n m)∧mg x=some (.ref f)∧PySem.W.keepIn K (.ref f)=true∧qKu K fd ps []∧ps.length=n
section
variable {P:Program}{w:World}{K:PySem.W.Frag}{mg:Str→Option Value}{base:Heap}
end
section
variable {X:Cx}{Ew:XW}{E:XK}{e:Expr}{es:List Expr}{p np cpos pos:Pos}{x:Str}{n k:Nat}{m:List W→Rs W}{g:qAi→Rs (List W)}
def Rs.nox {α:Type}:Rs α→Rs α
 | .ex _=>.no
 | r=>r
end
open PySem PySem.Spec PyProof.Rows L2
def spW (K:PySem.W.Frag)(m:Str→Rs W):List V→Hp→VK→Prop:=fun vs H Q=>∃ a C x B,vs=[.ref a]∧PySem.W.nsIn K mainGlobals x=some (some (.ref C))∧B a=some (excO a C)∧qA5 B H∧qHi K EN B H (m x) Q
structure FnW (P:Program) (w:World) (K:PySem.W.Frag) (mg:Str→Option Value) (base:Heap) (k:Nat) (x:Str) (m:Str→Rs W):Prop where
 ex:∃ f fd ps,FnQ P w K mg base k f fd ps (spW K m)∧mg x=some (.ref f)∧PySem.W.keepIn K (.ref f)=true∧qKu K fd ps []∧ps.length=1
section
variable {P:Program}{w:World}{K:PySem.W.Frag}{mg:Str→Option Value}{base:Heap}
end
section
variable {X:Cx}{e:Expr}{es:List Expr}{p ep pos:Pos}{x n:Str}{i k:Nat}
end
open PySem PySem.Spec PyProof.Rows L2
def spT (K:PySem.W.Frag)(fy:Addr)(n:Nat)(m:List W→Rs W):Sp:=fun vs H Q _=>∃ qFw B ws,vs=.ref fy::qFw∧qA5 B H∧qQj K B H ws qFw∧ws.length=n∧qHi K EN B H (m ws) Q
structure FnT (P:Program) (w:World) (K:PySem.W.Frag) (mg:Str→Option Value) (base:Heap) (k:Nat) (x y:Str) (n:Nat) (m:List W→Rs W):Prop where
 ex:∃ f fd ps fy,FnOk P w K mg base CX0 k f fd ps (spT K fy n m)∧mg x=some (.ref f)∧PySem.W.keepIn K (.ref f)=true∧qKu K fd ps []∧ps.length=n + 1∧mg y=some (.ref fy)
structure FnTa (P:Program) (w:World) (K:PySem.W.Frag) (mg:Str→Option Value) (base:Heap) (k:Nat) (st:Stmt) (x y:Str) (n:Nat) (m:List W→Rs W) (ps:List Str):Prop where
 ex:∀ f fd,L2.Fun K x x st f fd→mg x=some (.ref f)→∃ fy,FnOk P w K mg base CX0 k f fd ps (spT K fy n m)∧mg y=some (.ref fy)
theorem R.first {K:PySem.W.Frag}{B0 F0 P B H:Hp}{σ:L2.St}{δ:qAi}{s:Sl}(r:R K B0 F0 P B H σ (s::δ))(hs:s.isOwn=false):R K B0 F0 P B H σ (.un::δ):=by
 refine ⟨r.b0,r.nw,r.fh,r.ph,r.bh,r.len,fun i t e=>?_,fun i j t u a hij e1 e2 o1 o2 z1 z2=>?_⟩
 ·cases i with
  | zero=>cases e;trivial
  | succ i=>exact r.sl (i + 1) t e
 ·cases i with
  | zero=>cases e1;cases o1
  | succ i=>
   cases j with
   | zero=>cases e2;cases o2
   | succ j=>exact r.ne (i + 1) (j + 1) t u a hij e1 e2 o1 o2 z1 z2
section
variable {P:Program}{w:World}{K:PySem.W.Frag}{mg:Str→Option Value}{base:Heap}
end
section
variable {X:Cx}{es:List Expr}{p yp pos:Pos}{x y:Str}{n k:Nat}{m:List W→Rs W}{g:qAi→Rs (List W)}
end
section
variable {X:Cx}{es:List Expr}{p yp pos:Pos}{x y z v:Str}{n k k1 k2:Nat}{m1 m2:List W→Rs W}{g:qAi→Rs (List W)}{st:Stmt}{ps:List Str}{a1 a2:Addr}
end
theorem FnOk.le {P:Program}{w:World}{K:PySem.W.Frag}{mg:Str→Option Value}{base:Heap}{k:Nat}{f:Addr}{fd:FuncData}{ps:List Str}{n:Nat}{m m':List W→Rs W}(F:FnOk P w K mg base CX0 k f fd ps (spD K n m))(h:∀ ws,m' ws=.no∨m' ws=m ws):FnOk P w K mg base CX0 k f fd ps (spD K n m'):=by
 have h':∀ vs H Q E,spD K n m' vs H Q E→spD K n m vs H Q E:=by
  intro vs H Q E ⟨B,ws,a,b,c,d⟩
  refine ⟨B,ws,a,b,c,?_⟩
  rcases h ws with z | z
  ·rw [z] at d;exact d.elim
  ·rw [←z];exact d
 exact ⟨fun vs H Q E q=>F.len vs H Q E (h' vs H Q E q),fun A outer s H args us vs Q E hr h0 hb hv q=>F.run A outer s H args us vs Q E hr h0 hb hv (h' vs H Q E q)⟩
open PySem PySem.Spec PyProof.Rows L2
section
variable {K:PySem.W.Frag}{h:Heap}{mg:Str→Option Value}{x:Str}{C Cc:Addr}{cv:Value}{b:Bool}{tab:List (Str×Bool)}{cs:List Str}
end
section
variable {X:Cx}{Ew:XW}{E:XK}{e:Expr}{p np p1 p2 cpos pos:Pos}{x en Tn:Str}{i:Nat}{tab:List (Str×Bool)}{g:qAi→Rs W}
end
theorem ll1 {α:Type}:∀ {us:List α},us.length=1→∃ a,us=[a]
 | [a],_=>⟨a,rfl⟩
theorem lls {α:Type}{n:Nat}:∀ {us:List α},us.length=n + 1→∃ a r,us=a::r∧r.length=n
 | a::r,h=>⟨a,r,rfl,Nat.succ.inj h⟩
theorem ll2 {α:Type}{us:List α}(h:us.length=2):∃ a b,us=[a,b]:=
 let ⟨a,_,e,h⟩:=lls h;let ⟨b,q⟩:=ll1 h;⟨a,b,by rw [e,q]⟩
theorem ll3 {α:Type}{us:List α}(h:us.length=3):∃ a b c,us=[a,b,c]:=
 let ⟨a,_,e,h⟩:=lls h;let ⟨b,c,q⟩:=ll2 h;⟨a,b,c,by rw [e,q]⟩
theorem ll4 {α:Type}{us:List α}(h:us.length=4):∃ a b c d,us=[a,b,c,d]:=
 let ⟨a,_,e,h⟩:=lls h;let ⟨b,c,d,q⟩:=ll3 h;⟨a,b,c,d,by rw [e,q]⟩
theorem ll5 {α:Type}{us:List α}(h:us.length=5):∃ a b c d e,us=[a,b,c,d,e]:=
 let ⟨a,_,e1,h⟩:=lls h;let ⟨b,c,d,e,q⟩:=ll4 h;⟨a,b,c,d,e,by rw [e1,q]⟩
open PySem PySem.Spec PyProof.Rows L2
def qcy (K:PySem.W.Frag):V→List V→Hp→VK→Prop:=fun x vs H Q=>∃ (l:Addr) (xs:List V) (v:V) (ds:List D) (d:D) (j:Nat),x=.ref l∧vs=[v]∧Rd H l (.lst xs)∧IsDs K H ds xs∧IsD K H d v∧qA3 50 d=true∧fineDs 50 ds=true∧ds.length < 1000∧
 ds.findIdx? (fun d'=>eqD d' d)=some j∧Q (.int (j:Nat)) H
section
variable {X:Cx}
theorem qWn {pins:List #[10]}{σ:L2.St}{H:Hp}{s:Shared}(I:Inv X pins σ H s){d:D}:∀ {ds:List D} {vs:List V} {us:List Value},IsDs X.K H ds vs→qBv vs us→fineDs 50 ds=true→us.map (qI3 X.K H d)=ds.map fun d'=>eqD d' d
 | [],vs,us,h,r,f=>by cases #[56];cases r;rfl
 | d'::ds,vs,us,h,r,f=>by
  obtain ⟨v,rr,rfl,e2,e3⟩:=h
  cases r with
  | cons r1 r2=>
   simp only [fineDs,Bool.and_eq_true] at f
   rw [List.map_cons,List.map_cons,qRs I f.1 e2 r1,qWn I (d:=d) e3 r2 f.2]
theorem qWl (hu:X.A.units + 51 < cLine):MtM X "list.index" (qcy X.K):=by
 intro pins s σ H x vs v us Q I rx rv h
 obtain ⟨l,xs,vd,ds,d,j,rfl,rfl,hH,hds,hd,fd,fds,hsm,hj,q⟩:=h
 cases rx
 obtain ⟨u,rfl,ru⟩:=rv.one
 have hu1:X.A.in1.units + 50 < cLine:=by show X.A.units + 1 + 50 < cLine;omega
 obtain ⟨z,its,n,r,hl,e⟩:=lstR I hH
 have mp:=qWn I (d:=d) hds r fds
 have lds:=hds.len
 obtain ⟨hlt,hit,hno⟩:=List.findIdx?_eq_some_iff_getElem.mp hj
 have sz:its.toArray.size=ds.length:=by simp;omega
 have at_:∀ (m:Nat) (hm:m < its.toArray.size) (hm':m < ds.length),qI3 X.K H d its.toArray[m]=eqD ds[m] d:=fun m hm hm'=>by
  have:=congrArg (fun l=>l[m]?) mp
  have hmi:m < its.length:=by simpa using hm
  simp only [List.getElem?_map,List.getElem?_eq_getElem hmi,List.getElem?_eq_getElem hm',Option.map_some,Option.some.injEq] at this
  simpa using this
 refine call_meets F.slot_list_index ⟨_,e,rfl⟩ F.entry_list_index (F.args_list_index_2 _ _) (SeqAt.list_indexAt l its.toArray n none #[] u (qI3 X.K H d) j (by rw [sz];exact hlt) #[0] ?_ ?_) ⟨e,fun y hy=>?_,?_⟩
 ·rw [at_ j (by rw [sz];exact hlt) hlt];exact hit
 ·intro m hm hmj
  have hmb:m < ds.length:=by rw [←sz];exact hm
  rw [at_ m hm hmb]
  simpa using hno m hmj
 ·exact qHw I hu1 fd hd ru hds r fds y (Array.mem_toList_iff.mpr hy)
 ·exact ⟨.int (j:Nat),H,I.tok _,⟨_,rfl⟩,q⟩
end
def idxW (ds:List D)(d:D):Rs W:=if qA3 50 d=true∧fineDs 50 ds=true∧ds.length < 1000 then (match ds.findIdx? (fun d'=>eqD d' d) with
  | some j=>.ok (.im (.int (j:Nat)))
  | none=>.no) else .no
def qW5 (go:qAi→Rs W)(ge:qAi→Rs D):qAi→Rs W:=fun δ=>go δ>>=fun w=>match w with
 | .li _ ds=>ge δ>>=fun d=>idxW ds d
 | _=>.no
section
variable {X:Cx}{Ew:XW}{o e:Expr}{apos cpos:Pos}{go:qAi→Rs W}{ge:qAi→Rs D}
theorem qVz (hu:X.A.units + 51 < cLine)(ho:PX X Ew o go)(he:PXd X Ew e ge)
  (hbase:attributeBase o "index" X.env (eval o X.env)=eval o X.env:=by rfl)
  (hfew:((backTo cpos (starEach [e] X.env)).all (fun x=>!x.1) && #[91].all (fun x=>x.1.isSome)
   && decide ([e].length + ([]:List Keyword).length + #[90] < 30))=true:=by rfl)
  (hline:#[79]=true:=by rfl) (hst:starEach [e] X.env=#[38]::starEach [] X.env:=by rfl) (hplain:(backTo cpos #[39]).any (·.1)=false:=by rfl) :
  PX X Ew (.Call (.Attribute o "index" apos) [e] [] cpos) (qW5 go ge):=by
 obtain ⟨to,o1,o2⟩:=ho
 obtain ⟨te,e1,e2⟩:=he
 refine ⟨_,qZw PySem.F.plainAttrs_list PySem.F.slot_list_index PySem.F.type_list_index (qWl hu) o1 (qCq e1 qD8 hst) hbase hfew hline hst hplain,fun B0 F0 P B H σ δ Q r p=>?_⟩
 refine o2 B0 F0 P B H σ δ _ r #[61]
 cases w with
 | im d=>exact (p1:False).elim
 | li f ds=>
  have hr:∃ a vs,v=.ref a∧Rd H1 a (.lst vs)∧IsDs X.K B1 ds vs:=by
   cases f with
   | false=>obtain ⟨a,vs,q1,q2,q3⟩:=hw;exact ⟨a,vs,q1,q2,q3⟩
   | true=>obtain ⟨a,vs,q1,_,_,q2,q3⟩:=hw;exact ⟨a,vs,q1,.inl q2,q3⟩
  obtain ⟨a,vs,rfl,q2,q3⟩:=hr
  refine ⟨.inl ⟨rfl,vs,.inl q2⟩,e2 B0 F0 P B1 H1 σ δ _ (r.grow g1) ((Pst.bind p1).mono fun d B2 H2 g2 p2 u hd=>?_)⟩
  unfold idxW at p2
  split at p2
  ·rename_i hc
   split at p2
   ·rename_i j hj
    exact ⟨a,vs,u,ds,d,j,rfl,rfl,qA5.rdl g2.sh q2,IsDs.mono g2.bh _ _ (IsDs.mono g2.sb _ _ q3),IsD.mono g2.bh _ _ hd,hc.1,hc.2.1,hc.2.2,hj,p2 B2 H2 (Grow.refl g2.bh) _ rfl⟩
   ·exact p2.elim
  ·exact p2.elim
end
def without (H:Hp)(a:Addr):Hp:=fun b=>if b=a then none else H b
abbrev KsT:=List (List Key×D)
structure Lent (K:PySem.W.Frag) (B H:Hp) (a:Addr) (ks:KsT):Prop where
 b:B a=none
 ex:∃ kvs,H a=some (.dT kvs)∧KDt K B ks kvs
def qex (K:PySem.W.Frag)(B H:Hp)(a:Addr)(r:Rs (D×KsT))(Q:VK):Prop:=
 match r with
 | .ok x=>∀ B' H',Grow B (without H a) B' H'→Lent K B' H' a x.2→∀ v,IsD K B' x.1 v→Q v H'
 | _=>False
def spL (K:PySem.W.Frag)(n:Nat)(m:List W→KsT→Rs (D×KsT)):Sp:=fun vs H Q _=>∃ B ws us a ks,vs=us++[.ref a]∧qA5 B H∧qQj K B H ws us∧ws.length=n∧Lent K B H a ks∧qex K B H a (m ws ks) Q
def qEq (N:List Str)(ws:List W)(ks:KsT):qAi:=ws.map W.slot++.dtt ks::List.replicate (N.length - ws.length - 1) .un
def qea (i:Nat):Fl→Rs (D×KsT)
 | .rl d δ=>match δ[i]? with
  | some (.dtt ks)=>.ok (d,ks)
  | _=>.no
 | _=>.no
def qbr (N:List Str)(h:qAi→Rs Fl)(n:Nat):List W→KsT→Rs (D×KsT):=fun ws ks=>h (qEq N ws ks)>>=qea n
theorem qNv {H:Hp}{a:Addr}:qA5 (without H a) H:=fun b o e=>by
 unfold without at e
 split at e
 ·cases e
 ·exact e
theorem qDo {H:Hp}{a b:Addr}{o:HO}(hb:b≠a)(e:H b=some o):without H a b=some o:=by unfold without;rw [if_neg hb];exact e
theorem qNu {H:Hp}{a:Addr}:without H a a=none:=by unfold without;rw [if_pos rfl]
theorem qL5 {N:List Str}{ws:List W}{ks:KsT}{i:Nat}{s:Sl}(e:(qEq N ws ks)[i]?=some s):(∃ w,ws[i]?=some w∧s=w.slot)∨(i=ws.length∧s=.dtt ks)∨s=.un:=by
 unfold qEq at e
 by_cases hi:i < ws.length
 ·rw [List.getElem?_append_left (by simpa using hi),List.getElem?_map] at e
  cases q:ws[i]? with
  | none=>rw [q] at e;cases e
  | some w=>rw [q] at e;cases e;exact .inl ⟨w,rfl,rfl⟩
 ·rw [List.getElem?_append_right (by simpa using hi),List.length_map] at e
  by_cases hj:i=ws.length
  ·subst hj
   rw [Nat.sub_self,List.getElem?_cons_zero] at e
   cases e;exact .inr (.inl ⟨rfl,rfl⟩)
  ·have:i - ws.length=(i - ws.length - 1) + 1:=by omega
   rw [this,List.getElem?_cons_succ,List.getElem?_replicate] at e
   split at e
   ·cases e;exact .inr (.inr rfl)
   ·cases e
theorem qQj.at {K:PySem.W.Frag}{B H:Hp}:∀ {ws:List W} {vs:List V},qQj K B H ws vs→∀ (i:Nat) (w:W),ws[i]?=some w→∃ v,vs[i]?=some v∧Rdw K B H w v
 | [],vs,h,i,w,e=>by simp at e
 | w::ws,vs,h,i,w',e=>by
  obtain ⟨v,r,rfl,e2,e3⟩:=h
  cases i with
  | zero=>simp at e;subst e;exact ⟨v,rfl,e2⟩
  | succ i=>exact qQj.at e3 i w' (by simpa using e)
theorem qU4 {K:PySem.W.Frag}{B H:Hp}{N:List Str}{ws:List W}{us:List V}{a:Addr}{ks:KsT}(hs:qA5 B H)(hw:qQj K B H ws us)(hL:Lent K B H a ks)(hl:ws.length + 1≤N.length) :
  R K B (without H a) qE5 B H (L2.start N (us++[.ref a])) (qEq N ws ks):=by
 have hlen:=hw.len
 obtain ⟨hb,kvs,hH,hk⟩:=hL
 have at_:∀ (i:Nat) (v:V),us[i]?=some v→(L2.start N (us++[.ref a]))[i]?=some (some v):=fun i v ev=>by
  have hi:i < us.length:=(List.getElem?_eq_some_iff.mp ev).1
  unfold L2.start
  rw [List.getElem?_append_left (by simp;omega),List.getElem?_map,List.getElem?_append_left hi,ev];rfl
 have ata:(L2.start N (us++[.ref a]))[ws.length]?=some #[31]:=by
  unfold L2.start
  rw [List.getElem?_append_left (by simp;omega),List.getElem?_map,List.getElem?_append_right #[0],hlen,Nat.sub_self];rfl
 refine ⟨qA5.refl _,fun _ _ e=>.inl e,qNv,qCu,hs,?_,fun i s e=>?_,fun i j s t b hij e1 e2 o1 o2 z1 z2=>?_⟩
 ·unfold qEq L2.start
  simp only [List.length_append,List.length_map,List.length_replicate,List.length_cons,List.length_nil]
  omega
 ·rcases qL5 e with ⟨w,ew,rfl⟩ | ⟨rfl,rfl⟩ | rfl
  ·obtain ⟨v,ev,hv⟩:=hw.at i w ew
   rw [at_ i v ev]
   cases w with
   | im d=>exact ⟨v,rfl,hv⟩
   | li f ds=>
    obtain ⟨c,vs,rfl,e2,e3⟩:=hv
    have hne:c≠a:=fun z=>by
     subst z
     rcases e2 with q | ⟨o,q⟩ <;> rw [hH] at q <;> cases q
    refine ⟨c,vs,rfl,?_,e3⟩
    rcases e2 with q | ⟨o,q⟩
    ·exact .inl (qDo hne q)
    ·exact .inr ⟨o,qDo hne q⟩
  ·rw [ata]
   exact ⟨a,kvs,rfl,qNu,rfl,hb,hH,hk⟩
  ·exact trivial
 ·have own:∀ (i:Nat) (s:Sl),(qEq N ws ks)[i]?=some s→s.isOwn=true→i=ws.length:=fun i s e o=>by
   rcases qL5 e with ⟨w,_,rfl⟩ | ⟨rfl,rfl⟩ | rfl
   ·cases w <;> cases o
   ·rfl
   ·cases o
  exact hij ((own i s e1 o1).trans (own j t e2 o2).symm)
section
variable {P:Program}{w:World}{K:PySem.W.Frag}{mg:Str→Option Value}{base:Heap}
theorem Fun.okL {x qual:Str}{st:Stmt}{f:Addr}{fd:FuncData}{N ps:List Str}{k n:Nat}{h:qAi→Rs Fl}(F:Fun K x qual st f fd)(S:FnScope N ps (qAg st))(hl:ps.length≤N.length)(hn:ps.length=n + 1)
  (hbody:∀ (cdv:Value) (A:Around) (outer:List Env) (s:Shared) (H:Hp) (E:XK),Room k (A.deeper (envOfC qual (qAg st) s.heap.objs.size f cdv))→
   ∃ Wr,n∉Wr∧qRt (qRo CX0 P w K mg base N qual (qAg st) f cdv A outer s H E).nox EN Wr (qB6 st) h):FnOk P w K mg base CX0 (k + 1) f fd ps (spL K n (qbr N h n)):=by
 refine F.ok S (fun vs H Q E hsp=>?_) fun cdv A outer s H vs Q E hr hsp=>?_
 ·obtain ⟨B,ws,us,a,ks,rfl,hs,hw,hn',_⟩:=hsp
  rw [List.length_append,←hw.len,hn',hn];rfl
 ·obtain ⟨B,ws,us,a,ks,rfl,hs,hw,hn',hL,p⟩:=hsp
  obtain ⟨Wr,hWr,ts,h1,h2⟩:=hbody cdv A outer s H E hr
  refine ⟨ts,h1,h2 B (without H a) qE5 B H _ (qEq N ws ks) _ (qU4 hs hw hL #[0]) ?_⟩
  have p':qex K B H a (h (qEq N ws ks)>>=qea n) Q:=p
  have ata:(L2.start N (us++[.ref a]))[n]?=some #[31]:=by
   have:=hw.len
   unfold L2.start
   rw [List.getElem?_append_left (by simp;omega),List.getElem?_map,List.getElem?_append_right #[0],show n - us.length=0 by omega];rfl
  cases q:h (qEq N ws ks) with
  | no=>rw [q] at p';exact p'
  | ex x=>rw [q] at p';exact p'.elim
  | ok fl=>
   rw [q] at p'
   cases fl with
   | rl d δ=>
    intro v B' H' σ' r' f' hd
    have p1:qex K B H a (qea n (.rl d δ)) Q:=p'
    unfold qea at p1
    dsimp only at p1
    split at p1
    ·rename_i ks' ek
     obtain ⟨a2,kvs,e1,_,_,e4,e5,e6⟩:=r'.sl n _ ek
     rw [f' n hWr,ata] at e1
     cases e1
     exact p1 B' H' r'.whole ⟨e4,kvs,e5,e6⟩ v hd
    ·exact p1.elim
   | nx δ=>exact p'.elim
   | rt w=>exact p'.elim
   | bk δ=>exact p'.elim
   | ct δ=>exact p'.elim
structure FnL (P:Program) (w:World) (K:PySem.W.Frag) (mg:Str→Option Value) (base:Heap) (k:Nat) (x:Str) (n:Nat) (m:List W→KsT→Rs (D×KsT)):Prop where
 ex:∃ f fd ps,FnOk P w K mg base CX0 k f fd ps (spL K n m)∧mg x=some (.ref f)∧PySem.W.keepIn K (.ref f)=true∧qKu K fd ps []
theorem qbx {x:Str}{st:Stmt}{N ps:List Str}{k n:Nat}{h:qAi→Rs Fl}(T:Has K mg x st)(S:FnScope N ps (qAg st))(hl:ps.length≤N.length)(hn:ps.length=n + 1)
  (hb:∀ (kV doc pm:Value) (an:Option Addr) (cdv ct:Value) (us:List Value),us.length=ps.length→bindArgs #[88] ⟨us,[]⟩=pure (ps.zip us))
  (hbody:∀ (f:Addr) (cdv:Value) (A:Around) (outer:List Env) (s:Shared) (H:Hp) (E:XK),Room k (A.deeper (envOfC x (qAg st) s.heap.objs.size f cdv))→
   ∃ Wr,n∉Wr∧qRt (qRo CX0 P w K mg base N x (qAg st) f cdv A outer s H E).nox EN Wr (qB6 st) h):FnL P w K mg base (k + 1) x n (qbr N h n):=by
 obtain ⟨f,fd,F,hm⟩:=T
 exact ⟨f,fd,ps,PD.Fun.okL F S hl hn (hbody f),hm,F.kp,F.binds hb⟩
theorem FnL.mono {j k n:Nat}{x:Str}{m:List W→KsT→Rs (D×KsT)}(F:FnL P w K mg base j x n m)(h:j≤k):FnL P w K mg base k x n m:=by
 obtain ⟨f,fd,ps,F1,r⟩:=F.ex
 exact ⟨f,fd,ps,F1.mono h,r⟩
end
open PySem PySem.Spec PyProof.Rows L2
section
variable {K:PySem.W.Frag}{B0 F0 P B B' H H':Hp}{σ:L2.St}{δ:qAi}
theorem R.relent (r:R K B0 F0 P B H σ δ){j:Nat}{ks es:KsT}{a:Addr}(ej:δ[j]?=some (.dtt ks))(ea:σ[j]?=some #[31])(G:Grow B (without H a) B' H')(L:Lent K B' H' a es) :
  R K B0 F0 P B' H' σ (δ.set j (.dtt es)):=by
 obtain ⟨hb,us,hH,hu⟩:=L
 obtain ⟨a',vs',q1,q2,q3,q4,q5,q6⟩:=r.sl j _ ej
 rw [ea] at q1
 cases q1
 have keep:∀ {c:Addr} {o:HO},c≠a→H c=some o→H' c=some o:=fun hc e=>G.sh _ _ (qDo hc e)
 have keepB:∀ {c:Addr} {o:HO},(∀ vs,o≠.tup vs)→c≠a→H c=some o→B c=none→B' c=none:=fun {c} {o} ht hc e hn=>by
  cases z:B' c with
  | none=>rfl
  | some u=>
   rcases G.nw c u z with y | y | ⟨y,vs,t⟩
   ·rw [hn] at y;cases y
   ·rw [qDo hc e] at y;cases y
   ·rw [qDo hc e] at y;cases y;exact absurd t (ht vs)
 have wide:∀ {G':Hp},qA5 G' H→G' a=none→qA5 G' H':=fun hs hn c o e=>keep (qAn e hn) (hs c o e)
 refine ⟨r.b0.trans G.sb,fun c o e=>?_,wide r.fh q2,wide r.ph q3,G.bh,by rw [List.length_set];exact r.len,fun i s e=>?_,fun i k s t b hik e1 e2 o1 o2 z1 z2=>?_⟩
 ·rcases G.nw c o e with y | y
  ·exact r.nw c o y
  ·by_cases hc:c=a
   ·subst hc;rw [hb] at e;cases e
   ·refine .inr (Nw.older r.fh ?_)
    unfold Nw without at y
    rw [if_neg hc] at y;exact y
 ·by_cases hj:j=i
  ·subst hj
   obtain ⟨rfl,hl⟩:=qBd e
   exact ⟨a,us,ea,q2,q3,hb,hH,hu⟩
  ·rw [qA0 hj] at e
   have:=r.sl i s e
   have ne:∀ c,s.isOwn=true→σ[i]?=some (some (.ref c))→c≠a:=fun c o z hc=>by
    subst hc
    exact r.ne i j _ _ c (Ne.symm hj) e ej o rfl z ea
   cases s with
   | un=>trivial
   | im d=>obtain ⟨v,w1,w2⟩:=this;exact ⟨v,w1,IsD.mono G.sb _ _ w2⟩
   | rd ds=>obtain ⟨c,vs,w1,w2,w3⟩:=this;exact ⟨c,vs,w1,w2,IsDs.mono G.sb _ _ w3⟩
   | exc x=>obtain ⟨c,C,w1,w2,w3⟩:=this;exact ⟨c,C,w1,w2,G.sb _ _ w3⟩
   | own fs=>
    obtain ⟨c,ws,w1,w2,w3,w4,w5,w6⟩:=this
    have hne:=ne c rfl w1
    exact ⟨c,ws,w1,w2,w3,keepB (by intro _ q;cases q) hne w5 w4,keep hne w5,IsDs.mono G.sb _ _ w6⟩
   | dct fs=>
    obtain ⟨c,ws,w1,w2,w3,w4,w5,w6⟩:=this
    have hne:=ne c rfl w1
    exact ⟨c,ws,w1,w2,w3,keepB (by intro _ q;cases q) hne w5 w4,keep hne w5,w6.mono G.sb⟩
   | dtt fs=>
    obtain ⟨c,ws,w1,w2,w3,w4,w5,w6⟩:=this
    have hne:=ne c rfl w1
    exact ⟨c,ws,w1,w2,w3,keepB (by intro _ q;cases q) hne w5 w4,keep hne w5,w6.mono G.sb⟩
 ·have back:∀ (i:Nat) (s:Sl),(δ.set j (.dtt es))[i]?=some s→s.isOwn=true→∃ s',δ[i]?=some s'∧s'.isOwn=true:=fun i s e o=>by
   by_cases hj:j=i
   ·subst hj;exact ⟨_,ej,rfl⟩
   ·rw [qA0 hj] at e;exact ⟨s,e,o⟩
  obtain ⟨s',e1',o1'⟩:=back i s e1 o1
  obtain ⟨t',e2',o2'⟩:=back k t e2 o2
  exact r.ne i k s' t' b hik e1' e2' o1' o2' z1 z2
end
section
variable {X:Cx}{Ew:XW}{e:Expr}{es:List Expr}{p pos p' dpos:Pos}{x:Str}{k n j:Nat}{m:List W→KsT→Rs (D×KsT)}
def PXaj (X:Cx)(Ew:XW)(j:Nat)(es:List Expr)(g:qAi→Rs (List W)):Prop:=
 ∃ ta:TA,PA X es ta∧∀ (B0 F0 P B H:Hp) (σ:L2.St) (δ:qAi) (Q:List V→Hp→Prop),R X.K B0 F0 P B H σ δ→(∃ ks,δ[j]?=some (.dtt ks))→Pst Ew B H (fun ws B' H'=>∀ vs a,σ[j]?=some #[31]→qNt X.K B' H H' ws vs→Q (vs++[.ref a]) H') (g δ)→ta σ H Q
theorem qOq (j:Nat){x:Str}(hN:X.N[j]?=some x:=by rfl)(hv:Vis X.env.scope x:=by first | exact Or.inl rfl | exact Or.inr (Or.inl rfl) | exact Or.inr (Or.inr rfl))(hd:#[25]=false:=by decide)(hcd:#[48]=false:=by decide)
  (hs:starEach [.Name x p] X.env=(false,eval (.Name x p) X.env)::starEach [] X.env:=by rfl):PXaj X Ew j [.Name x p] (fun _=>.ok []):=by
 refine ⟨_,qCq (qC5 hN hv hd hcd) qD8 hs,fun B0 F0 P B H σ δ Q r ⟨ks,ek⟩ q=>?_⟩
 obtain ⟨a,kvs,e1,_⟩:=r.sl j _ ek
 exact ⟨_,e1,q B H #[49] [] a e1 rfl⟩
theorem qDc {g:qAi→Rs W}{k:qAi→Rs (List W)}(h:PX X Ew e g)(hr:PXaj X Ew j es k)(hs:starEach (e::es) X.env=#[38]::starEach es X.env:=by rfl) :
  PXaj X Ew j (e::es) (fun δ=>g δ>>=fun w=>k δ>>=fun ws=>Rs.ok (w::ws)):=by
 obtain ⟨te,h1,h2⟩:=h
 obtain ⟨ta,k1,k2⟩:=hr
 refine ⟨_,qCq h1 k1 hs,fun B0 F0 P B H σ δ Q r hk q=>h2 B0 F0 P B H σ δ _ r ((Pst.bind q).mono fun w B1 H1 g1 q v hw=>?_)⟩
 refine k2 B0 F0 P B1 H1 σ δ _ (r.grow g1) hk ((Pst.bind q).mono fun ws B2 H2 g2 q2 vs a ea hws=>?_)
 exact q2 B2 H2 (Grow.refl g2.bh) (v::vs) a ea ⟨v,vs,rfl,hw.grow g2,hws.older g1.sh⟩
def qey (K:PySem.W.Frag)(B0 F0 P:Hp)(j:Nat)(σ:L2.St)(δ:qAi)(r:Rs (D×KsT))(Q:VK):Prop:=
 match r with
 | .ok x=>∀ B' H',R K B0 F0 P B' H' σ (δ.set j (.dtt x.2))→∀ v,IsD K B' x.1 v→Q v H'
 | _=>False
def PXl (X:Cx)(j:Nat)(e:Expr)(g:qAi→Rs (D×KsT)):Prop:=
 ∃ te:TE,PE X e te∧∀ (B0 F0 P B H:Hp) (σ:L2.St) (δ:qAi) (Q:VK),R X.K B0 F0 P B H σ δ→qey X.K B0 F0 P j σ δ (g δ) Q→te σ H Q
def qK4 (m:List W→KsT→Rs (D×KsT))(n j:Nat)(g:qAi→Rs (List W)):qAi→Rs (D×KsT):=fun δ=>match δ[j]? with
 | some (.dtt ks)=>g δ>>=fun ws=>if ws.length=n then m ws ks else .no
 | _=>.no
theorem qSd {g:qAi→Rs (List W)}(F:FnL X.prog X.w X.K X.mg X.base k x n m)(hr:Room k X.A)(hg:Gl X x)(ha:PXaj X EN j (e::es) g)(hdb:#[25]=false:=by decide)
  (he:starEach (e::es) X.env=#[38]::starEach es X.env:=by rfl) (hpl:#[77].any (·.1)=false:=by rfl):PXl X j #[82] (qK4 m n j g):=by
 obtain ⟨f,fd,ps,F1,hm,hk,hb⟩:=F.ex
 obtain ⟨ta,h1,h2⟩:=ha
 refine ⟨_,qQ4 (E:=E0) F1 hr hg hm hk hb .nil qdm h1 hdb he hpl,fun B0 F0 P B H σ δ Q r q=>?_⟩
 unfold qK4 at q
 split at q
 ·rename_i ks ej
  refine h2 B0 F0 P B H σ δ _ r ⟨ks,ej⟩ ?_
  cases eg:g δ with
  | no=>rw [eg] at q;exact q.elim
  | ex x=>rw [eg] at q;exact q.elim
  | ok ws=>
   rw [eg] at q
   intro B1 H1 g1 vs a ea hw
   have q1:qey X.K B0 F0 P j σ δ (if ws.length=n then m ws ks else .no) Q:=q
   split at q1
   ·rename_i hl
    have r1:=r.grow g1
    obtain ⟨a',kvs,e1,e2,e3,e4,e5,e6⟩:=r1.sl j _ ej
    rw [ea] at e1
    cases e1
    refine ⟨B1,ws,vs,a,ks,by rw [List.append_nil],g1.bh,hw.rd,hl,⟨e4,kvs,e5,e6⟩,?_⟩
    cases em:m ws ks with
    | no=>rw [em] at q1;exact q1
    | ex x=>rw [em] at q1;exact q1
    | ok y=>
     rw [em] at q1
     exact fun B' H' G L v hd=>q1 B' H' (r1.relent ej ea G L) v hd
   ·exact q1.elim
 ·exact q.elim
def ifJ (t:qAi→Rs Bool)(j:Nat)(ga:qAi→Rs D)(gb:qAi→Rs (D×KsT)):qAi→Rs (D×KsT):=fun δ=>match δ[j]? with
 | some (.dtt ks)=>t δ>>=fun b=>if b=true then (ga δ>>=fun d=>.ok (d,ks)) else gb δ
 | _=>.no
theorem qYw {i:Nat}{s:Sl}:∀ {δ:qAi},δ[i]?=some s→δ.set i s=δ:=fun {δ} h=>by
 apply List.ext_getElem?
 intro m
 by_cases hm:i=m
 ·subst hm;rw [List.getElem?_set_self (List.getElem?_eq_some_iff.mp h).1,h]
 ·rw [List.getElem?_set_ne hm]
theorem pxl_if {c a b:Expr}{t:qAi→Rs Bool}{ga:qAi→Rs D}{gb:qAi→Rs (D×KsT)}(h:PXt X EN c t)(ha:PXd X EN a ga)(hb:PXl X j b gb):PXl X j (.IfExp c a b pos) (ifJ t j ga gb):=by
 obtain ⟨tt,h1,h2⟩:=h
 obtain ⟨ta,a1,a2⟩:=ha
 obtain ⟨tb,b1,b2⟩:=hb
 refine ⟨_,qMx h1 a1 b1,fun B0 F0 P B H σ δ Q r q=>?_⟩
 unfold ifJ at q
 split at q
 ·rename_i ks ej
  refine h2 B0 F0 P B H σ δ _ r ?_
  cases et:t δ with
  | no=>rw [et] at q;exact q
  | ex x=>rw [et] at q;exact q.elim
  | ok c=>
   rw [et] at q
   intro B1 H1 g1
   have r1:=r.grow g1
   cases c with
   | true=>
    have q1:qey X.K B0 F0 P j σ δ (ga δ>>=fun d=>.ok (d,ks)) Q:=q
    refine a2 B0 F0 P B1 H1 σ δ Q r1 ?_
    cases eg:ga δ with
    | no=>rw [eg] at q1;exact q1
    | ex x=>rw [eg] at q1;exact q1.elim
    | ok d=>
     rw [eg] at q1
     exact fun B' H' g' v hd=>q1 B' H' (by rw [qYw ej];exact r1.grow g') v hd
   | false=>exact b2 B0 F0 P B1 H1 σ δ Q r1 q
 ·exact q.elim
def retJ (j:Nat)(g:qAi→Rs (D×KsT)):qAi→Rs Fl:=fun δ=>g δ>>=fun x=>.ok (.rl x.1 (δ.set j (.dtt x.2)))
theorem qZi {g:qAi→Rs (D×KsT)}(he:PXl X j e g):PSX X EN [] (.Return (some e) pos) (retJ j g):=by
 obtain ⟨te,h1,h2⟩:=he
 refine ⟨_,qOt h1,fun B0 F0 P B H σ δ D r q=>h2 B0 F0 P B H σ δ _ r ?_⟩
 unfold retJ at q
 cases eg:g δ with
 | no=>rw [eg] at q;exact q
 | ex x=>rw [eg] at q;exact (q B H r.whole).elim
 | ok y=>
  rw [eg] at q
  exact fun B' H' r' v hd=>q v B' H' σ r' #[15] hd
def qTy (g:qAi→Rs D):qAi→Rs Fl:=fun δ=>g δ>>=fun d=>.ok (.rl d δ)
theorem qGu {g:qAi→Rs D}(he:PXd X Ew e g):PSX X Ew [] (.Return (some e) pos) (qTy g):=by
 obtain ⟨te,h1,h2⟩:=he
 exact ⟨_,qOt h1,fun B0 F0 P B H σ δ D r q=>h2 B0 F0 P B H σ δ _ r ((qB5.bind r q).mono fun d B1 H1 g1 q1 v hd=>q1 v B1 H1 σ (r.grow g1) #[15] hd)⟩
def qcr (i j:Nat)(g:qAi→Rs (D×KsT)):qAi→Rs Fl:=fun δ=>g δ>>=fun x=>.ok (.nx ((δ.set j (.dtt x.2)).set i (.im x.1)))
theorem qZh (i j:Nat){x:Str}{g:qAi→Rs (D×KsT)}(hN:X.N.Nodup)(he:PXl X j e g)(hi:X.N[i]?=some x:=by rfl)(hx:Loc X.env.scope x:=by first | exact Or.inl rfl | exact Or.inr rfl)(hs:swapsWith e (some (.Name x p')) pos.line X.env=pure false:=by rfl)
  (hf:X.fn x=true∨X.env.scope.names.lookup x=some .local:=by first | exact .inl rfl | exact .inr rfl | assumption) :
  PSX X EN [i] (.Assign [.Name x p'] e pos) (qcr i j g):=by
 obtain ⟨te,h1,h2⟩:=he
 refine ⟨_,qJw hN hi hx h1 hs hf,fun B0 F0 P B H σ δ D r q=>h2 B0 F0 P B H σ δ _ r ?_⟩
 unfold qcr at q
 cases eg:g δ with
 | no=>rw [eg] at q;exact q
 | ex x=>rw [eg] at q;exact (q B H r.whole).elim
 | ok y=>
  rw [eg] at q
  exact fun B' H' r' v hd=>q B' H' _ (r'.im hd) qHa
def PXan (X:Cx)(Ew:XW)(es:List Expr)(g:qAi→Rs (List W)):Prop:=
 ∃ ta:TA,PA X es ta∧∀ (B0 F0 P B H:Hp) (σ:L2.St) (δ:qAi) (Q:List V→Hp→Prop),R X.K B0 F0 P B H σ δ→Pst Ew B H (fun ws B' H'=>∀ vs a,H' a=none→qNt X.K B' H H' ws vs→Q (vs++[.ref a]) (upd H' a (.dT []))) (g δ)→ta σ H Q
theorem qVx (hs:starEach [.Dict [] [] dpos] X.env=(false,eval (.Dict [] [] dpos) X.env)::starEach [] X.env:=by rfl):PXan X Ew [.Dict [] [] dpos] (fun _=>.ok []):=
 ⟨_,qCq qSi qD8 hs,fun B0 F0 P B H σ δ Q r q a ha=>q B H #[49] [] a ha rfl⟩
theorem qJt {g:qAi→Rs W}{k:qAi→Rs (List W)}(h:PX X Ew e g)(hr:PXan X Ew es k)(hs:starEach (e::es) X.env=#[38]::starEach es X.env:=by rfl) :
  PXan X Ew (e::es) (fun δ=>g δ>>=fun w=>k δ>>=fun ws=>Rs.ok (w::ws)):=by
 obtain ⟨te,h1,h2⟩:=h
 obtain ⟨ta,k1,k2⟩:=hr
 refine ⟨_,qCq h1 k1 hs,fun B0 F0 P B H σ δ Q r q=>h2 B0 F0 P B H σ δ _ r ((Pst.bind q).mono fun w B1 H1 g1 q v hw=>?_)⟩
 refine k2 B0 F0 P B1 H1 σ δ _ (r.grow g1) ((Pst.bind q).mono fun ws B2 H2 g2 q2 vs a ea hws=>?_)
 exact q2 B2 H2 (Grow.refl g2.bh) (v::vs) a ea ⟨v,vs,rfl,hw.grow g2,hws.older g1.sh⟩
def qem (m:List W→KsT→Rs (D×KsT))(n:Nat)(g:qAi→Rs (List W)):qAi→Rs D:=fun δ=>g δ>>=fun ws=>if ws.length=n then (m ws []>>=fun x=>.ok x.1) else .no
theorem qZd {g:qAi→Rs (List W)}(F:FnL X.prog X.w X.K X.mg X.base k x n m)(hr:Room k X.A)(hg:Gl X x)(ha:PXan X EN (e::es) g)(hdb:#[25]=false:=by decide)
  (he:starEach (e::es) X.env=#[38]::starEach es X.env:=by rfl) (hpl:#[77].any (·.1)=false:=by rfl):PXd X EN #[82] (qem m n g):=by
 obtain ⟨f,fd,ps,F1,hm,hk,hb⟩:=F.ex
 obtain ⟨ta,h1,h2⟩:=ha
 refine ⟨_,qQ4 (E:=E0) F1 hr hg hm hk hb .nil qdm h1 hdb he hpl,fun B0 F0 P B H σ δ Q r q=>h2 B0 F0 P B H σ δ _ r ((Pst.bind q).mono fun ws B1 H1 g1 q1 vs a ha hw=>?_)⟩
 split at q1
 ·rename_i hl
  have hb1:B1 a=none:=g1.bh.free ha
  have gn:Grow B1 H1 B1 (upd H1 a (.dT [])):=Grow.new g1.bh ha hb1
  refine ⟨B1,ws,vs,a,[],by rw [List.append_nil],gn.bh,(hw.grow gn).rd,hl,⟨hb1,[],qAu,rfl,rfl⟩,?_⟩
  cases em:m ws [] with
  | no=>rw [em] at q1;exact q1
  | ex x=>rw [em] at q1;exact (q1 B1 H1 #[44]).elim
  | ok y=>
   rw [em] at q1
   intro B' H' G L v hd
   refine q1 B' H' ⟨G.sb,fun c o e=>?_,G.bh,fun c o e=>?_⟩ v hd
   ·have hc:=qAn e ha
    exact G.sh c o (qDo hc (by rw [qAr hc];exact e))
   ·rcases G.nw c o e with y | y
    ·exact .inl y
    ·by_cases hc:c=a
     ·subst hc;rw [L.b] at e;cases e
     ·unfold Nw without at y
      rw [if_neg hc,qAr hc] at y
      exact .inr y
 ·exact q1.elim
def qdt:D→Option (List Key)
 | .tup ds=>qZ8 ds
 | _=>none
def inJ (j:Nat)(g:qAi→Rs D):qAi→Rs Bool:=fun δ=>match δ[j]? with
 | some (.dtt ks)=>g δ>>=fun d=>match qdt d with
  | some k=>.ok (qF3 ks k).isSome
  | none=>.no
 | _=>.no
theorem KDt.isSome {K:PySem.W.Frag}{B:Hp}{k:List Key}:∀ {ks:KsT} {kvs:List #[41]},KDt K B ks kvs→(qQk kvs k).isSome=(qF3 ks k).isSome
 | [],kvs,h=>by
  have:kvs=[]:=by have:=h.len;simpa using this
  subst this;rfl
 | (k1,d1)::ks,kvs,h=>by
  cases kvs with
  | nil=>have:=h.len;simp at this
  | cons q kvs=>
   obtain ⟨k2,v2⟩:=q
   obtain ⟨h1,u,us,e1,h2,h3⟩:=h
   simp only [List.map_cons,List.cons.injEq] at h1 e1
   obtain ⟨rfl,rfl⟩:=e1
   obtain ⟨rfl,h1⟩:=h1
   unfold qF3 qQk
   rw [List.find?_cons,List.find?_cons]
   by_cases z:k2=k
   ·simp only [z,decide_true,Option.map_some,Option.isSome_some]
   ·simp only [z,decide_false]
    exact KDt.isSome (ks:=ks) (kvs:=kvs) ⟨h1,h3⟩
theorem qM7 {K:PySem.W.Frag}{B H:Hp}(hs:qA5 B H){d:D}{k:List Key}{v:V}(e:qdt d=some k)(h:IsD K B d v):∃ b,v=.ref b∧H b=some (.tup (k.map kV)):=by
 cases d with
 | tup ds=>
  obtain ⟨a,vs,rfl,e2,e3⟩:=h
  have:=qSp e e3
  subst this
  exact ⟨a,rfl,hs _ _ e2⟩
 | _=>cases e
theorem qc1 (j:Nat){x:Str}{g:qAi→Rs D}(hu:X.A.units + 1 < cLine)(he:PXd X Ew e g)(hN:X.N[j]?=some x:=by rfl)(hv:Vis X.env.scope x:=by first | exact Or.inl rfl | exact Or.inr (Or.inl rfl) | exact Or.inr (Or.inr rfl))(hd:#[25]=false:=by decide)
  (hcd:#[48]=false:=by decide) (hm:behindInMarks .In (.Name x p)=false:=by with_unfolding_all rfl):PXt X Ew (.Compare e [.In] [.Name x p] pos) (inJ j g):=by
 obtain ⟨te,h1,h2⟩:=he
 refine ⟨_,qbm (pc_din hu h1 (qC5 hN hv hd hcd)) hm,fun B0 F0 P B H σ δ Q r q=>?_⟩
 unfold inJ at q
 split at q
 ·rename_i ks ej
  refine h2 B0 F0 P B H σ δ _ r ((Pst.bind q).mono fun d B1 H1 g1 q1 v hd=>?_)
  split at q1
  ·rename_i k ek
   obtain ⟨a,kvs,e1,e2,e3,e4,e5,e6⟩:=(r.grow g1).sl j _ ej
   obtain ⟨b,rfl,hb⟩:=qM7 g1.bh ek hd
   refine ⟨_,e1,a,_,rfl,qYn.t (k:=k) e5 hb,_,rfl,?_⟩
   rw [e6.isSome]
   exact q1 B1 H1 #[44]
  ·exact q1.elim
 ·exact q.elim
def qT0 (j:Nat)(gv gk:qAi→Rs D):qAi→Rs Fl:=fun δ=>match δ[j]? with
 | some (.dtt ks)=>gv δ>>=fun d=>gk δ>>=fun kd=>match qdt kd with
  | some k=>if ks.length < lim then .ok (.nx (δ.set j (.dtt (qGt ks k d)))) else .no
  | none=>.no
 | _=>.no
theorem qIw (j:Nat){x:Str}{i:Expr}{pos':Pos}{gv gk:qAi→Rs D}(hu:X.A.units + 1 < cLine)(hv:PXd X Ew e gv)(hi:PXd X Ew i gk)(hN:X.N[j]?=some x:=by rfl)(hvi:Vis X.env.scope x:=by first | exact Or.inl rfl | exact Or.inr (Or.inl rfl) | exact Or.inr (Or.inr rfl))
  (hd:#[25]=false:=by decide) (hcd:#[48]=false:=by decide) (hs:swapsWith e (some (.Subscript (.Name x p') i pos')) pos.line X.env=pure false:=by rfl) :
  PSX X Ew [] (.Assign [.Subscript (.Name x p') i pos'] e pos) (qT0 j gv gk):=by
 obtain ⟨tv,v1,v2⟩:=hv
 obtain ⟨te,h1,h2⟩:=hi
 refine ⟨_,qV4 hu (qC5 hN hvi hd hcd) h1 v1 hs,fun B0 F0 P B H σ δ D r q=>?_⟩
 unfold qT0 at q
 split at q
 ·rename_i ks ei
  obtain ⟨a,kvs,e1,e2,e3,e4,e5,e6⟩:=r.sl j _ ei
  refine v2 B0 F0 P B H σ δ _ r ((qB5.bind r q).mono fun d B1 H1 g1 q1 v hd=>?_)
  have r1:=r.grow g1
  refine ⟨_,e1,h2 B0 F0 P B1 H1 σ δ _ r1 ((qB5.bind r1 q1).mono fun kd B2 H2 g2 q2 y hy=>?_)⟩
  split at q2
  ·rename_i k ek
   split at q2
   ·rename_i hl
    obtain ⟨b,rfl,hb⟩:=qM7 g2.bh ek hy
    have e7:=g2.sh _ _ (g1.sh _ _ e5)
    have l1:=e6.len
    refine ⟨a,_,rfl,qca.t e7 hb (by rw [qDg,l1];exact hl),?_⟩
    have r2:=(r1.grow g2).putt (ks:=ks) (es:=qGt ks k d) (us:=qJu kvs k v) ei e1 (((e6.mono g1.sb).mono g2.sb).put (IsD.mono g2.sb d v hd))
    exact q2 _ _ σ r2 fun _ _=>rfl
   ·exact q2.elim
  ·exact q2.elim
 ·exact q.elim
end
open PySem PySem.Spec PyProof.Rows L2
theorem fnL_no {P:Program}{w:World}{K:PySem.W.Frag}{mg:Str→Option Value}{base:Heap}{x:Str}{st:Stmt}{ps:List Str}{k n:Nat}(T:Has K mg x st)
  (hb:∀ (kV doc pm:Value) (an:Option Addr) (cdv ct:Value) (us:List Value),us.length=ps.length→bindArgs #[88] ⟨us,[]⟩=pure (ps.zip us)) :
  FnL P w K mg base k x n (fun _ _=>.no):=by
 obtain ⟨f,fd,F,hm⟩:=T
 have no:∀ vs H Q E,spL K n (fun _ _=>.no) vs H Q E→False:=fun vs H Q E h=>by obtain ⟨_,_,_,_,_,_,_,_,_,_,p⟩:=h;exact p
 exact ⟨f,fd,ps,⟨fun vs H Q E h=>(no _ _ _ _ h).elim,fun A outer s H args us vs Q E _ _ _ _ h=>(no _ _ _ _ h).elim⟩,hm,F.kp,F.binds hb⟩
open PySem PySem.Spec PyProof.Rows L2
theorem qQh:∀ (bs:List Bool),(List.range bs.length).any (fun i=>bs.getD i false)=bs.any id
 | []=>rfl
 | b::bs=>by
  rw [List.length_cons,List.range_succ_eq_map,List.any_cons,List.any_map,List.any_cons]
  have ih:=qQh bs
  have:((fun i=>(b::bs).getD i false) ∘ Nat.succ)=fun i=>bs.getD i false:=by funext i;rfl
  rw [this,ih]
  rfl
section
variable {X:Cx}{Ew:XW}
def qb8:List W→Rs W
 | [w]=>match w.seq with
  | some ds=>match qHg ds with
   | some bs=>.ok (.im (.bl (bs.any id)))
   | none=>.no
  | none=>.no
 | _=>.no
theorem qX9 (hh:X.calm=true):qEo X (.builtin "any") (rA X.K Ew qb8):=by
 intro pins s σ H xs us Q I rx ⟨B,ws,hs,hw,p⟩
 unfold qb8 at p
 split at p
 ·rename_i w
  obtain ⟨v,r,rfl,e2,e3⟩:=hw
  cases (show r=[] from e3)
  split at p
  ·rename_i ds ek
   split at p
   ·rename_i bs eb
    obtain ⟨c,vs,rfl,q2,q3⟩:=e2.seq hs ek
    cases rx with
    | cons r1 r2=>
     cases r2
     cases (show _=Value.ref c from r1)
     obtain ⟨its,rv,pl,hz⟩:=I.list q2
     have eits:=qH8 q3 rv eb
     refine call_any_walk (wpAny_pyIter_list pl.isList ?_)
     have hd:X.A.in1.handled=none:=I.ok.hd hh
     have hne:c≠s.heap.objs.size:=Nat.ne_of_lt pl.lt
     refine ⟨s.heap.objs.size,_,_,its.toArray.size,_,_,fun i=>bs.getD i false,rfl,Walks.list hd s.heap.objs.size c hne its.toArray,⟨⟨_,Heap.get?_push_size _ rfl,rfl,rfl⟩,?_⟩,?_,?_⟩
     ·exact (pl.keeps fun b o e=>Heap.get?_push_of_some _ e).isList
     ·intro i u s' Q' E' hu hQ'
      subst eits
      simp only [List.getElem?_toArray,List.getElem?_map] at hu
      cases q:bs[i]? with
      | none=>rw [q] at hu;cases hu
      | some b=>
       rw [q] at hu
       cases hu
       dsimp only at hQ'
       rw [qD4 q] at hQ'
       exact wpAny_truthy_bool hQ'
     ·intro h' tk kp
      have ev:(List.range its.toArray.size).any (fun i=>bs.getD i false)=bs.any id:=by
       subst eits
       simp only [List.size_toArray,List.length_map]
       exact qQh bs
      rw [ev]
      exact ⟨.bl _,H,I.kept (t':=tk) fun b o e=>kp b o (by simp;exact Nat.ne_of_lt #[45]) #[78],rfl,p B H #[26] _ rfl⟩
   ·exact p.elim
  ·exact p.elim
 ·exact p.elim
end
theorem ll6 {α:Type}{us:List α}(h:us.length=6):∃ a b c d e f,us=[a,b,c,d,e,f]:=by
 match us,h with
 | [a,b,c,d,e,f],_=>exact ⟨a,b,c,d,e,f,rfl⟩
open PySem PySem.Spec PyProof.Rows L2
def PostR (K:PySem.W.Frag)(Ew:XW)(B0 F0:Hp)(r:Rs W)(Q:VK):Prop:=
 match r with
 | .no=>False
 | .ok w=>∀ v B' H',Grow B0 F0 B' H'→IsW K B' F0 H' w v→Q v H'
 | .ex x=>∀ B' H',Grow B0 F0 B' H'→Ew x B' H'
def PXr (X:Cx)(Ew:XW)(e:Expr)(g:qAi→Rs W):Prop:=
 ∃ te:TE,PE X e te∧∀ (B0 F0 P B H:Hp) (σ:L2.St) (δ:qAi) (Q:VK),R X.K B0 F0 P B H σ δ→PostR X.K Ew B0 F0 (g δ) Q→te σ H Q
section
variable {X:Cx}{Ew:XW}{e c a b:Expr}{pos p':Pos}{g ga gb:qAi→Rs W}
theorem qbj (he:PX X Ew e g):PXr X Ew e g:=by
 obtain ⟨te,h1,h2⟩:=he
 refine ⟨te,h1,fun B0 F0 P B H σ δ Q r p=>h2 B0 F0 P B H σ δ Q r ?_⟩
 cases q:g δ with
 | no=>rw [q] at p;exact p
 | ex x=>rw [q] at p;exact fun B' H' g'=>p B' H' (r.whole.trans g')
 | ok w=>rw [q] at p;exact fun B1 H1 g1 v hw=>p v B1 H1 (r.whole.trans g1) (hw.older r.fh)
theorem qVu (i:Nat){x:Str}(hN:X.N[i]?=some x:=by rfl)(hv:Vis X.env.scope x:=by first | exact Or.inl rfl | exact Or.inr (Or.inl rfl) | exact Or.inr (Or.inr rfl))(hd:#[25]=false:=by decide)
  (hcd:#[48]=false:=by decide):PXr X Ew (.Name x p') (qNx i):=by
 refine ⟨_,qC5 hN hv hd hcd,fun B0 F0 P B H σ δ Q r p=>?_⟩
 unfold qNx at p
 cases e:δ[i]? with
 | none=>rw [e] at p;exact p.elim
 | some s=>
  rw [e] at p
  have hs:=r.sl i s e
  cases s with
  | un=>exact p.elim
  | im d=>
   obtain ⟨v,e1,e2⟩:=hs
   exact ⟨v,e1,p v B H r.whole e2⟩
  | rd ds=>
   obtain ⟨a,vs,e1,e2,e3⟩:=hs
   exact ⟨_,e1,p _ B H r.whole ⟨a,vs,rfl,qA5.rdl r.fh e2,e3⟩⟩
  | own ds=>
   obtain ⟨a,vs,e1,e2,e3,e4,e5,e6⟩:=hs
   exact ⟨_,e1,p _ B H r.whole ⟨a,vs,rfl,e2,e4,e5,e6⟩⟩
  | dct ks=>exact p.elim
  | dtt ks=>exact p.elim
  | exc x=>exact p.elim
theorem qbk {t:qAi→Rs Bool}(h:PXt X Ew c t)(ha:PXr X Ew a ga)(hb:PXr X Ew b gb):PXr X Ew (.IfExp c a b pos) (ifW t ga gb):=by
 obtain ⟨tt,h1,h2⟩:=h
 obtain ⟨ta,a1,a2⟩:=ha
 obtain ⟨tb,b1,b2⟩:=hb
 refine ⟨_,qMx h1 a1 b1,fun B0 F0 P B H σ δ Q r p=>h2 B0 F0 P B H σ δ _ r ?_⟩
 unfold ifW at p
 cases et:t δ with
 | no=>rw [et] at p;exact p
 | ex x=>rw [et] at p;exact fun B' H' g'=>p B' H' (r.whole.trans g')
 | ok c=>
  rw [et] at p
  intro B1 H1 g1
  cases c with
  | true=>exact a2 B0 F0 P B1 H1 σ δ Q (r.grow g1) p
  | false=>exact b2 B0 F0 P B1 H1 σ δ Q (r.grow g1) p
theorem qSh (he:PXr X Ew e g):PSX X Ew [] (.Return (some e) pos) (fun δ=>g δ>>=fun w=>.ok (.rt w)):=by
 obtain ⟨te,h1,h2⟩:=he
 refine ⟨_,qOt h1,fun B0 F0 P B H σ δ D r p=>h2 B0 F0 P B H σ δ _ r ?_⟩
 dsimp only at p
 cases q:g δ with
 | no=>rw [q] at p;exact p
 | ex x=>rw [q] at p;exact p
 | ok w=>rw [q] at p;exact p
end
open PySem PySem.Spec PyProof.Rows L2
section
variable {X:Cx}{Ew:XW}
end
section
variable {X:Cx}{E:XK}{x:Str}{np cpos pos:Pos}
end
open PySem PySem.Spec PyProof.Rows L2
structure LamOk (P:Program) (w:World) (K:PySem.W.Frag) (mg:Str→Option Value) (base:Heap) (kl:Nat) (qual:Str) (params:Arguments) (body:Expr) (scope:Scope) (x y:Str) (gl:qAi→Rs W):Prop where
 sc:LamScope x y scope
 bd:∀ cl pm cdv ctv ux,bindArgs (PySem.W.kla_fn "<lambda>" qual params body scope cl pm cdv ctv) ⟨[ux],[]⟩=pure [(x,ux)]
 ok:∀ f cdv cl A outer s H,Room kl (A.deeper (PySem.W.envX qual scope s.heap.objs.size f cdv cl))→PX (qax P w K mg base [x,y] qual scope f cdv cl A outer s H) EN body gl
def Clo (P:Program)(w:World)(K:PySem.W.Frag)(mg:Str→Option Value)(base:Heap)(s:Shared)(H:Hp)(fs:List Addr)(f:Addr)(vw:V)(kl:Nat)(gl:qAi→Rs W):Prop:=
 ∃ qual params body scope x y cw u pm cdv ctv,CloAt s H f #[108] cw u∧f∉fs∧cw∉fs∧RelV vw u∧LamOk P w K mg base kl qual params body scope x y gl
open Classical in
def qX4 (i:Nat)(f:Addr)(vw:V)(gl:qAi→Rs W)(g:qAi→Rs W):qAi→Rs W:=fun δ=>match δ[i]? with
 | some (.im (.clo f' v' dw))=>if f'=f∧v'=vw then g δ>>=fun w=>gl [w.slot,.im dw] else .no
 | _=>.no
section
variable {X:Cx}{e:Expr}{p pos:Pos}{v:Str}{f:Addr}{vw:V}{kl:Nat}{g gl:qAi→Rs W}
theorem qVr {K:PySem.W.Frag}{B H:Hp}{w:W}{v vw:V}{dw:D}(hs:qA5 B H)(hw:Rdw K B H w v)(hd:IsD K B dw vw):R K B H qE5 B H [some v,some vw] [w.slot,.im dw]:=by
 refine ⟨qA5.refl _,fun _ _ e=>.inl e,qA5.refl _,qCu,hs,rfl,fun i s e=>?_,fun i j s t a hij e1 e2 o1 o2 z1 z2=>?_⟩
 ·match i,e with
  | 0,e=>
   cases (show some w.slot=some s from e)
   cases w with
   | im d=>exact ⟨v,rfl,hw⟩
   | li b ds=>
    obtain ⟨a,us,rfl,e2,e3⟩:=hw
    exact ⟨a,us,rfl,e2,e3⟩
  | 1,e=>
   cases (show some (Sl.im dw)=some s from e)
   exact ⟨vw,rfl,hd⟩
  | i + 2,e=>simp at e
 ·match i,e1 with
  | 0,e1=>
   cases (show some w.slot=some s from e1)
   cases w <;> cases o1
  | 1,e1=>
   cases (show some (Sl.im dw)=some s from e1)
   cases o1
  | i + 2,e1=>simp at e1
theorem qbl (i:Nat)(C:Clo X.prog X.w X.K X.mg X.base X.s₀ X.H₀ X.fs f vw kl gl)(hex:X.ex=[])(hr:Room (kl + 1) X.A)(ha:PX X EN e g)(hN:X.N[i]?=some v:=by rfl)(hv:Vis X.env.scope v:=by first | exact Or.inl rfl | exact Or.inr (Or.inl rfl) | exact Or.inr (Or.inr rfl))(hd:(v == ("__debug__":Str))=false:=by decide)(hcd:(v == ("__classdict__":Str))=false:=by decide)
  (he:starEach [e] X.env=#[38]::starEach [] X.env:=by rfl) (hpl:(backTo pos #[39]).any (·.1)=false:=by rfl):PX X EN (.Call (.Name v p) [e] [] pos) (qX4 i f vw gl g):=by
 obtain ⟨qual,params,body,scope,x,y,cw,u,pm,cdv,ctv,C1,hf,hcw,ru,L⟩:=C
 obtain ⟨ta,h1,h2⟩:=ha
 refine ⟨fun σ H Q=>σ[i]?=some (some (.ref f))∧tCons ta tNil σ H (fun vs H1=>∃ v1,vs=[v1]∧∃ B1 w1 dw,qA5 B1 H1∧Rdw X.K B1 H1 w1 v1∧IsD X.K B1 dw vw∧qHi X.K EN B1 H1 (gl [w1.slot,.im dw]) Q),?_,?_⟩
 ·intro pins s σ H Q I ⟨e1,h⟩
  have now:∀ {H1:Hp} {s1:Shared},Inv X pins σ H1 s1→CloAt s1 H1 f #[108] cw u:=fun J=>C1.later J.base hf hcw (by rw [hex];simp) (by rw [hex];simp)
  refine wpAny_Call_Name_kw (thn (qC5 (X:=X) (pos:=p) hN hv hd hcd pins s σ H (fun z H1=>z=.ref f∧H1=H) I ⟨_,e1,rfl,rfl⟩) fun uf s0 ⟨z,H0,I0,r0,ez,eH⟩=>?_)
  subst ez eH
  obtain rfl:uf=.ref f:=r0
  have FA:∀ {H1:Hp} {s1:Shared},Inv X pins σ H1 s1→PySem.W.FnAt f s1.heap:=fun J=>⟨_,_,_,_,(now J).fo⟩
  refine PySem.W.callWith_F (FA I0) ?_ he hpl
  have pa:PA X [e] _:=qCq h1 qD8 he
  refine thn (pa pos pins s0 σ H0 _ I0 h) fun us s1 ⟨vs,H1,I1,r,v1,ev,B1,w1,dw,hs,hw,hdw,hp⟩=>⟨FA I1,?_⟩
  subst ev
  obtain ⟨ux,rfl,rx⟩:=qQm r
  refine wpAny_call (codeAny_mono (qdr (Q:=Q) (E:=E0) I1.env0 hr (now I1) L.sc (L.bd _ _ _ _ _) rx ru fun hr'=>?_) fun rr s' hq=>?_)
  ·obtain ⟨te,k1,k2⟩:=L.ok f cdv [(y,cw)] X.A X.stack s1 H1 hr'
   exact ⟨te,k1,k2 B1 H1 qE5 B1 H1 _ _ _ (qVr hs hw hdw) hp⟩
  ·cases rr with
   | error e=>exact hq.elim
   | ok fl=>
    cases fl with
    | ret u=>exact I1.after hq
    | next=>exact False.elim hq
    | brk=>exact False.elim hq
    | cont=>exact False.elim hq
 ·intro B0 F0 P B H σ δ Q r p
  unfold qX4 at p
  split at p
  ·rename_i f' v' dw ee
   split at p
   ·rename_i hh
    obtain ⟨rfl,rfl⟩:=hh
    obtain ⟨z,e1,e2,e3⟩:=r.sl i _ ee
    subst e2
    refine ⟨e1,h2 B0 F0 P B H σ δ _ r ((Pst.bind p).mono fun w B1 H1 g1 p1 v1 hw=>⟨v1,rfl,B1,w,dw,g1.bh,hw.rd,IsD.mono g1.sb _ _ e3,Pst.mono p1 fun w B' H' _ q v hv=>q v (hv.older g1.sh)⟩)⟩
   ·exact p.elim
  ·exact p.elim
end
section
variable {P:Program}{w:World}{K:PySem.W.Frag}{mg:Str→Option Value}{base:Heap}
def RunC (P:Program)(w:World)(K:PySem.W.Frag)(mg:Str→Option Value)(base:Heap)(k kl:Nat)(fa:Addr)(fd:FuncData)(ps:List Str)(m:Addr→V→(qAi→Rs W)→List W→Rs W):Prop:=
 ∀ (gl:qAi→Rs W) (f:Addr) (vw:V) (dw:D) (A:Around) (outer:List Env) (s:Shared) (H:Hp) (u1:Value) (w1:W) (v1:V) (B:Hp) (Q:VK),Room k A→Env0 P w K mg base A outer s H→BindsTo s fd ⟨[u1,.ref f],[]⟩ (ps.zip [u1,.ref f])→RelV v1 u1→
  Clo P w K mg base s H (frs outer) f vw kl gl→qA5 B H→Rdw K B H w1 v1→IsD K B dw vw→qHi K EN B H (m f vw gl [w1,.im (.clo f vw dw)]) Q→
  codeAny (model P w) A (.call (.ref fa) ⟨[u1,.ref f],[]⟩) (CR CX0 outer P w H s Q E0) s
theorem Fun.okC {x qual:Str}{st:Stmt}{fa:Addr}{fd:FuncData}{N ps:List Str}{k kl:Nat}{h:Addr→V→(qAi→Rs W)→qAi→Rs Fl}(F:Fun K x qual st fa fd)(S:FnScope N ps (qAg st))(hps:ps.length=2)
  (hbody:∀ (f:Addr) (vw:V) (gl:qAi→Rs W) (cdv:Value) (A:Around) (outer:List Env) (s:Shared) (H:Hp),Room k (A.deeper (envOfC qual (qAg st) s.heap.objs.size fa cdv))→Clo P w K mg base s H (frs outer) f vw kl gl→
   ∃ Wr,qRt (qRo CX0 P w K mg base N qual (qAg st) fa cdv A outer s H E0).nox EN Wr (qB6 st) (h f vw gl)):RunC P w K mg base (k + 1) kl fa fd ps (fun f vw gl=>mir N (h f vw gl)):=by
 intro gl f vw dw A outer s H u1 w1 v1 B Q hr e0 hb r1 C hs hw hdw p
 obtain ⟨oc,od,kV,doc,pm,an,cdv,ct,osl,rfl,lk,hcd⟩:=F.ex
 have hpl:ps.length≤N.length:=by have:=congrArg List.length S.pre;rw [List.length_take] at this;omega
 have KX:K.In s.heap:=e0.mod.kin.keeps fun b o e=>(e0.bs b o e).1
 have lim:s.heap.NoLimit:=e0.mod.nolimit.keeps fun b o e=>(e0.bs b o e).1
 have hkind:∀ y∈ps.zip [u1,.ref f],(qAg st).names.lookup y.1=some .local∨((qAg st).names.lookup y.1=some .cell∧((cellsFrom (s.heap.objs.size + 1) (qAg st).names []).lookup y.1).isSome=true):=fun ⟨n,v⟩ hy=>by
  rcases S.par n (List.of_mem_zip hy).1 with q | q
  ·exact .inl q
  ·exact .inr ⟨q,PySem.W.cellsFrom_some _ _ _ (.inl q)⟩
 refine codeAny_call_function hr.depth (KX _ _ lk) rfl S.co S.gen rfl (PySem.W.codeRec_of KX hcd) (hb _ _ _ _ ?_)
 refine wpAny_newFunctionEnv_cells S.kind hkind fun env he s1 x=>?_
 subst he
 refine ⟨lim.keeps x.toInCall.keep,codeAny_func ?_⟩
 obtain ⟨Wr,ts,h1,h2⟩:=hbody f vw gl cdv A outer s H (hr.deeper _) C
 have hrw:qQj K B H [w1,.im (.clo f vw dw)] [v1,.ref f]:=⟨v1,[.ref f],rfl,hw,.ref f,[],rfl,⟨rfl,hdw⟩,rfl⟩
 have q0:ts { nx:=fun _ H'=>Q .non H',rt:=Q } (start N [v1,.ref f]) H:=by
  refine h2 B H qE5 B H _ (frame N [w1,.im (.clo f vw dw)]) _ (qMk hs hrw (by simp;omega)) ?_
  have p':qHi K EN B H (h f vw gl (frame N [w1,.im (.clo f vw dw)])>>=fin) Q:=p
  cases q:h f vw gl (frame N [w1,.im (.clo f vw dw)]) with
  | no=>rw [q] at p';exact p'
  | ex x=>rw [q] at p';exact p'
  | ok fl=>
   rw [q] at p'
   cases fl with
   | nx δ=>exact fun B' H' σ' r' _=>p' B' H' r'.whole .non rfl
   | rt w=>exact fun v B' H' g hw'=>p' B' H' g v hw'
   | rl d δ=>exact fun v B' H' σ' r' _ hd=>p' B' H' r'.whole v hd
   | bk δ=>exact p'.elim
   | ct δ=>exact p'.elim
 have I:Inv (qRo CX0 P w K mg base N qual (qAg st) fa cdv A outer s H E0) [] (start N [v1,.ref f]) H s1:=qPb S hr.hd e0 (by rw [hps];rfl) (.cons r1 (.cons rfl .nil)) x
 refine wpAny_mono (h1.nox [] s1 (start N [v1,.ref f]) H _ I q0) (fun fl s' hs=>?_) fun e s' hs=>hs
 have fin:∀ {σ':L2.St} {H':Hp} {v:V} {u:Value},Inv (qRo CX0 P w K mg base N qual (qAg st) fa cdv A outer s H E0) [] σ' H' s'→RelV v u→Q v H'→CE outer P w H s Q u s':=
  fun {σ' H' v u} J rv q=>⟨v,H',J.os,J.bare,J.base,J.hok,rv,q⟩
 cases fl with
 | ret u=>
  obtain ⟨v,σ',H',J,rv,q⟩:=hs
  exact fin J rv q
 | next=>
  obtain ⟨σ',H',J,q⟩:=hs
  exact fin (v:=V.non) (u:=Value.none) J rfl q
 | brk=>
  obtain ⟨_,_,_,q⟩:=hs
  exact False.elim q
 | cont=>
  obtain ⟨_,_,_,q⟩:=hs
  exact False.elim q
structure FnC (P:Program) (w:World) (K:PySem.W.Frag) (mg:Str→Option Value) (base:Heap) (k kl:Nat) (x:Str) (m:Addr→V→(qAi→Rs W)→List W→Rs W):Prop where
 ex:∃ fa fd ps,RunC P w K mg base k kl fa fd ps m∧mg x=some (.ref fa)∧PySem.W.keepIn K (.ref fa)=true∧qKu K fd ps []∧ps.length=2
end
open Classical in
def qP6 (g:Addr→V→Rs W):Rs W:=if ∀ f v,g f v=g 0 .non then g 0 .non else .no
theorem qTa {g:Addr→V→Rs W}{r:Rs W}(h:∀ f v,g f v=r):qP6 g=r:=by
 unfold qP6
 rw [if_pos fun f v=>by rw [h,h],h]
def qNn (i:Nat)(m:Addr→V→(qAi→Rs W)→List W→Rs W)(gl:qAi→Rs W)(g:qAi→Rs W):qAi→Rs W:=fun δ=>g δ>>=fun w=>match δ[i]? with
 | some (.im dw)=>qP6 fun f vw=>m f vw gl [w,.im (.clo f vw dw)]
 | _=>.no
section
variable {X:Cx}{e:Expr}{p pos lpos:Pos}{x z y xl:Str}{c Pt cw:Addr}{kl k:Nat}{g gl:qAi→Rs W}{params:Arguments}{body:Expr}{scope:Scope}{m:Addr→V→(qAi→Rs W)→List W→Rs W}
theorem qLh (i:Nat)(F:FnC X.prog X.w X.K X.mg X.base k kl x m)(hr:Room k X.A)(hg:Gl X x)(ha:PX X EN e g)(L:LamOk X.prog X.w X.K X.mg X.base kl (qYh z) params body scope xl y gl)
  (hz:z∈qDa) (ht:PySem.W.tabIn X.K z=some (c,Pt)) (hcode:X.env.code=.ref c) (hq:X.env.qual=z++".<locals>.") (hdef:defaultsOf params X.env=([],[])) (hcl:closureFor scope X.env=pure [(y,cw)]) (hyc:X.env.cells.lookup y=some cw) (hky:X.env.kindOf y=some .cell)
  (hfn:X.fn y=true) (hst:X.stack=X.env::X.outer) (hfr:X.env.frame=some X.env.locals) (hN:X.N[i]?=some y) (hdb:#[25]=false:=by decide)
  (he:starEach [e,.Lambda params body scope lpos] X.env=#[38]::starEach [.Lambda params body scope lpos] X.env:=by rfl) (he2:starEach [.Lambda params body scope lpos] X.env=(false,eval (.Lambda params body scope lpos) X.env)::starEach [] X.env:=by rfl)
  (hpl:(backTo pos (starEach [.Lambda params body scope lpos] X.env)).any (·.1)=false:=by rfl):PX X EN (.Call (.Name x p) [e,.Lambda params body scope lpos] [] pos) (qNn i m gl g):=by
 obtain ⟨fa,fd,ps,F1,hm,hk,hb,hps⟩:=F.ex
 obtain ⟨ta,h1,h2⟩:=ha
 refine ⟨fun σ H Q=>∃ vw,σ[i]?=some (some vw)∧ta σ H (fun v1 H1=>∃ B1 w1 dw,qA5 B1 H1∧Rdw X.K B1 H1 w1 v1∧IsD X.K B1 dw vw∧∀ f vw',qHi X.K EN B1 H1 (m f vw' gl [w1,.im (.clo f vw' dw)]) Q),?_,?_⟩
 ·intro pins s σ H Q I ⟨vw,ev,h⟩
  refine wpAny_Call_Name_kw (qM6 I hg hm ?_ hdb)
  refine PySem.W.callWith_K (h₀:=X.base) I.ok.mod.kin hk ?_ he hpl
  rw [he]
  show wpAny _ _ (spliced (#[38]::backTo pos (starEach [.Lambda params body scope lpos] X.env))) _ _ s
  refine Calls.spliced_cons (thn (h1 pins s σ H _ I h) fun u1 s1 ⟨v1,H1,I1,r1,B1,w1,dw,hs,hw,hdw,hp⟩=>?_)
  rw [he2]
  show wpAny _ _ (spliced ((false,eval (.Lambda params body scope lpos) X.env)::backTo pos #[39])) _ _ s1
  refine Calls.spliced_cons (qZ7 I1 hz ht hcode hq hdef hcl hyc hky hfn hst hfr hN ev fun f s2 H2 pm cdv ctv u I2 hH ru C nf nc=>?_)
  refine Calls.spliced_nil ?_
  have G:Grow B1 H1 B1 H2:=by
   rcases hH with rfl | ⟨c',o,hc,rfl⟩
   ·exact Grow.refl hs
   ·exact Grow.new hs hc (hs.free hc)
  refine ⟨I2.kIn,?_⟩
  have hbt:=hb s2 [u1,.ref f] I2.kIn (by rw [List.append_nil,hps];rfl)
  rw [List.append_nil] at hbt
  have hw2:Rdw X.K B1 H2 w1 v1:=by
   cases w1 with
   | im d=>exact hw
   | li b ds=>
    obtain ⟨a,us,e1,e2,e3⟩:=hw
    exact ⟨a,us,e1,qA5.rdl G.sh e2,e3⟩
  refine wpAny_call (codeAny_mono (F1 gl f vw dw X.A X.stack s2 H2 u1 w1 v1 B1 Q hr I2.env0 hbt r1 ⟨_,_,_,_,_,_,_,u,pm,cdv,ctv,C,nf,nc,ru,L⟩ G.bh hw2 hdw (qHi.step G (hp f vw))) fun rr s' hq=>?_)
  cases rr with
  | error e=>exact hq.elim
  | ok fl=>
   cases fl with
   | ret u=>exact I2.after hq
   | next=>exact False.elim hq
   | brk=>exact False.elim hq
   | cont=>exact False.elim hq
 ·intro B0 F0 P B H σ δ Q r p
  unfold qNn at p
  cases e1:δ[i]? with
  | none=>
   rw [e1] at p
   cases q:g δ with
   | no=>rw [q] at p;exact p.elim
   | ok w=>rw [q] at p;exact p.elim
   | ex xx=>rw [q] at p;exact (p B H #[49]).elim
  | some sl=>
   rw [e1] at p
   cases sl with
   | im dw=>
    obtain ⟨vw,e2,e3⟩:=r.sl i _ e1
    refine ⟨vw,e2,h2 B0 F0 P B H σ δ _ r ((Pst.bind p).mono fun w B1 H1 g1 p1 v1 hw=>⟨B1,w,dw,g1.bh,hw.rd,IsD.mono g1.sb _ _ e3,fun f vw'=>?_⟩)⟩
    have p2:Pst EN B1 H1 (fun w B' H'=>∀ v,IsW X.K B' H H' w v→Q v H') (qP6 fun f vw=>m f vw gl [w,.im (.clo f vw dw)]):=p1
    unfold qP6 at p2
    by_cases hall:∀ f v,m f v gl [w,.im (.clo f v dw)]=m 0 .non gl [w,.im (.clo 0 .non dw)]
    ·rw [if_pos hall] at p2
     rw [hall f vw']
     exact Pst.mono p2 fun w B' H' _ q v hv=>q v (hv.older g1.sh)
    ·rw [if_neg hall] at p2
     exact p2.elim
   | _=>
    cases q:g δ with
    | no=>rw [q] at p;exact p.elim
    | ok w=>rw [q] at p;exact p.elim
    | ex xx=>rw [q] at p;exact (p B H #[49]).elim
end
end PD
namespace L2
open PySem PySem.Spec PyProof.Rows PySem.W
section
variable {X:Cx}{k e:Expr}{tk tv:TE}{pos:Pos}
def tDisp1 (tk tv:TE):TE:=fun σ H Q=>∀ p,H p=none→tk σ (upd H p (.dT [])) fun y H1=>tv σ H1 fun v H2=>∃ ks b,y=.ref b∧H2 b=some (.tup (ks.map kV))∧H2 p=some (.dT [])∧Q (.ref p) (upd H2 p (.dT (qJu [] ks v)))
theorem qZt (hu:X.A.units + 1 < cLine)(hk:PE X k tk)(hv:PE X e tv):PE X (.Dict [some k] [e] pos) (tDisp1 tk tv):=by
 intro pins s σ H Q I h
 refine wpAny_Dict_any rfl rfl #[7] #[7] ?_
 have hp:H s.heap.objs.size=none:=I.hok.fresh #[8]
 have I0:=I.laid (a:=s.heap.objs.size) (o:=.dT []) (t':=s.toks) (fun _ _ q=>Heap.get?_push_of_some { cls:=.type "dict",data:=.dict #[] } q) #[8] (qS6 s.heap I.big)
 refine evalPairs_cons (thn (hk pins _ σ _ _ I0 (h _ hp)) fun kv s1 ⟨y,H1,I1,ry,q1⟩=>?_)
 refine wpAny_bind (thn (hv pins s1 σ H1 _ I1 q1) fun vv s2 ⟨v,H2,I2,rv,ks,b,ey,eb,ep,q2⟩=>wpAny_bind (wpAny_standAt (wpAny_pure (evalPairs_nil ?_))))
 subst ey
 cases (show kv=Value.ref b from ry)
 obtain ⟨z,hd,xs,rel,dd⟩:=dt_of I2.hok ep
 have hz:xs.length≤sizeLine:=by rw [←Paired.length rel];exact z
 show wpAny _ _ (storeAll s.heap.objs.size [(.ref b,vv)]) _ _ s2
 unfold storeAll
 simp only [List.forIn_cons,List.forIn_nil]
 refine wpAny_bind (wpAny_bind (wpAny_dictSet_heap (hsz:=hz) (knd:=tupleKind (qCh X.prog X.w)) (show X.A.units < cLine by omega) (qO7 I2.hok eb) dd fun h' dd' hs=>wpAny_pure ?_))
 refine wpAny_pure ?_
 obtain ⟨q,es,ep',hq,h2,h3,h4,_,h5⟩:=dd'
 have hl:(qJu ([]:List #[41]) ks v).length≤sizeLine:=by have:=qGg ([]:List #[41]) ks v;have:=qJ6;rw [sizeLine_eq];simp at *;omega
 have new:qB8 X.prog X.w (upd H2 s.heap.objs.size (.dT (qJu [] ks v))) h' s.heap.objs.size (.dT (qJu [] ks v)):=by
  refine ⟨hl,hd,_,(rel.put ks eb rv).keeps fun c ys ec=>?_,q,es,ep',hq,h2,h3,h4,h5⟩
  rw [qAr (ne_of ec ep #[58])]
  exact ec
 exact ⟨.ref s.heap.objs.size,_,qRn I2 (by rw [ep];exact True.intro) hs ⟨q,hq⟩ new,rfl,q2⟩
end
section
variable {prog:Program}{w:World}{A:Around}{E:Value→Shared→Prop}{s:Shared}{d:Addr}{es:Array DictEntry}{ep:Nat}{κ:SortKind}{lt:Nat→Nat→Bool}{PP:Array Nat→Prop}
theorem qYt {vs:List Value}{Q:Value→Shared→Prop}(hh:A.handled=none)(lo:(d == sysModules)=false)(x:DEn s.heap d es ep)(ev:es.toList.map (·.key)=vs)(h64:vs.length < 64)
  (hkind:2≤vs.length→∀ h1:Heap,(∀ b o,s.heap.get? b=some o→h1.get? b=some o)→∀ (tk:Nat) (Q:SortKind→Shared→Prop),Q κ { s with heap:=h1,toks:=tk }→wpAny #[22] A.in1.in1 (keyKind' vs.toArray) Q (fun _ _=>False) { s with heap:=h1,toks:=tk })
  (hcmp:∀ (h1:Heap) (tk i j:Nat) (C:Bool→Shared→Prop),(∀ b o,s.heap.get? b=some o→h1.get? b=some o)→i < vs.length→j < vs.length→(∀ tk',C (lt i j) { s with heap:=h1,toks:=tk' })→kas_ask prog w A.in1.in1 κ vs i j C { s with heap:=h1,toks:=tk })
  (ok:2≤vs.length→OkT lt vs.length PP (kas_sort vs.length)) (ok1:vs.length < 2→PP (List.range vs.length).toArray)
  (hQ:∀ (h':Heap) (tk c n:Nat) (p:Array Nat),PP p→s.heap.objs.size≤n→(∀ b o,s.heap.get? b=some o→h'.get? b=some o)→h'.get? n=some (seqObj "list" #[110] c)→Q (.ref n) { s with heap:=h',toks:=tk }) :
  wpAny #[22] A (call (.builtin "sorted") [.ref d]) Q E s:=by
 have hes:es.size=vs.length:=by rw [←ev];simp
 refine Calls.call_function_entry kind_sorted plain_sorted entry_sorted (args_sorted1 _) ?_
 unfold Builtin.«sorted»
 refine wpAny_bind (m:=checkCount "sorted" 1 1 _) (wpAny_pure ?_)
 refine wpAny_bind (qRm (A:=A.in1) hh lo x (by rw [hes,sizeLine_eq];omega) fun g tk0 kp gsz=>?_)
 rw [ev]
 refine wpAny_bind (wpAny_newList ?_ (by rw [sizeLine_eq];omega))
 have keep2:∀ h1:Heap,(∀ b o,b≠g.objs.size→(g.push #[86]).get? b=some o→h1.get? b=some o)→∀ b o,s.heap.get? b=some o→h1.get? b=some o:=fun h1 k b o q=>
  k b o (Nat.ne_of_lt (Heap.lt_size (kp b o q))) (Heap.get?_push_of_some _ (kp b o q))
 refine wpAny_bind (wpAny_holding (wpAny_call_entry slot_list_sort ⟨_,Heap.get?_push_size _ rfl,rfl⟩ entry_list_sort ?body (args_list_sort _)))
 case body=>
  refine qRz (s:={ s with heap:=g.push #[86],toks:=tk0 }) (κ:=κ) (lt:=lt) (PP:=PP) (Heap.get?_push_size _ rfl) h64
   (fun h2 h1 k Q q=>hkind h2 h1 (keep2 h1 k) tk0 Q q) (fun h1 tk i j C k hi hj hC=>hcmp h1 tk i j C (keep2 h1 k) hi hj hC) ok ok1 fun h' tk c p hp k e=>?_
  exact ⟨_,rfl,wpAny_pure ⟨_,rfl,hQ h' tk c _ p hp (Nat.le_of_lt gsz) (keep2 h' k) e⟩⟩
end
end L2
namespace PD
open PySem PySem.Spec PyProof.Rows L2
def qI5 (B H:Hp):Hp:=fun a=>match B a with
 | some o=>some o
 | none=>match H a with
  | some (.tup vs)=>some (.tup vs)
  | _=>none
theorem Grow.tups {B H:Hp}(hs:qA5 B H):Grow B H (qI5 B H) H:=by
 refine ⟨fun a o e=>by unfold qI5;rw [e],qA5.refl _,fun a o e=>?_,fun a o e=>?_⟩
 ·unfold qI5 at e
  cases q:B a with
  | some u=>rw [q] at e;cases e;exact hs _ _ q
  | none=>
   rw [q] at e
   dsimp only at e
   split at e
   ·rename_i vs z;cases e;exact z
   ·cases e
 ·unfold qI5 at e
  cases q:B a with
  | some u=>rw [q] at e;cases e;exact .inl rfl
  | none=>
   rw [q] at e
   dsimp only at e
   split at e
   ·rename_i vs z;cases e;exact .inr (.inr ⟨z,vs,rfl⟩)
   ·cases e
theorem qNw {B H:Hp}(hs:qA5 B H){a:Addr}{vs:List V}(h:H a=some (.tup vs)):qI5 B H a=some (.tup vs):=by
 unfold qI5
 cases q:B a with
 | some u=>
  have:=hs _ _ q
  rw [h] at this;cases this;rfl
 | none=>rw [h]
section
variable {X:Cx}{Ew:XW}{Wr:List Nat}{e kx:Expr}{p p' pos dpos:Pos}
def qb5 (i:Nat)(gk gv:qAi→Rs D)(δ:qAi):Rs Fl:=gk δ>>=fun kd=>gv δ>>=fun d=>match qdt kd with
 | some k=>.ok (.nx (δ.set i (.dtt [(k,d)])))
 | none=>.no
theorem qV2 (i:Nat){x:Str}{gk gv:qAi→Rs D}(hN:X.N.Nodup)(hu:X.A.units + 1 < cLine)(hk:PXd X Ew kx gk)(hv:PXd X Ew e gv)(hi:X.N[i]?=some x:=by rfl)(hx:Loc X.env.scope x:=by first | exact Or.inl rfl | exact Or.inr rfl)(hs:swapsWith (.Dict [some kx] [e] dpos) (some (.Name x p')) pos.line X.env=pure false:=by rfl)
  (hf:X.fn x=true∨X.env.scope.names.lookup x=some .local:=by first | exact .inl rfl | exact .inr rfl | assumption) :
  PSX X Ew [i] (.Assign [.Name x p'] (.Dict [some kx] [e] dpos) pos) (qb5 i gk gv):=by
 obtain ⟨tk,k1,k2⟩:=hk
 obtain ⟨tv,v1,v2⟩:=hv
 refine ⟨_,qJw hN hi hx (qZt hu k1 v1) hs hf,fun B0 F0 P B H σ δ D r q a ha=>?_⟩
 have ga:Grow B H B (upd H a (.dT [])):=Grow.new r.bh ha (r.bh.free ha)
 have ra:=r.grow ga
 refine k2 B0 F0 P B _ σ δ _ ra ((qB5.bind ra q).mono fun kd B1 H1 g1 q1 y hy=>?_)
 have r1:=ra.grow g1
 refine v2 B0 F0 P B1 H1 σ δ _ r1 ((qB5.bind r1 q1).mono fun d B2 H2 g2 q2 v hd=>?_)
 split at q2
 ·rename_i k ek
  obtain ⟨b,rfl,hb⟩:=qM7 g2.bh ek (IsD.mono g2.sb _ _ hy)
  have e2:H2 a=some (.dT []):=g2.sh _ _ (g1.sh _ _ qAu)
  refine ⟨k,b,rfl,hb,e2,?_⟩
  have hba:B2 a=none:=g2.free (g1.free (r.bh.free ha) qAu) (g1.sh _ _ qAu)
  have gg:Grow B H B2 (upd H2 a (.dT (qJu [] k v))):=by
   have g3:=(ga.trans g1).trans g2
   refine ⟨g3.sb,fun c o z=>?_,fun c o z=>?_,g3.nw⟩
   ·rw [qAr (qAn z ha)];exact g3.sh c o z
   ·rw [qAr (qAn z hba)];exact g3.bh c o z
  exact q2 B2 _ _ (r.dtt gg ha hba qAu ⟨rfl,⟨v,[],rfl,hd,rfl⟩⟩) qHa
 ·exact q2.elim
def popF (i j:Nat)(δ:qAi):Rs Fl:=match δ[j]? with
 | some (.own ds)=>match ds.getLast? with
  | some d=>.ok (.nx ((δ.set j (.own ds.dropLast)).set i (.im d)))
  | none=>.no
 | _=>.no
theorem IsDs.dropLast {K:PySem.W.Frag}{B:Hp}{ds:List D}{vs:List V}(h:IsDs K B ds vs):IsDs K B ds.dropLast vs.dropLast:=by
 rw [List.dropLast_eq_take,List.dropLast_eq_take,h.len]
 exact h.take _
theorem qda (i j:Nat){x y:Str}{cpos apos:Pos}(hN:X.N.Nodup)(hi:X.N[i]?=some y:=by rfl)(hj:X.N[j]?=some x:=by rfl)(hx:Loc X.env.scope y:=by first | exact Or.inl rfl | exact Or.inr rfl)(hv:Vis X.env.scope x:=by first | exact Or.inl rfl | exact Or.inr (Or.inl rfl) | exact Or.inr (Or.inr rfl))
  (hd:#[25]=false:=by decide) (hcd:#[48]=false:=by decide)
  (hbase:attributeBase (.Name x p) "pop" X.env (eval (.Name x p) X.env)=eval (.Name x p) X.env:=by rfl) (hline:#[79]=true:=by rfl)
  (hs:swapsWith (.Call (.Attribute (.Name x p) "pop" apos) [] [] cpos) (some (.Name y p')) pos.line X.env=pure false:=by rfl)
  (hf:X.fn y=true∨X.env.scope.names.lookup y=some .local:=by first | exact .inl rfl | exact .inr rfl | assumption) :
  PSX X Ew [i] (.Assign [.Name y p'] (.Call (.Attribute (.Name x p) "pop" apos) [] [] cpos) pos) (popF i j):=by
 refine ⟨_,qJw hN hi hx (pe_bm0 PySem.F.plainAttrs_list PySem.F.slot_list_pop PySem.F.type_list_pop mt_pop (qC5 hj hv hd hcd) hbase hline) hs hf,fun B0 F0 P B H σ δ D r q=>?_⟩
 unfold popF at q
 split at q
 ·rename_i ds ej
  split at q
  ·rename_i d ed
   obtain ⟨a,vs,e1,e2,e3,e4,e5,e6⟩:=r.sl j _ ej
   have ed':ds[ds.length - 1]?=some d:=by rw [←List.getLast?_eq_getElem?];exact ed
   obtain ⟨v,ev,hv⟩:=e6.get ed'
   rw [e6.len] at ev
   refine ⟨.ref a,e1,.inl ⟨rfl,vs,SqL.of e5⟩,a,vs,v,rfl,rfl,e5,ev,?_⟩
   have r1:=r.put (ds:=ds) (es:=ds.dropLast) (vs:=vs) (us:=vs.dropLast) ej e1 e6.dropLast
   exact q B _ _ (r1.im hv) qHa
  ·exact q.elim
 ·exact q.elim
theorem qLg (j:Nat){x:Str}{g:qAi→Rs D}(hu:X.A.units + 1 < cLine)(he:PXd X Ew e g)(hN:X.N[j]?=some x:=by rfl)(hv:Vis X.env.scope x:=by first | exact Or.inl rfl | exact Or.inr (Or.inl rfl) | exact Or.inr (Or.inr rfl))(hd:#[25]=false:=by decide)
  (hcd:#[48]=false:=by decide) (hm:behindInMarks .NotIn (.Name x p)=false:=by with_unfolding_all rfl):PXt X Ew (.Compare e [.NotIn] [.Name x p] pos) (qGb (inJ j g)):=by
 obtain ⟨te,h1,h2⟩:=he
 refine ⟨_,qbm (qWa hu h1 (qC5 hN hv hd hcd)) hm,fun B0 F0 P B H σ δ Q r q=>?_⟩
 unfold qGb inJ at q
 cases ej:δ[j]? with
 | none=>rw [ej] at q;exact q.elim
 | some sl=>
  rw [ej] at q
  cases sl with
  | dtt ks=>
   have q':Pst Ew B H (fun b _ H'=>Q b H') ((g δ)>>=fun d=>((match qdt d with
    | some k=>Rs.ok (qF3 ks k).isSome
    | none=>Rs.no)>>=fun b=>Rs.ok (!b))):=by
    cases eg:g δ with
    | no=>rw [eg] at q;exact q
    | ok d=>rw [eg] at q;exact q
    | ex xx=>rw [eg] at q;exact q
   refine h2 B0 F0 P B H σ δ _ r ((Pst.bind q').mono fun d B1 H1 g1 q1 v hd=>?_)
   cases ek:qdt d with
   | none=>rw [ek] at q1;exact q1.elim
   | some k=>
    rw [ek] at q1
    obtain ⟨a,kvs,e1,e2,e3,e4,e5,e6⟩:=(r.grow g1).sl j _ ej
    obtain ⟨b,rfl,hb⟩:=qM7 g1.bh ek hd
    refine ⟨_,e1,a,_,rfl,qYn.t (k:=k) e5 hb,_,rfl,?_⟩
    rw [e6.isSome]
    exact q1 B1 H1 #[44]
  | _=>exact q.elim
end
open PySem PySem.Spec PyProof.Rows L2 PySem.W
def qWb:List Key→Option (Int×Str)
 | [.inl a,.inr x]=>some (a,x)
 | _=>none
def qDx:List (List Key)→Option (List (Int×Str))
 | []=>some []
 | k::r=>match qWb k with
  | some p=>(qDx r).map (p::·)
  | none=>none
def keyP (p:Int×Str):List Key:=[.inl p.1,.inr p.2]
theorem qZx {k:List Key}{p:Int×Str}(h:qWb k=some p):k=keyP p:=by
 unfold qWb at h
 split at h
 ·cases h;rfl
 ·cases h
theorem qHu:∀ ps:List (Int×Str),qDx (ps.map keyP)=some ps
 | []=>rfl
 | p::r=>by simp only [List.map_cons,keyP,qDx,qWb];rw [show qDx (List.map keyP r)=some r from qHu r];rfl
abbrev qJd (H:Hp):Hp:=qI5 (fun _=>none) H
theorem qJc (H:Hp):qA5 (qJd H) H:=(Grow.tups (B:=fun _=>none) (H:=H) (fun _ _ e=>by cases e)).bh
theorem qH9 {B H:Hp}(hs:qA5 B H):qA5 (qJd H) (qI5 B H):=fun a o e=>by
 have h:=qJc H a o e
 unfold qJd qI5 at e
 dsimp only at e
 split at e
 ·rename_i vs z
  cases e
  exact qNw hs z
 ·cases e
theorem qH2 {K:PySem.W.Frag}{H:Hp}:∀ {kvs:List #[41]} {xs:List (List Key×Addr×Value)} {ps:List (Int×Str)},
  Paired (fun (p:List Key×V) (q:List Key×Addr×Value)=>p.1=q.1∧H q.2.1=some (.tup (p.1.map kV))∧L2.RelV p.2 q.2.2) kvs xs→qDx (kvs.map (·.1))=some ps→IsDs K (qJd H) (ps.map unP) (xs.map fun x=>V.ref x.2.1)
 | _,_,ps,.nil,h=>by cases h;rfl
 | _,_,ps,.cons (a:=p) (b:=q) r t,h=>by
  simp only [List.map_cons,qDx] at h
  cases e:qWb p.1 with
  | none=>rw [e] at h;cases h
  | some z=>
   rw [e] at h
   obtain ⟨ps',h1,h2⟩:=Option.map_eq_some_iff.mp h
   subst h2
   refine ⟨_,_,rfl,⟨q.2.1,[.int z.1,.str z.2],rfl,qNw (fun _ _ e=>by cases e) ?_,⟨_,_,rfl,rfl,_,_,rfl,rfl,rfl⟩⟩,qH2 t h1⟩
   rw [r.2.1,qZx e]
   rfl
theorem qHk:∀ xs:List (List Key×Addr×Value),qBv (xs.map fun x=>V.ref x.2.1) (xs.map fun x=>Value.ref x.2.1)
 | []=>.nil
 | x::r=>.cons rfl (qHk r)
def qU7 (j:Nat)(δ:qAi):Rs W:=match δ[j]? with
 | some (.dtt ks)=>match qDx (ks.map (·.1)) with
  | some ps=>if ps.length < 64 then .ok (.li true ((qC2 ps).map unP)) else .no
  | none=>.no
 | _=>.no
def qWt (j:Nat)(δ:qAi):Rs W:=match δ[j]? with
 | some (.dtt ks)=>match qDx (ks.map (·.1)) with
  | some ps=>.ok (.li true (ps.map unP))
  | none=>.no
 | _=>.no
section
variable {X:Cx}{Ew:XW}{pos:Pos}
theorem qZa (j:Nat){x:Str}{p1 p2:Pos}(hc:X.calm=true)(hgl:Gl X "sorted")(hml:X.mg "sorted"=none)(hN:X.N[j]?=some x:=by rfl)(hvi:Vis X.env.scope x:=by first | exact Or.inl rfl | exact Or.inr (Or.inl rfl) | exact Or.inr (Or.inr rfl))
  (hd:#[25]=false:=by decide) (hcd:#[48]=false:=by decide)
  (hs:starEach [.Name x p2] X.env=#[85]::starEach [] X.env:=by rfl) (hp1:(backTo pos #[39]).any (·.1)=false:=by rfl) (hn1:backTo pos #[39]=[]:=by rfl) :
  PX X Ew (.Call (.Name "sorted" p1) [.Name x p2] [] pos) (qU7 j):=by
 refine ⟨fun σ H Q=>∃ a kvs ps,σ[j]?=some #[31]∧H a=some (.dT kvs)∧qDx (kvs.map (·.1))=some ps∧ps.length < 64∧∀ l vs,H l=none→IsDs X.K (qJd H) ((qC2 ps).map unP) vs→Q (.ref l) (upd H l (.lst vs)),fun pins s σ H Q I ⟨a,kvs,ps,ea,eh,eps,h64,q⟩=>?_,fun B0 F0 P B H σ δ Q r p=>?_⟩
 ·refine wpAny_Call_Name_kw (qFc I hgl hml boot_sorted ?_ #[5] #[5])
  refine PyProof.Rows.callWith_builtin1 ?_ hs hp1
  rw [hs]
  show wpAny _ _ (spliced (#[85]::backTo pos #[39])) _ _ s
  rw [hn1]
  refine Calls.spliced_cons #[112]
  subst ey eH
  cases (show iv=Value.ref a from ry)
  obtain ⟨z,hsys,xs,rel,o,es,ep,h1,h2,h3,h4,h5⟩:=(show qB8 X.prog X.w H2 s2.heap a (.dT kvs) from I2.hok a _ eh)
  have q3:IsDs X.K (qJd H2) (ps.map unP) (xs.map fun x=>V.ref x.2.1):=qH2 rel eps
  have rv:=qHk xs
  obtain ⟨hl,hp⟩:=qV5 I2 (qJc H2) q3 rv
  have hvl:(xs.map fun x=>V.ref x.2.1).length=ps.length:=by rw [←q3.len];simp
  have hxl:xs.length=ps.length:=by simpa using hvl
  have ev:es.toList.map (·.key)=xs.map fun x=>Value.ref x.2.1:=by rw [h4,List.map_map];rfl
  have hz:xs.length≤sizeLine:=by rw [sizeLine_eq];omega
  refine qYt (κ:=tuples' true) (lt:=fun i j=>ltP (ps.getD i (0,Str.empty)) (ps.getD j (0,Str.empty))) (PP:=fun p=>Pm (xs.map fun x=>Value.ref x.2.1).length p∧Up (fun i j=>ltP (ps.getD i (0,Str.empty)) (ps.getD j (0,Str.empty))) p 0 (xs.map fun x=>Value.ref x.2.1).length∨p=(List.range (xs.map fun x=>Value.ref x.2.1).length).toArray∧(xs.map fun x=>Value.ref x.2.1).length < 2)
   (I2.ok.hd hc) hsys ⟨o,h1,h2,h3⟩ ev (by rw [List.length_map];omega) (fun h2 h1 k tk Q q=>?_) (fun h1 tk i j C k hi hj hC=>?_) (fun h2=>qGa (fun p z=>.inl z) _ (qWf (fun i j=>qWp _ _) (fun i j k=>qWo _ _ _) #[0])) (fun h2=>.inr ⟨rfl,h2⟩) fun h' tk cc n p' hPP hn kp e=>?_
  ·obtain ⟨fs,f1,f2,f3⟩:=qWz hl fun i hi=>(hp i hi).kept k
   have e0:(Value.type "int" != Value.type "tuple")=true:=by decide
   refine kat_kind (s:={ s2 with heap:=h1,toks:=tk }) (T:=Value.type "int") f1 #[0] (fun v hv=>?_) #[5] (by rw [e0];exact q)
   obtain ⟨a,t,rfl⟩:=f3 v hv
   exact .now
  ·unfold kas_ask
   exact pr_lt ((hp i #[0]).kept k) ((hp j #[0]).kept k) (hC tk)
  ·generalize hits:(xs.map fun x=>Value.ref x.2.1)=its at *
   generalize hvs:(xs.map fun x=>V.ref x.2.1)=vs at *
   have fin:∀ l:List Nat,l.Perm (List.range its.length)→(l.map fun i=>ps.getD i (0,Str.empty)).Pairwise (fun a b=>ltP b a=false)→p'.toList=l→EP X pins σ Q (.ref n) { s2 with heap:=h',toks:=tk }:=fun l hlp hup el=>by
    have hmem:∀ i∈l,i < vs.length:=fun i hi=>by
     have:=hlp.mem_iff.mp hi
     rw [List.mem_range] at this;omega
    have hsrt:(l.map fun i=>ps.getD i (0,Str.empty))=qC2 ps:=by
     refine qIu ?_ hup
     refine (hlp.map _).trans ?_
     have:(List.range its.length).map (fun i=>ps.getD i (0,Str.empty))=ps:=by
      apply List.ext_getElem
      ·simp [hl]
      ·intro i h1 h2
       simp [List.getD_eq_getElem?_getD,List.getElem?_eq_getElem h2]
     rw [this]
    rw [el] at e
    have hll:l.length=vs.length:=by rw [hlp.length_eq,List.length_range];omega
    refine ⟨.ref n,_,I2.laid (t':=tk) kp hn (show qB8 X.prog X.w _ h' _ (.lst (l.map fun i=>vs.getD i .non)) from ⟨by rw [List.length_map,hll];omega,_,cc,qJa rv l hmem,e⟩),rfl,q _ _ (I2.hok.fresh hn) ?_⟩
    rw [←hsrt]
    exact qJ8 q3 l hmem
   rcases hPP with ⟨hpm,hup⟩ | ⟨rfl,h2⟩
   ·refine fin p'.toList ?_ ?_ rfl
    ·simpa using hpm.pm.toList
    ·rw [List.pairwise_map,List.pairwise_iff_getElem]
     intro i j hi hj hij
     have hsz:=hpm.sz
     have:=hup i j #[50] hij (by simpa [hsz] using hj)
     have g1:p'.getD i 0=p'.toList[i]:=by simp [Array.getD,show i < p'.size by simpa using hi]
     have g2:p'.getD j 0=p'.toList[j]:=by simp [Array.getD,show j < p'.size by simpa using hj]
     rw [g1,g2] at this
     exact this
   ·refine fin (List.range its.length) (List.Perm.refl _) ?_ #[7]
    have:its.length=0∨its.length=1:=by omega
    rcases this with z | z
    ·rw [z];simp
    ·rw [z];simp [List.range_succ]
 ·unfold qU7 at p
  split at p
  ·rename_i ks ei
   split at p
   ·rename_i ps eps
    split at p
    ·rename_i h64
     obtain ⟨a,kvs,e1,e2,e3,e4,e5,e6⟩:=r.sl j _ ei
     refine ⟨a,kvs,ps,e1,e5,by rw [e6.1];exact eps,h64,fun l vs hl hv=>?_⟩
     have g:=Grow.tups r.bh
     have lB:qI5 B H l=none:=g.bh.free hl
     exact p _ _ (g.trans (Grow.new g.bh hl lB)) _ ⟨l,vs,rfl,hl,lB,qAu,IsDs.mono (qH9 r.bh) _ _ hv⟩
    ·exact p.elim
   ·exact p.elim
  ·exact p.elim
theorem qVy (j:Nat){x:Str}{p1 p2:Pos}(hc:X.calm=true)(hgl:Gl X "list")(hml:X.mg "list"=none)(hN:X.N[j]?=some x:=by rfl)(hvi:Vis X.env.scope x:=by first | exact Or.inl rfl | exact Or.inr (Or.inl rfl) | exact Or.inr (Or.inr rfl))
  (hd:#[25]=false:=by decide) (hcd:#[48]=false:=by decide)
  (hs:starEach [.Name x p2] X.env=#[85]::starEach [] X.env:=by rfl) (hp1:(backTo pos #[39]).any (·.1)=false:=by rfl) (hn1:backTo pos #[39]=[]:=by rfl) :
  PX X Ew (.Call (.Name "list" p1) [.Name x p2] [] pos) (qWt j):=by
 refine ⟨fun σ H Q=>∃ a kvs ps,σ[j]?=some #[31]∧H a=some (.dT kvs)∧qDx (kvs.map (·.1))=some ps∧∀ l vs,H l=none→IsDs X.K (qJd H) (ps.map unP) vs→Q (.ref l) (upd H l (.lst vs)),fun pins s σ H Q I ⟨a,kvs,ps,ea,eh,eps,q⟩=>?_,fun B0 F0 P B H σ δ Q r p=>?_⟩
 ·refine wpAny_Call_Name_kw (qFc I hgl hml boot_list ?_ #[5] #[5])
  refine PyProof.Rows.callWith_type1 ?_ hs hp1
  rw [hs]
  show wpAny _ _ (spliced (#[85]::backTo pos #[39])) _ _ s
  rw [hn1]
  refine Calls.spliced_cons #[112]
  subst ey eH
  cases (show iv=Value.ref a from ry)
  obtain ⟨z,hsys,xs,rel,o,es,ep,h1,h2,h3,h4,h5⟩:=(show qB8 X.prog X.w H2 s2.heap a (.dT kvs) from I2.hok a _ eh)
  have hxz:xs.length≤sizeLine:=by rw [←Paired.length rel];exact z
  have hez:es.size=xs.length:=by rw [←Array.length_toList,h4,List.length_map]
  refine PySem.W.kdl_call (qXx (es:=es) (ep:=ep) hsys) (I2.ok.hd hc) ⟨o,h1,h2,h3⟩ #[0] fun h' tk acc' c' kp e hacc=>?_
  have ea:acc'.toList=xs.map fun x=>Value.ref x.2.1:=by
   have e0:es.toList.map (·.key)=xs.map fun x=>Value.ref x.2.1:=by rw [h4,List.map_map];rfl
   rw [←e0]
   apply List.ext_getElem?
   intro i
   rw [List.getElem?_map,Array.getElem?_toList,Array.getElem?_toList]
   cases e1:acc'[i]? with
   | some v=>
    obtain ⟨en,e2,e3⟩:=hacc.2 i v e1
    rw [e2,e3];rfl
   | none=>
    have:es[i]?=none:=by
     rw [Array.getElem?_eq_none_iff] at e1 ⊢
     rw [←hacc.1];exact e1
    rw [this];rfl
  have hv:qBv (xs.map fun x=>V.ref x.2.1) acc'.toList:=by rw [ea];exact qHk xs
  refine ⟨.ref s2.heap.objs.size,_,I2.laid (t':=tk) kp #[8] (show qB8 X.prog X.w _ h' _ (.lst (xs.map fun x=>V.ref x.2.1)) from ⟨by rw [List.length_map];exact hxz,acc'.toList,c',hv,by rw [Array.toArray_toList];exact e⟩),rfl,q _ _ (I2.hok.fresh #[8]) (qH2 rel eps)⟩
 ·unfold qWt at p
  split at p
  ·rename_i ks ei
   split at p
   ·rename_i ps eps
    obtain ⟨a,kvs,e1,e2,e3,e4,e5,e6⟩:=r.sl j _ ei
    refine ⟨a,kvs,ps,e1,e5,by rw [e6.1];exact eps,fun l vs hl hv=>?_⟩
    have g:=Grow.tups r.bh
    have lB:qI5 B H l=none:=g.bh.free hl
    exact p _ _ (g.trans (Grow.new g.bh hl lB)) _ ⟨l,vs,rfl,hl,lB,qAu,IsDs.mono (qH9 r.bh) _ _ hv⟩
   ·exact p.elim
  ·exact p.elim
end
open PySem PySem.Spec PyProof.Rows L2
theorem law_mk {l:PySem.W.OpenLaw}{q:Program}{loose:List Str}{XP:(Str→Option Value)→Heap→Prop}{YP:World→Heap→Prop}{d:DefRec}{K:Params→PySem.W.Frag}{k:Nat}{x:Str}{m:List W→Rs W}(hn:l.most=some 63)(hdf:d.params.defaults=[])(hr:Room k callerA)
  (hm:∀ ns:List Int,ns.length≤63→m [.im #[37]]=.ok (.im (.bl true)))
  (hY:∀ (w:World) (h:Heap),YP w h→(K w.params).In h) (hlam:∀ w:World,qds q (K w.params)=true)
  (F:∀ (w:World) (mg:Str→Option Value) (fa:Addr) (h:Heap),(K w.params).In h→h.Ns mainGlobals mg→mg d.name=some (.ref fa)→
   ∃ fd:FuncData,(∀ (s:Shared) (u:Value),BindsTo s fd ⟨[u],[]⟩ [(x,u)])∧∀ base:Heap,(K w.params).In base→base.Ns mainGlobals mg→FnOk l.prog w (K w.params) mg base CX0 k fa fd [x] (spD (K w.params) 1 m)) :
  PySem.W.WalkO q loose XP YP l.row.toRowW d [] (fun f vs=>PySem.call f vs):=by
 refine L2.walk_of (n:=63) (k:=k) (x:=x) (CX:=fun _=>CX0) (sp:=fun w=>spD (K w.params) 1 m) hn #[5] hdf hr hY hlam F (fun w H a ns hl hS=>?_) fun _ _ _ _ _ z=>z
 have allI:∀ ns:List Int,IsDs (K w.params) H (ns.map D.int) (ns.map V.int):=by
  intro ns
  induction ns with
  | nil=>exact rfl
  | cons n ns ih=>exact ⟨V.int n,ns.map V.int,rfl,by simp [IsD],ih⟩
 refine ⟨H,[.im #[37]],qA5.refl H,⟨.ref a,[],rfl,⟨a,_,rfl,hS,allI ns⟩,rfl⟩,rfl,?_⟩
 rw [hm ns hl]
 exact fun B' H' _ v hv=>hv
def HasL (K:PySem.W.Frag)(mg:Str→Option Value)(x:Str)(st:Stmt):Prop:=∃ f fd c Pt,Fun K x x st f fd∧mg x=some (.ref f)∧fd.code=.ref c∧PySem.W.tabIn K x=some (c,Pt)
theorem hasL_mk {K:PySem.W.Frag}{h:Heap}{mg:Str→Option Value}{x:Str}{st:Stmt}(X:K.In h)(G:h.Ns mainGlobals mg)(T:Has K mg x st)(t:(PySem.W.tabIn K x).isSome=true):HasL K mg x st:=by
 obtain ⟨f,fd,F,hm⟩:=T
 obtain ⟨⟨c,Pt⟩,e⟩:=Option.isSome_iff_exists.mp t
 obtain ⟨oc,od,kV,doc,pm,an,cdv,ct,osl,rfl,lk,hcd⟩:=id F.ex
 exact ⟨f,_,c,Pt,F,hm,PySem.W.law_code X G e hm (X _ _ lk) rfl,e⟩
section
variable {P:Program}{w:World}{K:PySem.W.Frag}{mg:Str→Option Value}{base:Heap}
theorem qXe {x:Str}{st:Stmt}{N ps:List Str}{k:Nat}{h:qAi→Rs Fl}(T:HasL K mg x st)(S:FnScope N ps (qAg st))(hl:ps.length≤N.length)
  (hb:∀ (kV doc pm:Value) (an:Option Addr) (cdv ct:Value) (us:List Value),us.length=ps.length→bindArgs #[88] ⟨us,[]⟩=pure (ps.zip us))
  (hbody:∀ c Pt,PySem.W.tabIn K x=some (c,Pt)→∀ (f:Addr) (A:Around) (outer:List Env) (s:Shared) (H:Hp) (E:XK),Room k (A.deeper (envOfC x (qAg st) s.heap.objs.size f (.ref c)))→
   ∃ Wr,qRt (qRo CX0 P w K mg base N x (qAg st) f (.ref c) A outer s H E).nox EN Wr (qB6 st) h):FnD P w K mg base (k + 1) x ps.length (mir N h):=by
 obtain ⟨f,fd,c,Pt,F,hm,hc,ht⟩:=T
 refine ⟨f,fd,ps,?_,hm,F.kp,F.binds hb,rfl⟩
 obtain ⟨oc,od,kV,doc,pm,an,cdv,ct,osl,rfl,lk,hcd⟩:=F.ex
 cases (show cdv=.ref c from hc)
 refine fn_of lk hcd S (fun vs H Q E hsp=>?_) fun A outer s H vs Q E hr hsp=>?_
 ·obtain ⟨B,ws,hs,hw,hn,_⟩:=hsp
  rw [←hw.len,hn]
 ·obtain ⟨B,ws,hs,hw,hn,p⟩:=hsp
  obtain ⟨Wr,ts,h1,h2⟩:=hbody c Pt ht f A outer s H E hr
  refine ⟨ts,h1.nox,h2 B H qE5 B H _ (frame N ws) _ (qMk hs hw #[0]) ?_⟩
  have p':qHi K EN B H (h (frame N ws)>>=fin) Q:=p
  cases q:h (frame N ws) with
  | no=>rw [q] at p';exact p'
  | ex x=>rw [q] at p';exact p'
  | ok fl=>
   rw [q] at p'
   cases fl with
   | nx δ=>exact fun B' H' σ' r' _=>p' B' H' r'.whole .non rfl
   | rt w=>exact fun v B' H' g hw'=>p' B' H' g v hw'
   | rl d δ=>exact fun v B' H' σ' r' _ hd=>p' B' H' r'.whole v hd
   | bk δ=>exact p'.elim
   | ct δ=>exact p'.elim
theorem qby {x:Str}{st:Stmt}{N ps:List Str}{k kl:Nat}{h:Addr→V→(qAi→Rs W)→qAi→Rs Fl}(T:Has K mg x st)(S:FnScope N ps (qAg st))(hps:ps.length=2)
  (hb:∀ (kV doc pm:Value) (an:Option Addr) (cdv ct:Value) (us:List Value),us.length=ps.length→bindArgs #[88] ⟨us,[]⟩=pure (ps.zip us))
  (hbody:∀ (fa f:Addr) (vw:V) (gl:qAi→Rs W) (cdv:Value) (A:Around) (outer:List Env) (s:Shared) (H:Hp),Room k (A.deeper (envOfC x (qAg st) s.heap.objs.size fa cdv))→Clo P w K mg base s H (frs outer) f vw kl gl→
   ∃ Wr,qRt (qRo CX0 P w K mg base N x (qAg st) fa cdv A outer s H E0).nox EN Wr (qB6 st) (h f vw gl)):FnC P w K mg base (k + 1) kl x (fun f vw gl=>mir N (h f vw gl)):=by
 obtain ⟨fa,fd,F,hm⟩:=T
 exact ⟨fa,fd,ps,Fun.okC F S hps fun f vw gl cdv A outer s H hr C=>hbody fa f vw gl cdv A outer s H hr C,hm,F.kp,F.binds hb,hps⟩
end
def qbs (x y:Str)(sc:Scope):Bool:=
 sc.kind == .function && !sc.isCoroutine && !sc.isGenerator && sc.names.lookup x == some .local && sc.names.lookup y == some .free && sc.names.all (fun z=>z.2 != .cell && (z.2 != .free || z.1 == y))
theorem qJ7 {x y:Str}{sc:Scope}(h:qbs x y sc=true):LamScope x y sc:=by
 unfold qbs at h
 simp only [Bool.and_eq_true,Bool.not_eq_true',beq_iff_eq,List.all_eq_true] at h
 obtain ⟨⟨⟨⟨⟨h1,h2⟩,h3⟩,h4⟩,h5⟩,h6⟩:=h
 refine ⟨h1,h2,h3,h4,h5,fun z hz e=>?_,fun z e=>?_⟩
 ·have:=(h6 z hz).1
  rw [e] at this;exact absurd this #[5]
 ·have:=(h6 (z,.free) (PySem.mem_of_lookup e)).2
  simpa using this
open PySem PySem.Spec PyProof.Rows L2
def un2:D→Option (D×D)
 | .tup [a,b]=>some (a,b)
 | _=>none
theorem un2_eq {d d1 d2:D}(h:un2 d=some (d1,d2)):d=.tup [d1,d2]:=by
 unfold un2 at h
 split at h
 ·cases h;rfl
 ·cases h
def qDe (t:qAi→Rs Bool)(el:qAi→Rs D):List D→qAi→Rs (List D)
 | [],_=>.ok []
 | d::ds,δ=>match un2 d with
  | some (d1,d2)=>t (.im d1::.im d2::δ)>>=fun b=>if b=true then el (.im d1::.im d2::δ)>>=fun y=>qDe t el ds δ>>=fun r=>.ok (y::r) else qDe t el ds δ
  | none=>.no
def qPz (t:qAi→Rs Bool)(el:qAi→Rs D)(ds:List D)(δ:qAi):Rs W:=if ds.length < lim then qDe t el ds δ>>=fun r=>.ok (.li true r) else .no
def qX1 (gi:qAi→Rs (List D))(t:qAi→Rs Bool)(el:qAi→Rs D):qAi→Rs W:=fun δ=>gi δ>>=fun ds=>qPz t el ds δ
section
variable {X:Cx}{Ew:XW}{elt iter:Expr}{x x2 y:Str}{px py pz tpos:Pos}{kz:Nat}{ifs:List Expr}{scope:Scope}{pos spos:Pos}{M:List Str}
theorem qXz {gi:qAi→Rs (List D)}{t:qAi→Rs Bool}{el:qAi→Rs D}{wi:TI}{tt:TT}{te:TE}
  (i2:∀ (B0 F0 P B H:Hp) (σ:L2.St) (δ:qAi) (R':It→Hp→Prop),R X.K B0 F0 P B H σ δ→Pst Ew B H (fun ds B' H'=>∀ J Pn,IterOf X.K B' J ds Pn→qA5 Pn H'→R' J H') (gi δ)→wi σ H R')
  (t2:∀ (B0 F0 P B H:Hp) (σ:L2.St) (δ:qAi) (Q:Bool→Hp→Prop),R X.K B0 F0 P B H σ δ→qUt Ew B H (t δ) Q→tt σ H Q)
  (e2:∀ (B0 F0 P B H:Hp) (σ:L2.St) (δ:qAi) (Q:VK),R X.K B0 F0 P B H σ δ→qa6 X.K Ew B H (el δ) Q→te σ H Q)
  (B0 F0 P B H:Hp) (σ:L2.St) (δ:qAi) (Q:VK) (r:R X.K B0 F0 P B H σ δ) (p:qHi X.K Ew B H (gi δ>>=fun ds=>qPz t el ds δ) Q):qbd X.K wi tt te σ H Q:=by
 refine i2 B0 F0 P B H σ δ _ r ((Pst.bind p).mono fun ds B1 H1 g1 p1 J Pn hJ hPn l hl=>?_)
 have r1:=r.grow g1
 have lH:H l=none:=g1.sh.free hl
 have lB1:B1 l=none:=g1.bh.free hl
 have lF:F0 l=none:=r1.fh.free hl
 have lP:P l=none:=r1.ph.free hl
 have lPn:Pn l=none:=hPn.free hl
 have lown:∀ (i:Nat) (s:Sl),δ[i]?=some s→s.isOwn=true→σ[i]?≠some (some (.ref l)):=fun i s e o z=>by
  obtain ⟨_,_,_,u,hu⟩:=qDy r1 e o z
  rw [hl] at hu;cases hu
 have same_l:∀ {G G':Hp} {o:HO},qA5 G G'→G l=none→qA5 G (upd G' l o):=fun hs hn b u e=>by
  rw [qAr (qAn e hn)];exact hs b u e
 unfold qPz at p1
 by_cases hlim:ds.length < lim
 ·rw [if_pos hlim] at p1
  let Fin:List D→Rs (List D)→Prop:=fun acc r=>match r with
   | .no=>False
   | .ok qFw=>∀ B' H',Grow B1 H1 B' H'→∀ v,IsW X.K B' H H' (.li true (acc++qFw)) v→Q v H'
   | .ex x=>∀ B' H',Grow B1 H1 B' H'→Ew x B' H'
  have fin0:Fin [] (qDe t el ds δ):=by
   cases q:qDe t el ds δ with
   | no=>rw [q] at p1;exact p1
   | ok qFw=>rw [q] at p1;exact p1
   | ex x=>rw [q] at p1;exact p1
  refine ⟨fun i acc m H2=>m + i=ds.length∧acc.length≤i∧∃ B2 accD,Grow B1 H1 B2 H2∧R X.K B0 F0 P B2 H2 σ δ∧H2 l=some (.lst acc)∧B2 l=none∧IsDs X.K B2 accD acc∧qA5 Pn H2∧Fin accD (qDe t el (ds.drop i) δ),
   ⟨ds.length,rfl,Nat.zero_le _,B1,[],⟨qA5.refl _,same_l (qA5.refl _) hl,same_l g1.bh lB1,fun _ _ e=>.inl e⟩,r1.side lF lP lB1 lown,qAu,lB1,rfl,same_l hPn lPn,fin0⟩,?_⟩
  rintro i acc m H2 ⟨hm,hacc,B2,accD,g2,r2,al,bl,ad,pn2,f2⟩
  by_cases hlt:i < ds.length
  ·have ed:ds[i]?=some ds[i]:=List.getElem?_eq_getElem hlt
   rw [List.drop_eq_getElem_cons hlt] at f2
   obtain ⟨go,yld⟩:=hJ.go i ds[i] B2 H2 ed g2.sb pn2 r2.bh
   refine .inr ⟨go,fun v H3 yy=>?_⟩
   obtain ⟨B3,g3,d3⟩:=yld v H3 yy
   cases eu:un2 ds[i] with
   | none=>exact absurd (show Fin accD Rs.no by have:=f2;unfold qDe at this;rw [eu] at this;exact this) id
   | some q=>
   obtain ⟨d1,d2⟩:=q
   rw [un2_eq eu] at d3
   obtain ⟨ca,cvs,rfl,cb,v1,cr,rfl,hd1,v2,cr2,rfl,hd2,ce⟩:=d3
   cases (show cr2=[] from ce)
   have r3:=((r2.grow g3).push hd2).push hd1
   refine ⟨ca,v1,v2,rfl,qA5.tp (r2.grow g3).bh cb,?_⟩
   have g13:=g2.trans g3
   have f2':Fin accD (t (.im d1::.im d2::δ)>>=fun b=>if b=true then el (.im d1::.im d2::δ)>>=fun y=>qDe t el #[59] δ>>=fun r=>.ok (y::r) else qDe t el #[59] δ):=by have:=f2;unfold qDe at this;rw [eu] at this;exact this
   refine t2 B0 F0 P B3 H3 (some v1::some v2::σ) (.im d1::.im d2::δ) _ r3 ?_
   cases et:t (.im d1::.im d2::δ) with
   | no=>rw [et] at f2';exact f2'
   | ex x=>rw [et] at f2';exact fun B' H' g'=>f2' B' H' (g13.trans g')
   | ok b=>
    rw [et] at f2'
    intro B4 H4 g4
    have g14:=g13.trans g4
    have al4:H4 l=some (.lst acc):=g4.sh _ _ (g3.sh _ _ al)
    have bl4:B4 l=none:=(g3.trans g4).free bl al
    cases b with
    | false=>
     dsimp only
     rw [if_neg Bool.false_ne_true]
     refine ⟨m - 1,by omega,by omega,by omega,B4,accD,g14,(r2.grow g3).grow g4,al4,bl4,IsDs.mono (g3.trans g4).sb _ _ ad,pn2.trans (g3.trans g4).sh,f2'⟩
    | true=>
     dsimp only
     rw [if_pos rfl]
     have f3:Fin accD (el (.im d1::.im d2::δ)>>=fun y=>qDe t el #[59] δ>>=fun r=>.ok (y::r)):=f2'
     refine e2 B0 F0 P B4 H4 (some v1::some v2::σ) (.im d1::.im d2::δ) _ (r3.grow g4) ?_
     cases ee:el (.im d1::.im d2::δ) with
     | no=>rw [ee] at f3;exact f3
     | ex x=>rw [ee] at f3;exact fun B' H' g'=>f3 B' H' (g14.trans g')
     | ok yD=>
      rw [ee] at f3
      intro B5 H5 g5 yv hy
      have g25:=g3.trans (g4.trans g5)
      have al5:H5 l=some (.lst acc):=g5.sh _ _ al4
      have bl5:B5 l=none:=g5.free bl4 al4
      have r5:=((r2.grow g3).grow g4).grow g5
      have g15:=g14.trans g5
      refine ⟨al5,by rw [qDg];omega,m - 1,by omega,by omega,by rw [List.length_append,List.length_singleton];omega,B5,accD++[yD],?_,r5.side lF lP bl5 lown,qAu,bl5,(IsDs.mono g25.sb _ _ ad).app (.one hy),?_,?_⟩
      ·exact ⟨g15.sb,same_l g15.sh hl,same_l r5.bh bl5,g15.nw⟩
      ·exact same_l (pn2.trans g25.sh) lPn
      ·have f4:Fin accD (qDe t el #[59] δ>>=fun r=>.ok (yD::r)):=f3
       cases eq:qDe t el #[59] δ with
       | no=>rw [eq] at f4;exact f4
       | ex x=>rw [eq] at f4;exact f4
       | ok qFw=>
        rw [eq] at f4
        intro B' H' g' v hv
        rw [List.append_assoc] at hv
        exact f4 B' H' g' v hv
  ·have e:i=ds.length:=by omega
   subst e
   rw [List.drop_length] at f2
   have f2':∀ B' H',Grow B1 H1 B' H'→∀ v,IsW X.K B' H H' (.li true (accD++[])) v→Q v H':=f2
   refine .inl ⟨hJ.stop B2 H2 g2.sb pn2 r2.bh,f2' B2 H2 g2 (.ref l) ⟨l,acc,rfl,lH,bl,al,?_⟩⟩
   rw [List.append_nil]
   exact ad
 ·rw [if_neg hlim] at p1
  exact p1.elim
theorem qZc {gi:qAi→Rs (List D)}{t:qAi→Rs Bool}{el:qAi→Rs D}(hc:X.calm=true)(hN:X.N.Nodup)(S:CompScope2 X M x x2 scope)(hi:PXc X Ew (.Tuple [.Name x px,.Name x2 pz] kz tpos) iter gi)
  (ht:∀ s₀ H₀ C fp cl,PXts #[81] Ew ifs t) (he:∀ s₀ H₀ C fp cl,PXd #[81] Ew elt el)
  (hs:∀ x,foldedSetIterable iter X.env x=pure x:=by intro _;rfl):PX X Ew #[104] (fun δ=>gi δ>>=fun ds=>qPz t el ds δ):=by
 obtain ⟨wi,i1,i2⟩:=hi
 refine ⟨_,qZu (tt:=fun σ H Q=>∀ s₀ H₀ C fp cl,ttS #[81] ifs σ H Q) (te:=fun σ H Q=>∀ s₀ H₀ C fp cl,teS #[81] elt σ H Q) hc hN S i1
  (fun s₀ H₀ C fp cl pins s σ H Q I h=>h s₀ H₀ C fp cl pins s I) (fun s₀ H₀ C fp cl pins s σ H Q I h=>h s₀ H₀ C fp cl pins s I) hs,qXz i2 #[96] #[96]⟩
 ·obtain ⟨tt,h1,h2⟩:=ht s₀ H₀ C fp cl
  exact h1 pins s σ H Q I (h2 B0 F0 P B H σ δ Q r p)
 ·obtain ⟨te,h1,h2⟩:=he s₀ H₀ C fp cl
  exact h1 pins s σ H Q I (h2 B0 F0 P B H σ δ Q r p)
end
section
variable {P:Program}{w:World}{K:PySem.W.Frag}{mg:Str→Option Value}{base:Heap}
theorem fnD_no {x:Str}{st:Stmt}{ps:List Str}{k:Nat}(T:Has K mg x st)
  (hb:∀ (kV doc pm:Value) (an:Option Addr) (cdv ct:Value) (us:List Value),us.length=ps.length→bindArgs #[88] ⟨us,[]⟩=pure (ps.zip us)):FnD P w K mg base k x ps.length (fun _=>.no):=by
 obtain ⟨f,fd,F,hm⟩:=T
 exact ⟨f,fd,ps,⟨fun vs H Q E h=>let ⟨_,_,_,_,_,p⟩:=h;p.elim,fun A outer s H args us vs Q E _ _ _ _ h=>let ⟨_,_,_,_,_,p⟩:=h;p.elim⟩,hm,F.kp,F.binds hb,rfl⟩
end
open PySem PySem.Spec PyProof.Rows L2
section
variable {K:PySem.W.Frag}{B0 F0 P B H:Hp}{σ:L2.St}{δ:qAi}
theorem R.frz (r:R K B0 F0 P B H σ δ){i:Nat}{ds:List D}(ei:δ[i]?=some (.own ds)):∃ B',R K B0 F0 P B' H σ (δ.set i (.im (.lst ds))):=by
 obtain ⟨a,vs,e1,e2,e3,e4,e5,e6⟩:=r.sl i _ ei
 have sm:qA5 B (upd B a (.lst vs)):=fun b u z=>by rw [qAr (qAn z e4)];exact z
 have hil:i < δ.length:=(List.getElem?_eq_some_iff.mp ei).1
 refine ⟨upd B a (.lst vs),r.b0.trans sm,fun b o e=>?_,r.fh,r.ph,fun b o e=>?_,by rw [List.length_set];exact r.len,fun j s e=>?_,fun j k s t b hjk q1 q2 o1 o2 z1 z2=>?_⟩
 ·by_cases hb:b=a
  ·subst hb;exact .inr (.inl e2)
  ·rw [qAr hb] at e;exact r.nw b o e
 ·by_cases hb:b=a
  ·subst hb;rw [qAu] at e;cases e;exact e5
  ·rw [qAr hb] at e;exact r.bh b o e
 ·by_cases hj:i=j
  ·subst hj
   rw [List.getElem?_set_self hil] at e
   cases e
   exact ⟨.ref a,e1,a,vs,rfl,SqL.of qAu,IsDs.mono sm _ _ e6⟩
  ·rw [List.getElem?_set_ne hj] at e
   have hs:=r.sl j s e
   have off:∀ c,s.isOwn=true→σ[j]?=some (some (.ref c))→c≠a:=fun c ho hc z=>by
    subst z
    exact r.ne i j _ s c hj ei e rfl ho e1 hc
   cases s with
   | un=>trivial
   | im d=>obtain ⟨v,q1,q2⟩:=hs;exact ⟨v,q1,IsD.mono sm _ _ q2⟩
   | rd es=>obtain ⟨c,us,q1,q2,q3⟩:=hs;exact ⟨c,us,q1,q2,IsDs.mono sm _ _ q3⟩
   | own es=>obtain ⟨c,us,q1,q2,q3,q4,q5,q6⟩:=hs;exact ⟨c,us,q1,q2,q3,by rw [qAr (off c rfl q1)];exact q4,q5,IsDs.mono sm _ _ q6⟩
   | dct ks=>obtain ⟨c,us,q1,q2,q3,q4,q5,q6⟩:=hs;exact ⟨c,us,q1,q2,q3,by rw [qAr (off c rfl q1)];exact q4,q5,q6.mono sm⟩
   | exc x=>obtain ⟨c,C,q1,q2,q3⟩:=hs;exact ⟨c,C,q1,q2,sm _ _ q3⟩
   | dtt ks=>obtain ⟨c,us,q1,q2,q3,q4,q5,q6⟩:=hs;exact ⟨c,us,q1,q2,q3,by rw [qAr (off c rfl q1)];exact q4,q5,q6.mono sm⟩
 ·have back:∀ (j:Nat) (s:Sl),(δ.set i (.im (.lst ds)))[j]?=some s→s.isOwn=true→δ[j]?=some s:=fun j s e o=>by
   by_cases hj:i=j
   ·subst hj
    rw [List.getElem?_set_self hil] at e
    cases e;cases o
   ·rw [List.getElem?_set_ne hj] at e;exact e
  exact r.ne j k s t b hjk (back j s q1 o1) (back k t q2 o2) o1 o2 z1 z2
end
open PySem PySem.Spec PyProof.Rows L2
section
variable {X:Cx}{Ew:XW}{e:Expr}{p pos lpos:Pos}{x z y xl:Str}{c Pt cw:Addr}{kl k:Nat}{g gl:qAi→Rs W}{params:Arguments}{body:Expr}{scope:Scope}{m:Addr→V→(qAi→Rs W)→List W→Rs W}
end
section
variable {P:Program}{w:World}{K:PySem.W.Frag}{mg:Str→Option Value}{base:Heap}
end
def frzB (i:Nat)(h:qAi→Rs Fl):qAi→Rs Fl:=fun δ=>match δ[i]? with
 | some (.own ds)=>h (δ.set i (.im (.lst ds)))
 | _=>h δ
theorem qZk {X:Cx}{Ew:XW}{Wr:List Nat}{st:Stmt}{h:qAi→Rs Fl}(i:Nat)(hs:PSX X Ew Wr st h):PSX X Ew Wr st (frzB i h):=by
 obtain ⟨ts,h1,h2⟩:=hs
 refine ⟨ts,h1,fun B0 F0 P B H σ δ D r q=>?_⟩
 unfold frzB at q
 split at q
 ·rename_i ds ei
  obtain ⟨B2,r2⟩:=r.frz ei
  exact h2 B0 F0 P B2 H σ _ D r2 q
 ·exact h2 B0 F0 P B H σ δ D r q
open PySem PySem.Spec PyProof.Rows L2
def qa7 (xs ys:List D):List D:=(xs.zip ys).map fun p=>D.tup [p.1,p.2]
def zipA:List W→Rs (List D)
 | [.li _ xs,.li _ ys]=>.ok (qa7 xs ys)
 | _=>.no
theorem qcd {xs ys:List D}{i:Nat}{d:D}(h:(qa7 xs ys)[i]?=some d):∃ x y,xs[i]?=some x∧ys[i]?=some y∧d=.tup [x,y]:=by
 unfold qa7 at h
 rw [List.getElem?_map] at h
 obtain ⟨p,hp,rfl⟩:=Option.map_eq_some_iff.mp h
 obtain ⟨h1,h2⟩:=List.getElem?_zip_eq_some.mp hp
 exact ⟨_,_,h1,h2,rfl⟩
theorem qbi {H:Hp}{a:Addr}{us:List V}(h:Rd H a (.lst us)):∃ Pn,qA5 Pn H∧∀ H2,qA5 Pn H2→Rd H2 a (.lst us):=by
 rcases h with h | ⟨o,h⟩
 ·exact ⟨qE3 a _,qEi h,fun H2 s=>.inl (s _ _ qE2)⟩
 ·exact ⟨qE3 a _,qEi h,fun H2 s=>.inr ⟨o,s _ _ qE2⟩⟩
theorem qab {K:PySem.W.Frag}{B:Hp}{a b:Addr}{vs us:List V}{xs ys:List D}{Pn:Hp}(hq:∀ H2,qA5 Pn H2→Rd H2 a (.lst vs)∧Rd H2 b (.lst us))(hd:IsDs K B xs vs)(he:IsDs K B ys us):IterOf K B (IzL K a b) (qa7 xs ys) Pn where
 go:=fun i d B2 H2 e s1 s2 s3=>by
  obtain ⟨x,y,ex,ey,rfl⟩:=qcd e
  obtain ⟨v,ev,iv⟩:=hd.get ex
  obtain ⟨u,eu,iu⟩:=he.get ey
  obtain ⟨q1,q2⟩:=hq H2 s2
  refine ⟨⟨vs,us,v,u,.inl q1,.inl q2,ev,eu⟩,fun z H3 ⟨p,v',u',e1,e2,e3,e4,e5⟩=>?_⟩
  have t1:=e3 vs (.inl q1)
  rw [ev] at t1
  cases t1
  have t2:=e4 us (.inl q2)
  rw [eu] at t2
  cases t2
  subst e1 e5
  have sm:qA5 B2 (upd B2 p (.tup [v,u])):=fun b w z=>by rw [qAr (qAn z (s3.free e2))];exact z
  exact ⟨_,Grow.newB s3 e2,p,_,rfl,qAu,v,[u],rfl,IsD.mono sm _ _ (IsD.mono s1 _ _ iv),u,[],rfl,IsD.mono sm _ _ (IsD.mono s1 _ _ iu),rfl⟩
 stop:=fun B2 H2 s1 s2 s3=>by
  obtain ⟨q1,q2⟩:=hq H2 s2
  refine ⟨vs,us,.inl q1,.inl q2,?_⟩
  have l1:=hd.len
  have l2:=he.len
  have l3:(qa7 xs ys).length=min xs.length ys.length:=by unfold qa7;rw [List.length_map,List.length_zip]
  rcases Nat.le_total xs.length ys.length with g | g
  ·exact .inl (List.getElem?_eq_none #[0])
  ·exact .inr (List.getElem?_eq_none #[0])
section
variable {X:Cx}{Ew:XW}{p pos p':Pos}{e:Expr}
theorem qc2 {elts:List Expr}{kk:Nat}{tpos:Pos}{a b:Expr}{ka:qAi→Rs (List W)}(hg:Gl X "zip")(hm:X.mg "zip"=none)(ha:PXa X Ew [a,b] ka)(hs:starEach [a,b] X.env=(false,eval a X.env)::starEach [b] X.env:=by rfl)(hpl:(backTo pos (starEach [b] X.env)).any (·.1)=false:=by rfl) :
  PXc X Ew (.Tuple elts kk tpos) (.Call (.Name "zip" p) [a,b] [] pos) (fun δ=>ka δ>>=zipA):=by
 obtain ⟨ta,h1,h2⟩:=ha
 refine ⟨_,pi_zip hg hm h1 hs hpl,fun B0 F0 P B H σ δ R' r p=>h2 B0 F0 P B H σ δ _ r #[99]⟩
 unfold zipA at p1
 split at p1
 ·rename_i f1 xs f2 ys
  obtain ⟨v1,r1,rfl,q1,v2,r2,rfl,q2,e⟩:=hw
  cases (show r2=[] from e)
  obtain ⟨c,cs,rfl,c1,c2⟩:=q1.rd
  obtain ⟨d,dss,rfl,d1,d2⟩:=q2.rd
  obtain ⟨Pn1,s1,k1⟩:=qbi c1
  obtain ⟨Pn2,s2,k2⟩:=qbi d1
  refine ⟨c,d,rfl,⟨cs,.inl c1⟩,⟨dss,.inl d1⟩,p1 B1 H1 #[44] _ (qLr Pn1 Pn2) (qab (fun H2 s=>⟨k1 H2 fun a o e=>s a o ?_,k2 H2 fun a o e=>s a o ?_⟩) c2 d2) fun a o e=>?_⟩
  ·unfold qLr;rw [e]
  ·unfold qLr
   cases q:Pn1 a with
   | none=>exact e
   | some u=>
    have t1:=s1 a u q
    rw [s2 a o e] at t1
    exact congrArg some (Option.some.inj t1).symm
  ·unfold qLr at e
   split at e
   ·rename_i u q
    cases e
    exact s1 a _ q
   ·exact s2 a o e
 ·exact p1.elim
def qV7 (i j:Nat)(δ:qAi):Rs Fl:=match δ[j]? with
 | some (.own (d::ds))=>.ok (.nx ((δ.set j (.own ds)).set i (.im d)))
 | _=>.no
theorem qZj (i j:Nat){x y:Str}{cpos apos ep:Pos}{k:Nat}(hN:X.N.Nodup)(hi:X.N[i]?=some y:=by rfl)(hj:X.N[j]?=some x:=by rfl)(hx:Loc X.env.scope y:=by first | exact Or.inl rfl | exact Or.inr rfl)(hv:Vis X.env.scope x:=by first | exact Or.inl rfl | exact Or.inr (Or.inl rfl) | exact Or.inr (Or.inr rfl))
  (hd:#[25]=false:=by decide) (hcd:#[48]=false:=by decide)
  (hbase:attributeBase (.Name x p) "pop" X.env (eval (.Name x p) X.env)=eval (.Name x p) X.env:=by rfl) (hline:#[79]=true:=by rfl)
  (hfew:((backTo cpos (starEach [.Constant (.int 0) k ep] X.env)).all (fun x=>!x.1) && #[91].all (fun x=>x.1.isSome)
   && decide ([Expr.Constant (.int 0) k ep].length + ([]:List Keyword).length + #[90] < 30))=true:=by rfl)
  (hst:starEach [.Constant (.int 0) k ep] X.env=(false,eval (.Constant (.int 0) k ep) X.env)::starEach [] X.env:=by rfl) (hplain:(backTo cpos #[39]).any (·.1)=false:=by rfl)
  (hs:swapsWith (.Call (.Attribute (.Name x p) "pop" apos) [.Constant (.int 0) k ep] [] cpos) (some (.Name y p')) pos.line X.env=pure false:=by rfl)
  (hf:X.fn y=true∨X.env.scope.names.lookup y=some .local:=by first | exact .inl rfl | exact .inr rfl | assumption) :
  PSX X Ew [i] (.Assign [.Name y p'] (.Call (.Attribute (.Name x p) "pop" apos) [.Constant (.int 0) k ep] [] cpos) pos) (qV7 i j):=by
 refine ⟨_,qJw hN hi hx (qZw PySem.F.plainAttrs_list PySem.F.slot_list_pop PySem.F.type_list_pop qZ1 (qC5 hj hv hd hcd) (qCq qbo qD8 hst) hbase hfew hline hst hplain) hs hf,fun B0 F0 P B H σ δ D r q=>?_⟩
 unfold qV7 at q
 split at q
 ·rename_i d ds ej
  obtain ⟨a,vs,e1,e2,e3,e4,e5,e6⟩:=r.sl j _ ej
  obtain ⟨v,rs,rfl,hv,hrs⟩:=id e6
  refine ⟨.ref a,e1,.inl ⟨rfl,v::rs,SqL.of e5⟩,a,v::rs,0,0,v,rfl,rfl,e5,by decide,by decide,?_,rfl,?_⟩
  ·unfold seqIndex?
   simp
  ·have r1:=r.put (ds:=d::ds) (es:=ds) (vs:=v::rs) (us:=rs) ej e1 hrs
   exact q B _ _ (r1.im hv) qHa
 ·exact q.elim
theorem qUs {prog:Program}{w:World}{A:Around}{E:Value→Shared→Prop}{s:Shared}{l b:Addr}{vs ws:List Value}{Q:Value→Shared→Prop}(hl:s.heap.IsList l vs.toArray)(hb:s.heap.IsList b ws.toArray)
  (hsz:vs.length + ws.length≤sizeLine) (h:Q #[52] { s with heap:=s.heap.push { cls:=.type "list",data:=.seq (vs++ws).toArray } }) :
  wpAny #[22] A (binaryOp .Add (.ref l) (.ref b)) Q E s:=by
 obtain ⟨⟨cls,dd,data,sl⟩,ho,hc,n,hd⟩:=id hl
 obtain ⟨⟨cls2,dd2,data2,sl2⟩,ho2,hc2,n2,hd2⟩:=id hb
 simp only at hc hd hc2 hd2
 subst hc hd hc2 hd2
 have e:vs.toArray++ws.toArray=(vs++ws).toArray:=by simp
 refine concat_meets ⟨_,ho,rfl⟩ ⟨_,ho2,rfl⟩ noFill_list_add seq_list_add PySem.F.slot_list_add PySem.F.entry_list_add (PySem.F.args_list_add_2 _ _) (list_addW l b vs.toArray ws.toArray n n2 dd dd2 sl sl2 (by simpa using hsz)) ⟨ho,ho2,?_⟩
 rw [e]
 exact h
def addL:W→W→Rs W
 | .im (.lst xs),.li _ ys=>if xs.length + ys.length≤lim then .ok (.li true (xs++ys)) else .no
 | _,_=>.no
theorem qSj:OpR X (binaryOp .Add) (rW X.K Ew addL):=by
 intro pins s σ H x y v u Q I rx ry ⟨B,w1,w2,hs,h1,h2,p⟩
 unfold addL at p
 split at p
 ·rename_i xs f ys
  split at p
  ·rename_i hl
   obtain ⟨a,vs,rfl,e2,e3⟩:=h1
   obtain ⟨b,us,rfl,e2',e3'⟩:=h2
   have l1:=e3.len;have l2:=e3'.len
   cases rx
   cases ry
   obtain ⟨its,r,pl,_⟩:=I.list (hs.seq e2)
   obtain ⟨its2,r2,pl2,_⟩:=I.list (.inl e2')
   have k1:=r.length;have k2:=r2.length
   have hlim:sizeLine=lim:=qDg
   refine qUs pl.isList pl2.isList #[0] ⟨.ref _,_,I.lnew (t':=s.toks) (r.append r2) (by rw [List.length_append];omega),rfl,?_⟩
   exact p B _ (Grow.new hs I.fresh (hs.free I.fresh)) _ ⟨_,vs++us,rfl,I.fresh,hs.free I.fresh,qAu,e3.app e3'⟩
  ·exact p.elim
 ·exact p.elim
end
end PD
theorem PySem.W.Fast.tw2782626411493483619:True:=trivial
theorem PySem.W.Fast.tw9751820533157560860:True:=trivial
theorem PySem.W.Fast.tw1069973180986299131:True:=trivial
theorem PySem.W.Fast.tw15390257860763792456:True:=trivial
theorem PySem.W.Fast.tw5160467223820373124:True:=trivial
theorem PySem.W.Fast.tw17663967184103132184:True:=trivial
theorem PySem.W.Fast.tw15808189926884607415:True:=trivial
theorem PySem.W.Fast.tw17755935747889847880:True:=trivial
theorem PySem.W.Fast.tw5993290996065949050:True:=trivial
theorem PySem.W.Fast.tw11886108206257606259:True:=trivial
theorem PySem.W.Fast.tw12915613559522512312:True:=trivial
theorem PySem.W.Fast.tw1034401423689190116:True:=trivial
theorem PySem.W.Fast.tw4355632553374373329:True:=trivial
theorem PySem.W.Fast.tw13227913276930316672:True:=trivial
theorem PySem.W.Fast.tw8129202627839025612:True:=trivial
theorem PySem.W.Fast.tw3592291849046138385:True:=trivial
theorem PySem.W.Fast.tw9652146247053926749:True:=trivial
theorem PySem.W.Fast.tw10817957731508942745:True:=trivial
theorem PySem.W.Fast.tw2623163510752122724:True:=trivial
theorem PySem.W.Fast.tw5043124498179235770:True:=trivial
theorem PySem.W.Fast.tw7777317379709486878:True:=trivial
theorem PySem.W.Fast.tw11343333471737673502:True:=trivial
theorem PySem.W.Fast.tw16359574044167033119:True:=trivial
theorem PySem.W.Fast.tw13136266685769552797:True:=trivial
theorem PySem.W.Fast.tw16724221056952830355:True:=trivial
theorem PySem.W.Fast.tw9555046672812961854:True:=trivial
theorem PySem.W.Fast.tw14612807104695523870:True:=trivial
theorem PySem.W.Fast.tw10971204122862004774:True:=trivial
theorem PySem.W.Fast.tw13623663074458479051:True:=trivial
theorem PySem.W.Fast.tw2258868385328936969:True:=trivial
theorem PySem.W.Fast.tw231514339811639834:True:=trivial
theorem PySem.W.Fast.tw16726678486462865141:True:=trivial
theorem PySem.W.Fast.tw17166879007790221404:True:=trivial
theorem PySem.W.Fast.tw17677767091854286934:True:=trivial
theorem PySem.W.Fast.tw16378767018718042823:True:=trivial
theorem PySem.W.Fast.tw18322428291183295521:True:=trivial
theorem PySem.W.Fast.tw1319420627176740158:True:=trivial
theorem PySem.W.Fast.tw12062998128965475195:True:=trivial
theorem PySem.W.Fast.tw2068567264782008989:True:=trivial
theorem PySem.W.Fast.tw4511613131877420864:True:=trivial
theorem PySem.W.Fast.tw17945922466367006408:True:=trivial
theorem PySem.W.Fast.tw3232586188478532887:True:=trivial
theorem PySem.W.Fast.tw10510289792723212675:True:=trivial
theorem PySem.W.Fast.tw4154740939192251124:True:=trivial
theorem PySem.W.Fast.tw11884781826557391142:True:=trivial
theorem PySem.W.Fast.tw10537620191090110670:True:=trivial
theorem PySem.W.Fast.tw4141168710365988194:True:=trivial
theorem PySem.W.Fast.tw4135000434860902657:True:=trivial
theorem PySem.W.Fast.tw9746424563974385914:True:=trivial
theorem PySem.W.Fast.tw7935453215604011958:True:=trivial
theorem PySem.W.Fast.tw5881035465888655415:True:=trivial
theorem PySem.W.Fast.tw8260325826164931845:True:=trivial
theorem PySem.W.Fast.tw1644353438287018190:True:=trivial
theorem PySem.W.Fast.tw8550414025155757242:True:=trivial
theorem PySem.W.Fast.tw14332261620849670372:True:=trivial
theorem PySem.W.Fast.tw3457001053251990660:True:=trivial
theorem PySem.W.Fast.tw18107269644558790359:True:=trivial
theorem PySem.W.Fast.tw3368130980587242949:True:=trivial
theorem PySem.W.Fast.tw2400043257581173166:True:=trivial
theorem PySem.W.Fast.tw9966449817509819897:True:=trivial
theorem PySem.W.Fast.tw16171153413522763758:True:=trivial
theorem PySem.W.Fast.tw1432923105738669483:True:=trivial
theorem PySem.W.Fast.tw17209902733386342310:True:=trivial
theorem PySem.W.Fast.tw2926356770833151734:True:=trivial
theorem PySem.W.Fast.tw14766755901443285239:True:=trivial
theorem PySem.W.Fast.tw4477823265424021825:True:=trivial
theorem PySem.W.Fast.tw1451478758768338493:True:=trivial
theorem PySem.W.Fast.tw15871943770197159217:True:=trivial
theorem PySem.W.Fast.tw11404153433220208781:True:=trivial
theorem PySem.W.Fast.tw8012905423574254499:True:=trivial
theorem PySem.W.Fast.tw6543799160845931535:True:=trivial
theorem PySem.W.Fast.tw9036953994235083561:True:=trivial
theorem PySem.W.Fast.tw8386845799283118392:True:=trivial
open PySem PySem.W PyProof.Rows
open_top hd09 for PySem.Challenge.rw_loaders_k09_whole_rings
namespace T09
open PySem PySem.Spec PyProof.Rows L2 PD
def top (i:Nat):Stmt:=PySem.Challenge.pw_loaders_k09_whole_rings.main.body.getD i (.Pass ⟨0,0,0,0⟩)
abbrev qJh:Stmt:=top 7
abbrev qLa:Stmt:=top 8
abbrev qJg:Stmt:=top 9
abbrev qF5:Stmt:=top 10
abbrev qIc:Stmt:=top 11
abbrev qR2:Stmt:=top 12
abbrev qIb:Stmt:=top 13
abbrev qJk:Stmt:=top 14
abbrev qHp:Stmt:=top 15
abbrev qOi:Stmt:=top 16
abbrev qHn:Stmt:=top 17
abbrev qHo:Stmt:=top 18
abbrev qJi:Stmt:=top 19
abbrev qOk:Stmt:=top 20
abbrev qOh:Stmt:=top 22
abbrev qVh:Stmt:=top 23
abbrev qQz:Stmt:=top 24
abbrev qLb:Stmt:=top 25
abbrev qJj:Stmt:=top 26
abbrev qLc:Stmt:=top 27
abbrev qLd:Stmt:=top 28
abbrev qEx:Stmt:=top 29
abbrev qOj:Stmt:=top 30
abbrev qOg:Stmt:=top 32
abbrev qK8:Stmt:=top 33
abbrev qEf:Stmt:=top 35
abbrev qEw:Stmt:=top 36
abbrev qGp:Stmt:=top 37
abbrev qVi:Stmt:=top 38
abbrev qK9:Stmt:=top 40
abbrev qGo:Stmt:=top 41
abbrev qGq:Stmt:=top 42
abbrev qOf:Stmt:=top 43
abbrev qR1:Stmt:=top 44
abbrev qbf:Stmt:=top 45
abbrev qF6:Stmt:=top 46
abbrev qJn:Stmt:=top 48
abbrev qOn:Stmt:=top 49
abbrev qR3:Stmt:=top 50
abbrev qOm:Stmt:=top 51
abbrev qVj:Stmt:=top 52
abbrev qMq:Stmt:=top 53
abbrev qOl:Stmt:=top 54
abbrev qR4:Stmt:=top 55
abbrev qVk:Stmt:=top 56
abbrev qMp:Stmt:=top 57
abbrev qJm:Stmt:=top 58
abbrev qF7:Stmt:=top 59
abbrev qJo:Stmt:=top 60
abbrev qR5:Stmt:=top 61
abbrev qLe:Stmt:=top 62
abbrev qJl:Stmt:=top 63
abbrev qFv:Stmt:=top 64
abbrev qTw:Stmt:=top 65
structure Txt (w:World) (K:PySem.W.Frag) (mg:Str→Option Value):Prop where
 b_all:mg "all"=none
 b_any:mg "any"=none
 b_bool:mg "bool"=none
 b_enumerate:mg "enumerate"=none
 b_int:mg "int"=none
 b_isinstance:mg "isinstance"=none
 b_len:mg "len"=none
 b_list:mg "list"=none
 b_range:mg "range"=none
 b_reversed:mg "reversed"=none
 b_set:mg "set"=none
 b_sorted:mg "sorted"=none
 b_str:mg "str"=none
 b_tuple:mg "tuple"=none
 b_zip:mg "zip"=none
 g_LETTERS:∃ t,mg "LETTERS"=some (.str "abcdefghijklmnopqrstuvwxyz" t)
 g_WORDS_BEHIND:qev w K mg "WORDS_BEHIND" [("read",3),("need",1),("note",1),("fail",1)]
 t_is_number:Has K mg "is_number" qJh
 t_is_tuple:Has K mg "is_tuple" qLa
 t_is_word:Has K mg "is_word" qJg
 t_are_words:Has K mg "are_words" qF5
 t_are_unlike:Has K mg "are_unlike" qIc
 t_is_row:Has K mg "is_row" qR2
 t_fits_above:Has K mg "fits_above" qIb
 t_are_faces:Has K mg "are_faces" qJk
 t_are_rows:Has K mg "are_rows" qHp
 t_is_file:Has K mg "is_file" qOi
 t_names_on:Has K mg "names_on" qHn
 t_is_shelf:Has K mg "is_shelf" qHo
 t_is_loader:Has K mg "is_loader" qJi
 t_checked:Has K mg "checked" qOk
 t_line_to:Has K mg "line_to" qOh
 t_found:Has K mg "found" qVh
 t_filed:Has K mg "filed" qQz
 t_is_found:Has K mg "is_found" qLb
 t_classes:Has K mg "classes" qJj
 t_is_class:Has K mg "is_class" qLc
 t_class_in:Has K mg "class_in" qLd
 t_checked_class:Has K mg "checked_class" qEx
 t_file_of:Has K mg "file_of" qOj
 t_reached:Has K mg "reached" qOg
 t_way_back:Has K mg "way_back" qK8
 t_names_above:Has K mg "names_above" qEf
 t_fault_of_name:Has K mg "fault_of_name" qEw
 t_fault_above:Has K mg "fault_above" qGp
 t_fault:Has K mg "fault" qVi
 t_steps_of:Has K mg "steps_of" qK9
 t_name_needed:Has K mg "name_needed" qGo
 t_arrows_from:Has K mg "arrows_from" qGq
 t_ring_at:HasL K mg "ring_at" qOf
 t_needed:HasL K mg "needed" qR1
 t_ring:Has K mg "ring" qbf
 t_all_rings:Has K mg "all_rings" qF6
 t_L_cell_at:Has K mg "_law_cell_at" qJn
 t_L_mixed:Has K mg "_law_mixed" qOn
 t_L_word:Has K mg "_law_word" qR3
 t_L_names:Has K mg "_law_names" qOm
 t_L_row:Has K mg "_law_row" qVj
 t_L_file:Has K mg "_law_file" qMq
 t_L_world:Has K mg "_law_world" qOl
 t_L_line:Has K mg "_law_line" qR4
 t_L_on:Has K mg "_law_on" qVk
 t_L_find:Has K mg "_law_find" qMp
 t_L_file_of:Has K mg "_law_file_of" qJm
 t_L_classes:Has K mg "_law_classes" qF7
 t_L_above:Has K mg "_law_above" qJo
 t_L_flaw:Has K mg "_law_flaw" qR5
 t_L_arrows:Has K mg "_law_arrows" qLe
 t_L_reach:Has K mg "_law_reach" qJl
 t_L_comes_back:Has K mg "_law_comes_back" qFv
 t_law:Has K mg "law" qTw
variable {P:Program}{w:World}{K:PySem.W.Frag}{mg:Str→Option Value}{base:Heap}
set_option hygiene false
local macro_rules | `(tactic| norm_cast) => `(tactic| exact ⟨rfl, rfl, rfl, by decide +kernel, rfl, by decide +kernel, by decide +kernel⟩)
local macro_rules | `(tactic| and_intros) => `(tactic| (intro _ _ _ _ _ _ us hl; first | (obtain ⟨_, rfl⟩ := ll1 hl; rfl) | (obtain ⟨_, _, rfl⟩ := ll2 hl; rfl) | (obtain ⟨_, _, _, rfl⟩ := ll3 hl; rfl) | (obtain ⟨_, _, _, _, rfl⟩ := ll4 hl; rfl) | (obtain ⟨_, _, _, _, _, rfl⟩ := ll5 hl; rfl) | (obtain ⟨_, _, _, _, _, _, rfl⟩ := ll6 hl; rfl)))
set_option hygiene true
def qKa:qAi→Rs Fl:=
 (qBb (ifF (orB (qGb (qAd (qAd #[2] (qYi "int")) W.tru)) (qAd (qAd #[2] (qYi "bool")) W.tru)) #[69] qCw)
  (qBw (qF0 leW leW (var 1) #[2] (var 2))))
def qC7:List W→Rs W:=mir ["thing","least","most"] qKa
theorem qN7:FnScope ["thing","least","most"] ["thing","least","most"] (qAg qJh):=by norm_cast
theorem qGj (T:Txt w K mg):FnD P w K mg base 1 "is_number" 3 qC7:=by
 have sc:=qN7
 refine qBi (k:=0) (h:=qKa) (ps:=["thing","least","most"]) T.t_is_number sc #[5] #[13] fun f cdv A outer s H E hr=>?_
 exact ⟨_,(qAf (qBe (PXw.t (qId (qCo (qBx (qSf (ty_int _) boot_int rfl T.b_isinstance rfl T.b_int (qAb 0)))) (qF9 (qBx (qSf (qch _) boot_bool rfl T.b_isinstance rfl T.b_bool (qAb 0)))))) #[70] qA2)
  (qAj (qAp (qSg qLn qLn (qAb 1) (qAb 0) (qAb 2)))))⟩
def qLy:qAi→Rs Fl:=
 (qBw (qK5 (qAd #[2] (qYi "tuple")) (qF0 leW leW (var 1) (qAd #[23] qIs) (var 2))))
def qBz:List W→Rs W:=mir ["thing","least","most"] qLy
theorem qQs:FnScope ["thing","least","most"] ["thing","least","most"] (qAg qLa):=by norm_cast
theorem qCv (T:Txt w K mg):FnD P w K mg base 1 "is_tuple" 3 qBz:=by
 have sc:=qQs
 refine qBi (k:=0) (h:=qLy) (ps:=["thing","least","most"]) T.t_is_tuple sc #[5] #[13] fun f cdv A outer s H E hr=>?_
 exact ⟨_,(qAj (qAp (qD7 (qSf (qYp _) boot_tuple rfl T.b_isinstance rfl T.b_tuple (qAb 0)) (qE0 (qSg qLn qLn (qAb 1) #[80] (qAb 2))))))⟩
def qPf:qAi→Rs Fl:=
 (qBb (ifF (orB (qGb (qAd (qAd #[2] (qYi "str")) W.tru)) (qGb (qAd (qF0 leW leW #[9] (qAd #[23] qIs) (toW (cst (.int 6)))) W.bool))) #[69] qCw)
  (qBw (qAd (qAc (qB4 (qAd #[2] W.walk) #[43] (qBc (qAm inW #[2] (toW (cst (.str "abcdefghijklmnopqrstuvwxyz")))))) qAz) qUq)))
def qDd:List W→Rs W:=mir ["thing"] qPf
theorem qTm:FnScope ["thing"] ["thing"] (qAg qJg):=by norm_cast
theorem qFf (T:Txt w K mg):FnD P w K mg base 1 "is_word" 1 qDd:=by
 have sc:=qTm
 refine qBi (k:=0) (h:=qPf) (ps:=["thing"]) T.t_is_word sc #[5] #[13] fun f cdv A outer s H E hr=>?_
 exact ⟨_,(qAf (qBe (PXw.t (qId (qCo (qBx (qSf (ty_str _) boot_str rfl T.b_isinstance rfl T.b_str (qAb 0)))) (qF9 (qCo (qVt qLn qLn #[4] #[80] #[4]))))) #[70] qA2)
  (qAj (qAp (qBp (qFh rfl) rfl T.b_all boot_all (qAa (qCy rfl sc.nd (qBa (qAg qJg) ["thing"] rfl rfl #[19]) (qCp (qAb 0)) (fun _ _ _ _ _=>qCx) (fun _ _ _ _ _=>(PX.d (qCz (qIg (qUu hr)) (qAb 0) (PXd.w (qc3 rfl T.g_LETTERS.choose_spec ⟨_,rfl⟩)) #[65])))) qAe)))))⟩
def qKc:qAi→Rs Fl:=
 (qBw (qAd (qAc (qB4 (qAd #[2] W.walk) #[43] (qBc (qAo qDd 1 #[23]))) qAz) qUq))
def qC8:List W→Rs W:=mir ["things"] qKc
theorem qN9:FnScope ["things"] ["things"] (qAg qF5):=by norm_cast
theorem qGk (T:Txt w K mg):FnD P w K mg base 2 "are_words" 1 qC8:=by
 have sc:=qN9
 refine qBi (k:=1) (h:=qKc) (ps:=["things"]) T.t_are_words sc #[5] #[13] fun f cdv A outer s H E hr=>?_
 exact ⟨_,(qAj (qAp (qBp (qFh rfl) rfl T.b_all boot_all (qAa (qCy rfl sc.nd (qBa (qAg qF5) ["things"] rfl rfl #[19]) (qCp (qAb 0)) (fun _ _ _ _ _=>qCx) (fun _ _ _ _ _=>(PX.d (qAl (qFf T) #[6] rfl #[54] rfl)))) qAe))))⟩
def qIk:qAi→Rs Fl:=
 (qBw (qAm eqW (qAd #[2] qG1) (qAd #[23] qIs)))
def qDz:List W→Rs W:=mir ["words"] qIk
theorem qMo:FnScope ["words"] ["words"] (qAg qIc):=by norm_cast
theorem qIl (T:Txt w K mg):FnD P w K mg base 1 "are_unlike" 1 qDz:=by
 have sc:=qMo
 refine qBi (k:=0) (h:=qIk) (ps:=["words"]) T.t_are_unlike sc #[5] #[13] fun f cdv A outer s H E hr=>?_
 exact ⟨_,(qAj (qAp (qCz #[40] (qOr rfl rfl T.b_len rfl T.b_set (qAb 0)) #[80] (qA6 _))))⟩
def qSt:qAi→Rs Fl:=
 (qBb (ifF (orB (qGb (qAd (qAo qBz 3 (qAc #[2] (qAc #[27] (qAc #[53] qAz)))) W.tru)) (qGb (qAd (qAo qDd 1 (qAc (qAm ixW #[2] #[11]) qAz)) W.tru))) #[69] qCw)
  (qBb (ifF (qAd (qAm eqW (qAm ixW #[2] #[11]) (toW (cst (.str "put")))) W.bool) (qBw (qK5 (qAm eqW (qAd #[23] qIs) #[63]) (qK5 (qAo qDd 1 (qAc (qAm ixW #[2] #[9]) qAz)) (qAo qC7 3 (qAc (qAm ixW #[2] #[27]) (qAc #[11] (qAc (toW (cst (.int 99))) qAz))))))) qCw)
  (qBw (qK5 (qAm eqW (qAd (qAm ixW #[2] #[11]) (qPp [("read",3),("need",1),("note",1),("fail",1)])) (qAm qbe (qAd #[23] qIs) #[9])) (qAo qC8 1 (qAc (qD5 #[2] (part #[9]) qC6) qAz))))))
def qGw:List W→Rs W:=mir ["thing"] qSt
theorem qVb:FnScope ["thing"] ["thing"] (qAg qR2):=by norm_cast
theorem qap (T:Txt w K mg):FnD P w K mg base 3 "is_row" 1 qGw:=by
 have sc:=qVb
 refine qBi (k:=2) (h:=qSt) (ps:=["thing"]) T.t_is_row sc #[5] #[13] fun f cdv A outer s H E hr=>?_
 exact ⟨_,(qAf (qBe (PXw.t (qId (qCo (qBx #[89])) (qF9 (qCo (qBx (qAl (qFf T) #[6] rfl (qAa #[32] qAe) rfl)))))) #[70] qA2)
  (qAf (qBe (qAy #[40] #[32] (PXd.w qBo) (qA6 _)) (qAj (qAp (qD7 (qCz #[40] #[80] #[4] (qA6 _)) (qD7 (qAl (qFf T) #[6] rfl (qAa #[32] qAe) rfl) (qE0 (qAl (qGj T) #[6] rfl (qAa #[32] (qAa #[4] (qAa #[4] qAe))) rfl)))))) qA2)
  (qAj (qAp (qD7 (qCz #[40] (qV0 T.g_WORDS_BEHIND rfl #[32] ⟨rfl,rfl,rfl,rfl⟩) (qBl qMz #[80] #[4]) (qA6 _)) (qE0 (qAl (qGk T) #[6] rfl (qAa (qDj (qAb 0) (qDh #[4]) qDi) qAe) rfl)))))))⟩
def qIj:qAi→Rs Fl:=
 (qBb (ifF (qAd (qAm isW (var 1) #[16]) W.bool) (qBw (qAm inW #[2] (toW (qAd (qAw (cst (.str "class")) (qAw (cst (.str "face")) qB9)) qB0)))) qCw)
  (qBw (qK5 (qAm eqW #[2] (toW (cst (.str "class")))) (qAo qDd 1 (qAc (var 1) qAz)))))
def qE8:List W→Rs W:=mir ["kind","above"] qIj
theorem qMn:FnScope ["kind","above"] ["kind","above"] (qAg qIb):=by norm_cast
theorem qPw (T:Txt w K mg):FnD P w K mg base 2 "fits_above" 2 qE8:=by
 have sc:=qMn
 refine qBi (k:=1) (h:=qIj) (ps:=["kind","above"]) T.t_fits_above sc #[5] #[13] fun f cdv A outer s H E hr=>?_
 exact ⟨_,(qAf (qBe (qAy qIf (qAb 1) #[28] (qA6 _)) (qAj (qAp (qCz (qIg (qUu hr)) (qAb 0) (PXd.w (qB3 (qAk qBo (qAk qBo qAt)))) #[65]))) qA2)
  (qAj (qAp (qD7 (qCz #[40] (qAb 0) (PXd.w qBo) (qA6 _)) (qE0 (qAl (qFf T) #[6] rfl (qAa (qAb 1) qAe) rfl))))))⟩
def qKd:qAi→Rs Fl:=
 (qBw (qK5 (qAo qBz 3 (qAc #[2] (qAc #[11] (qAc #[27] qAz)))) (qK5 (qAo qC8 1 #[23]) (qAo qDz 1 #[23]))))
def qGd:List W→Rs W:=mir ["thing"] qKd
theorem qOa:FnScope ["thing"] ["thing"] (qAg qJk):=by norm_cast
theorem qRg (T:Txt w K mg):FnD P w K mg base 3 "are_faces" 1 qGd:=by
 have sc:=qOa
 refine qBi (k:=2) (h:=qKd) (ps:=["thing"]) T.t_are_faces sc #[5] #[13] fun f cdv A outer s H E hr=>?_
 exact ⟨_,(qAj (qAp (qD7 #[89] (qD7 (qAl (qGk T) #[6] rfl #[54] rfl) (qE0 (qAl (qIl T) #[6] rfl #[54] rfl))))))⟩
def qL3:qAi→Rs Fl:=
 (qBw (qK5 (qAo qBz 3 (qAc #[2] (qAc #[11] (qAc (toW (cst (.int 5))) qAz)))) (qAd (qAc (qB4 (qAd #[2] W.walk) #[43] (qBc (qAo qGw 1 #[23]))) qAz) qUq)))
def qH0:List W→Rs W:=mir ["thing"] qL3
theorem qQx:FnScope ["thing"] ["thing"] (qAg qHp):=by norm_cast
theorem qUj (T:Txt w K mg):FnD P w K mg base 4 "are_rows" 1 qH0:=by
 have sc:=qQx
 refine qBi (k:=3) (h:=qL3) (ps:=["thing"]) T.t_are_rows sc #[5] #[13] fun f cdv A outer s H E hr=>?_
 exact ⟨_,(qAj (qAp (qD7 #[89] (qE0 (qBp (qFh rfl) rfl T.b_all boot_all (qAa (qCy rfl sc.nd (qBa (qAg qHp) ["thing"] rfl rfl #[19]) (qCp (qAb 0)) (fun _ _ _ _ _=>qCx) (fun _ _ _ _ _=>(PX.d (qAl (qap T) #[6] rfl #[54] rfl)))) qAe))))))⟩
def qPg:qAi→Rs Fl:=
 (qBb (ifF (orB (qGb (qAd (qAo qBz 3 (qAc #[2] (qAc (toW (cst (.int 5))) (qAc (toW (cst (.int 5))) qAz)))) W.tru)) (qGb (qAd (qAo qC8 1 (qAc (qD5 #[2] qC6 (part #[27])) qAz)) W.tru))) #[69] qCw)
  (qBw (qK5 (qAo qE8 2 (qAc (qAm ixW #[2] #[11]) (qAc (qAm ixW #[2] #[27]) qAz))) (qK5 (qAo qGd 1 (qAc (qAm ixW #[2] #[63]) qAz)) (qAo qH0 1 (qAc (qAm ixW #[2] #[53]) qAz))))))
def qEa:List W→Rs W:=mir ["thing"] qPg
theorem qTn:FnScope ["thing"] ["thing"] (qAg qOi):=by norm_cast
theorem qXn (T:Txt w K mg):FnD P w K mg base 5 "is_file" 1 qEa:=by
 have sc:=qTn
 refine qBi (k:=4) (h:=qPg) (ps:=["thing"]) T.t_is_file sc #[5] #[13] fun f cdv A outer s H E hr=>?_
 exact ⟨_,(qAf (qBe (PXw.t (qId (qCo (qBx #[89])) (qF9 (qCo (qBx (qAl (qGk T) #[6] rfl (qAa (qDj (qAb 0) qDi (qDh #[4])) qAe) rfl)))))) #[70] qA2)
  (qAj (qAp (qD7 (qAl (qPw T) #[6] rfl (qAa #[32] (qAa #[32] qAe)) rfl) (qD7 (qAl (qRg T) #[6] rfl (qAa #[32] qAe) rfl) (qE0 (qAl (qUj T) #[6] rfl (qAa #[32] qAe) rfl)))))))⟩
def qLx:qAi→Rs Fl:=
 (qBw (qB4 (qAd #[2] W.walk) #[43] (qBc (qAm ixW #[2] #[9]))))
def qCn:List W→Rs W:=mir ["shelf"] qLx
theorem qQr:FnScope ["shelf"] ["shelf"] (qAg qHn):=by norm_cast
theorem qFo (T:Txt w K mg):FnD P w K mg base 1 "names_on" 1 qCn:=by
 have sc:=qQr
 refine qBi (k:=0) (h:=qLx) (ps:=["shelf"]) T.t_names_on sc #[5] #[13] fun f cdv A outer s H E hr=>?_
 exact ⟨_,(qAj (qAp (qCy rfl sc.nd (qBa (qAg qHn) ["shelf"] rfl rfl #[19]) (qCp (qAb 0)) (fun _ _ _ _ _=>qCx) (fun _ _ _ _ _=>(PX.d #[32])))))⟩
def qLz:qAi→Rs Fl:=
 (qBb (ifF (orB (qGb (qAd (qAo qBz 3 (qAc #[2] (qAc #[11] (qAc #[53] qAz)))) W.tru)) (qGb (qAd (qAd (qAc (qB4 (qAd #[2] W.walk) #[43] (qBc (qAo qEa 1 #[23]))) qAz) qUq) W.tru))) #[69] qCw)
  (qBw (qAo qDz 1 (qAc (qAo qCn 1 #[23]) qAz))))
def qHx:List W→Rs W:=mir ["thing"] qLz
theorem qQt:FnScope ["thing"] ["thing"] (qAg qHo):=by norm_cast
theorem qUg (T:Txt w K mg):FnD P w K mg base 6 "is_shelf" 1 qHx:=by
 have sc:=qQt
 refine qBi (k:=5) (h:=qLz) (ps:=["thing"]) T.t_is_shelf sc #[5] #[13] fun f cdv A outer s H E hr=>?_
 exact ⟨_,(qAf (qBe (PXw.t (qId (qCo (qBx #[89])) (qF9 (qCo (qBx (qBp (qFh rfl) rfl T.b_all boot_all (qAa (qCy rfl sc.nd (qBa (qAg qHo) ["thing"] rfl rfl #[19]) (qCp (qAb 0)) (fun _ _ _ _ _=>qCx) (fun _ _ _ _ _=>(PX.d (qAl (qXn T) #[6] rfl #[54] rfl)))) qAe))))))) #[70] qA2)
  (qAj (qAp (qAl (qIl T) #[6] rfl (qAa (qAl (qFo T) #[6] rfl #[54] rfl) qAe) rfl))))⟩
def qKb:qAi→Rs Fl:=
 (qBb (ifF (qGb (qAd (qAo qBz 3 (qAc #[2] (qAc #[27] (qAc #[27] qAz)))) W.tru)) #[69] qCw)
  (qBw (qK5 (orW (qAm isW (qAm ixW #[2] #[11]) #[16]) (qAo qC7 3 (qAc (qAm ixW #[2] #[11]) (qAc #[11] (qAc (qAm qbe (var 1) #[9]) qAz))))) (qAo qHx 1 (qAc (qAm ixW #[2] #[9]) qAz)))))
def qGc:List W→Rs W:=mir ["thing","place"] qKb
theorem qN8:FnScope ["thing","place"] ["thing","place"] (qAg qJi):=by norm_cast
theorem qRe (T:Txt w K mg):FnD P w K mg base 7 "is_loader" 2 qGc:=by
 have sc:=qN8
 refine qBi (k:=6) (h:=qKb) (ps:=["thing","place"]) T.t_is_loader sc #[5] #[13] fun f cdv A outer s H E hr=>?_
 exact ⟨_,(qAf (qBe (qCo (qBx #[89])) #[70] qA2)
  (qAj (qAp (qD7 (px_or (qCz qIf #[32] #[28] (qA6 _)) (qE0 (qAl (qGj T) #[6] rfl (qAa #[32] (qAa #[4] (qAa (qBl qMz (qAb 1) #[4]) qAe))) rfl))) (qE0 (qAl (qUg T) #[6] rfl (qAa #[32] qAe) rfl))))))⟩
def qPj:qAi→Rs Fl:=
 (qBb (ifF (qGb (qAd (qAo qBz 3 (qAc #[2] (qAc #[9] (qAc #[53] qAz)))) W.tru)) noF qCw)
  (qBb (qGi (qAd (qFq 0) qRl) (qYr (qHd (qD6 1) (qHd (qD6 2) qdp)) 2) (ifF (qGb (qAd (qAo qGc 2 (qAc (var 2) (qAc (var 1) qAz))) W.tru)) noF qCw))
  (qBw (qNx 0))))
def qE9:List W→Rs W:=mir ["world","place","loader"] qPj
theorem qTq:FnScope ["world","place","loader"] ["world"] (qAg qOk):=by norm_cast
theorem qPx (T:Txt w K mg):FnD P w K mg base 8 "checked" 1 qE9:=by
 have sc:=qTq
 refine qBi (k:=7) (h:=qPj) (ps:=["world"]) T.t_checked sc #[5] #[13] fun f cdv A outer s H E hr=>?_
 exact ⟨_,(qAf (qBe (qCo (qBx #[89])) (qAj qJv) qA2)
  (qAf (qCf PassesOwn.never rfl (qGs 0 rfl T.b_enumerate) (qHs 2 rfl (qCc (qBn 1 sc.nd) (qCc (qBn 2 sc.nd) qFk))) (qAj (qBe (qCo (qBx (qAl (qRe T) #[6] rfl (qAa (qAb 2) (qAa (qAb 1) qAe)) rfl))) (qAj qJv) qA2)))
  (qAj (qDw 0))))⟩
def qPe:qAi→Rs Fl:=
 (qBb (qCk 2 (qAd qB9 qBt))
  (qBb (qCk 3 (var 1))
  (qBb (qCb (qAd (qAm qC3 (var 3) #[16]) W.bool) (qBb (qI2 2 (qBc (var 3)))
  (qCk 3 (qAm ixW (qAm ixW #[2] (var 3)) #[11]))) 1000)
  (qBw (qAd (var 2) revL)))))
def qGv:List W→Rs W:=mir ["world","loader","line","at"] qPe
theorem qTl:FnScope ["world","loader","line","at"] ["world","loader"] (qAg qOh):=by norm_cast
theorem qXm (T:Txt w K mg):FnD P w K mg base 1 "line_to" 2 qGv:=by
 have sc:=qTl
 refine qBi (k:=0) (h:=qPe) (ps:=["world","loader"]) T.t_line_to sc #[5] #[13] fun f cdv A outer s H E hr=>?_
 exact ⟨_,(qAf (qA1 2 sc.nd (qBs qAt))
  (qAf (qA1 3 sc.nd (qAb 1))
  (qAf (qE1 1000 PassesOwn.never (qAy qCm (qAb 3) #[28] (qA6 _)) (qAf (qCd 2 (PX.d (qAb 3)))
  (qAj (qA1 3 sc.nd (qA7 (qA7 (qAb 0) (qAb 3) #[15]) #[4] #[15])))))
  (qAj (qAp (qTz rfl rfl T.b_list rfl T.b_reversed (qAb 2)))))))⟩
def qW9:qAi→Rs Fl:=
 (qBb (qGi (qAd (qAo qGv 2 #[42]) W.walkN) (qD6 3) (ifF (qAd (qAm inW (var 2) (qAo qCn 1 (qAc (qAm ixW (qAm ixW #[2] (var 3)) #[9]) qAz))) W.bool) (qBw (toW (qAd (qAw (qBc (var 3)) (qAw (qBc (var 2)) qB9)) qB0))) qCw))
  (qBw #[16]))
def qE7:List W→Rs W:=mir ["world","loader","name","number"] qW9
theorem qYy:FnScope ["world","loader","name","number"] ["world","loader","name"] (qAg qVh):=by norm_cast
theorem qRf (T:Txt w K mg):FnD P w K mg base 2 "found" 3 qE7:=by
 have sc:=qYy
 refine qBi (k:=1) (h:=qW9) (ps:=["world","loader","name"]) T.t_found sc #[5] #[13] fun f cdv A outer s H E hr=>?_
 exact ⟨_,(qAf (qCf PassesOwn.never rfl (qEz (qAl (qXm T) #[6] rfl #[55] rfl)) (qBn 3 sc.nd) (qAj (qBe (qAy (qIg (qUu hr)) (qAb 2) (qAl (qFo T) #[6] rfl (qAa (qA7 (qA7 (qAb 0) (qAb 3) #[15]) #[4] #[15]) qAe) rfl) #[65]) (qAj (qAp (PXd.w (qB3 (qAk (PX.d (qAb 3)) (qAk (PX.d (qAb 2)) qAt)))))) qA2)))
  (qAj (qAp #[28])))⟩
def qXa:qAi→Rs Fl:=
 (qBb (qCk 1 (qAd qB9 qBt))
  (qBb (qGi (qAd (qFq 0) qRl) (qYr (qHd (qD6 2) (qHd (qD6 3) qdp)) 2) (qYk 1 (qB4 (qAd (qAo qCn 1 (qAc (qAm ixW (var 3) #[9]) qAz)) W.walk) #[43] (qAd (qAw (qBc (var 3)) (qAw (qBc #[2]) qB9)) qB0))))
  (qBw (qAd (qAc (var 1) qAz) qTg))))
def qM5:List W→Rs W:=mir ["world","things","number","loader"] qXa
theorem qYz:FnScope ["world","things","number","loader"] ["world"] (qAg qQz):=by norm_cast
theorem qeb (T:Txt w K mg):FnD P w K mg base 2 "filed" 1 qM5:=by
 have sc:=qYz
 refine qBi (k:=1) (h:=qXa) (ps:=["world"]) T.t_filed sc #[5] #[13] fun f cdv A outer s H E hr=>?_
 exact ⟨_,(qAf (qA1 1 sc.nd (qBs qAt))
  (qAf (qCf PassesOwn.never rfl (qGs 0 rfl T.b_enumerate) (qHs 2 rfl (qCc (qBn 2 sc.nd) (qCc (qBn 3 sc.nd) qFk))) (qAj (qHt 1 (qCy rfl sc.nd (qBa (qAg qQz) ["world","things","number","loader"] rfl rfl #[19]) (qCp (qAl (qFo T) #[6] rfl (qAa (qA7 (qAb 3) #[4] #[15]) qAe) rfl)) (fun _ _ _ _ _=>qCx) (fun _ _ _ _ _=>(qB3 (qAk (PX.d (qAb 3)) (qAk (PX.d (qAb 0)) qAt))))))))
  (qAj (qAp (qBp qIm rfl T.b_sorted PD.boot_sorted (qAa (qAb 1) qAe))))))⟩
def qL0:qAi→Rs Fl:=
 (qBw (qAm eqW (qAo qE7 3 (qAc #[2] (qAc (qAm ixW (var 1) #[11]) (qAc (qAm ixW (var 1) #[9]) qAz)))) (var 1)))
def qD9:List W→Rs W:=mir ["world","thing"] qL0
theorem qQu:FnScope ["world","thing"] ["world","thing"] (qAg qLb):=by norm_cast
theorem qL6 (T:Txt w K mg):FnD P w K mg base 3 "is_found" 2 qD9:=by
 have sc:=qQu
 refine qBi (k:=2) (h:=qL0) (ps:=["world","thing"]) T.t_is_found sc #[5] #[13] fun f cdv A outer s H E hr=>?_
 exact ⟨_,(qAj (qAp (qCz #[40] (qAl (qRf T) #[6] rfl (qAa (qAb 0) (qAa #[66] (qAa #[66] qAe))) rfl) (qAb 1) (qA6 _))))⟩
def qPi:qAi→Rs Fl:=
 (qBw (qB4 (qAd (qAo qM5 1 (qAc (qAo qE9 1 #[23]) qAz)) W.walk) (qAd (qAo qD9 2 (qAc (var 1) #[23])) W.tru) (qBc #[2])))
def qGx:List W→Rs W:=mir ["world"] qPi
theorem qTp:FnScope ["world"] ["world"] (qAg qJj):=by norm_cast
theorem qXo (T:Txt w K mg):FnD P w K mg base 9 "classes" 1 qGx:=by
 have sc:=qTp
 refine qBi (k:=8) (h:=qPi) (ps:=["world"]) T.t_classes sc #[5] #[13] fun f cdv A outer s H E hr=>?_
 exact ⟨_,(qAj (qAp (qCy rfl sc.nd (qBa (qAg qJj) ["world"] rfl rfl #[19]) (qCp (qAl (qeb T) #[6] rfl (qAa (qAl (qPx T) #[6] rfl #[54] rfl) qAe) rfl)) (fun _ _ _ _ _=>(qEg (qBx (qAl (qL6 T) #[6] rfl (qAa (qAb 1) #[54]) rfl)))) (fun _ _ _ _ _=>(PX.d (qAb 0))))))⟩
def qL1:qAi→Rs Fl:=
 (qBb (ifF (orB (qGb (qAd (qAo qBz 3 (qAc (var 1) (qAc #[27] (qAc #[27] qAz)))) W.tru)) (qGb (qAd (qAo qC7 3 (qAc (qAm ixW (var 1) #[11]) (qAc #[11] (qAc (qAm qbe (qAd #[23] qIs) #[9]) qAz)))) W.tru))) #[69] qCw)
  (qBw (qK5 (qAo qDd 1 (qAc (qAm ixW (var 1) #[9]) qAz)) (qAo qD9 2 #[42]))))
def qHy:List W→Rs W:=mir ["world","thing"] qL1
theorem qQv:FnScope ["world","thing"] ["world","thing"] (qAg qLc):=by norm_cast
theorem qUh (T:Txt w K mg):FnD P w K mg base 4 "is_class" 2 qHy:=by
 have sc:=qQv
 refine qBi (k:=3) (h:=qL1) (ps:=["world","thing"]) T.t_is_class sc #[5] #[13] fun f cdv A outer s H E hr=>?_
 exact ⟨_,(qAf (qBe (PXw.t (qId (qCo (qBx (qAl (qCv T) #[6] rfl (qAa (qAb 1) (qAa #[4] (qAa #[4] qAe))) rfl))) (qF9 (qCo (qBx (qAl (qGj T) #[6] rfl (qAa #[66] (qAa #[4] (qAa (qBl qMz #[80] #[4]) qAe))) rfl)))))) #[70] qA2)
  (qAj (qAp (qD7 (qAl (qFf T) #[6] rfl (qAa #[66] qAe) rfl) (qE0 (qAl (qL6 T) #[6] rfl #[55] rfl))))))⟩
def qL2:qAi→Rs Fl:=
 (qBb (ifF (qGb (qAd (qAo qHy 2 #[42]) W.tru)) noF qCw)
  (qBw (qNx 1)))
def qHz:List W→Rs W:=mir ["world","thing"] qL2
theorem qQw:FnScope ["world","thing"] ["world","thing"] (qAg qLd):=by norm_cast
theorem qUi (T:Txt w K mg):FnD P w K mg base 5 "class_in" 2 qHz:=by
 have sc:=qQw
 refine qBi (k:=4) (h:=qL2) (ps:=["world","thing"]) T.t_class_in sc #[5] #[13] fun f cdv A outer s H E hr=>?_
 exact ⟨_,(qAf (qBe (qCo (qBx (qAl (qUh T) #[6] rfl #[55] rfl))) (qAj qJv) qA2)
  (qAj (qDw 1)))⟩
def qFd:qAi→Rs Fl:=
 (qBw (qAo qHz 2 (qAc (qAo qE9 1 #[23]) (qAc (var 1) qAz))))
def qCi:List W→Rs W:=mir ["world","thing"] qFd
theorem qIq:FnScope ["world","thing"] ["world","thing"] (qAg qEx):=by norm_cast
theorem qKk (T:Txt w K mg):FnD P w K mg base 9 "checked_class" 2 qCi:=by
 have sc:=qIq
 refine qBi (k:=8) (h:=qFd) (ps:=["world","thing"]) T.t_checked_class sc #[5] #[13] fun f cdv A outer s H E hr=>?_
 exact ⟨_,(qAj (qAp (qAl (qUi T) #[6] rfl (qAa (qAl (qPx T) #[6] rfl #[54] rfl) (qAa (qAb 1) qAe)) rfl)))⟩
def qPh:qAi→Rs Fl:=
 (qBb (qCk 2 (qAm ixW (qAm ixW #[2] (qAm ixW (var 1) #[11])) #[9]))
  (qBw (qAm ixW (var 2) (qW5 (qAo qCn 1 (qAc (var 2) qAz)) (qBc (qAm ixW (var 1) #[9]))))))
def qEb:List W→Rs W:=mir ["world","thing","shelf"] qPh
theorem qTo:FnScope ["world","thing","shelf"] ["world","thing"] (qAg qOj):=by norm_cast
theorem qKj (T:Txt w K mg):FnD P w K mg base 2 "file_of" 2 qEb:=by
 have sc:=qTo
 refine qBi (k:=1) (h:=qPh) (ps:=["world","thing"]) T.t_file_of sc #[5] #[13] fun f cdv A outer s H E hr=>?_
 exact ⟨_,(qAf (qA1 2 sc.nd (qA7 (qA7 (qAb 0) #[66] #[15]) #[4] #[15]))
  (qAj (qAp (qA7 (qAb 2) (qVz (qUu hr) (qAl (qFo T) #[6] rfl (qAa (qAb 2) qAe) rfl) (PX.d #[66])) #[15]))))⟩
def qPd (f:Addr)(vw:V)(gl:qAi→Rs W):qAi→Rs Fl:=
 (qBb (qb5 2 (qBc #[2]) (cst (.bl true)))
  (qBb (qCk 3 (qAd (qAw (qBc #[2]) qB9) qBt))
  (qBb (qCb (qAd (var 3) W.tru) (qBb (popF 4 3)
  (qGi (qAd (qX4 1 f vw gl (var 4)) W.walkN) (qD6 5) (ifF (qGb (inJ 2 #[34])) (qBb (qT0 2 (cst (.bl true)) #[34])
  (qI2 3 #[34])) qCw))) 1000)
  (qBw (qU7 2)))))
def qE6 (f:Addr)(vw:V)(gl:qAi→Rs W):List W→Rs W:=mir ["start","leads","seen","waiting","at","thing"] (qPd f vw gl)
theorem qTk:FnScope ["start","leads","seen","waiting","at","thing"] ["start","leads"] (qAg qOg):=by norm_cast
theorem qXl (T:Txt w K mg)(kl:Nat):FnC P w K mg base (kl + 2) kl "reached" qE6:=by
 have sc:=qTk
 refine qby (k:=kl + 1) (h:=qPd) (ps:=["start","leads"]) T.t_reached sc rfl #[13] fun fa f vw gl cdv A outer s H hr C=>?_
 exact ⟨_,(qAf (qV2 2 sc.nd (hu1 hr) (PX.d (qAb 0)) qEt)
  (qAf (qA1 3 sc.nd (qBs (qAk (PX.d (qAb 0)) qAt)))
  (qAf (qE1 1000 PassesOwn.never (qBx (qAb 3)) (qAf (qda 4 3 sc.nd)
  (qAj (qCf PassesOwn.never rfl (qEz (qbl 1 C rfl hr (qAb 4))) (qBn 5 sc.nd) (qAj (qBe (qLg 2 (hu1 hr) (PX.d (qAb 5))) (qAf (qIw 2 (hu1 hr) qEt (PX.d (qAb 5)))
  (qAj (qCd 3 (PX.d (qAb 5))))) qA2))))))
  (qAj (qAp (qZa 2 rfl rfl T.b_sorted))))))⟩
def qLv (f:Addr)(vw:V)(gl:qAi→Rs W):qAi→Rs Fl:=
 (qBb (qeh 2)
  (qBb (qCk 3 (qAd (qAw (qBc (qAd (qAw (qBc #[2]) qB9) qBt)) qB9) qBt))
  (qBb (qCb (qAd (var 3) W.tru) (qBb (qV7 4 3)
  (qGi (qAd (qX4 1 f vw gl (qAm ixW (var 4) (qAd #[9] qWi))) W.walkN) (qD6 5) (qBb (ifF (qAd (qAm eqW (var 5) #[2]) W.bool) (qBw (qAm addL (var 4) (qAd (qAw #[34] qB9) qBt))) qCw)
  (ifF (qGb (inJ 2 #[34])) (qBb (qT0 2 (cst (.bl true)) #[34])
  (qI2 3 (qBc (qAm addL (var 4) (qAd (qAw #[34] qB9) qBt))))) qCw)))) 1000)
  (qBw #[16]))))
def qFm (f:Addr)(vw:V)(gl:qAi→Rs W):List W→Rs W:=mir ["start","leads","seen","ways","way","thing"] (qLv f vw gl)
theorem qQp:FnScope ["start","leads","seen","ways","way","thing"] ["start","leads"] (qAg qK8):=by norm_cast
theorem qUe (T:Txt w K mg)(kl:Nat):FnC P w K mg base (kl + 2) kl "way_back" qFm:=by
 have sc:=qQp
 refine qby (k:=kl + 1) (h:=qLv) (ps:=["start","leads"]) T.t_way_back sc rfl #[13] fun fa f vw gl cdv A outer s H hr C=>?_
 exact ⟨_,(qAf (qOs 2 sc.nd)
  (qAf (qA1 3 sc.nd (qBs (qAk (PX.d (qBs (qAk (PX.d (qAb 0)) qAt))) qAt)))
  (qAf (qE1 1000 PassesOwn.never (qBx (qAb 3)) (qAf (qZj 4 3 sc.nd)
  (qAj (qCf PassesOwn.never rfl (qEz (qbl 1 C rfl hr (qA7 (qAb 4) (qSe #[4]) #[15]))) (qBn 5 sc.nd) (qAf (qBe (qAy #[40] (qAb 5) (qAb 0) (qA6 _)) (qAj (qAp (qBl qSj (qAb 4) (qBs (qAk (PX.d (qAb 5)) qAt))))) qA2)
  (qAj (qBe (qLg 2 (hu1 hr) (PX.d (qAb 5))) (qAf (qIw 2 (hu1 hr) qEt (PX.d (qAb 5)))
  (qAj (qCd 3 (PX.d (qBl qSj (qAb 4) (qBs (qAk (PX.d (qAb 5)) qAt))))))) qA2)))))))
  (qAj (qAp #[28])))))⟩
def qG4:qAi→Rs Fl:=
 (qBb (qCk 1 (qB4 (qAd (qAm ixW #[2] #[63]) W.walk) #[43] (qAd (qAw (qBc #[2]) (qAw (cst (.str "face")) qB9)) qB0)))
  (qBw (ifW (qAd (qAm isW (qAm ixW #[2] #[27]) #[16]) W.bool) (qNx 1) #[114])))
def qDk:List W→Rs W:=mir ["file","faces"] qG4
theorem qKy:FnScope ["file","faces"] ["file"] (qAg qEf):=by norm_cast
theorem qNb (T:Txt w K mg):FnD P w K mg base 1 "names_above" 1 qDk:=by
 have sc:=qKy
 refine qBi (k:=0) (h:=qG4) (ps:=["file"]) T.t_names_above sc #[5] #[13] fun f cdv A outer s H E hr=>?_
 exact ⟨_,(qAf (qMv 1 rfl sc.nd (qBa (qAg qEf) ["file","faces"] rfl rfl #[19]) (qCp #[32]) (fun _ _ _ _ _=>qCx) (fun _ _ _ _ _=>(qB3 (qAk (PX.d (qAb 0)) (qAk qBo qAt)))))
  (qAj (qSh (qbk (qAy qIf #[32] #[28] (qA6 _)) (qVu 1) (qbj (qBl qA4 (qBs (qAk (qB3 (qAk (PX.d #[32]) (qAk qBo qAt))) qAt)) (qAb 1)))))))⟩
def qCj (M_fault_above:List W→KsT→Rs (D×KsT)):qAi→Rs Fl:=
 (qBb (qCk 6 (qAo qE7 3 (qAc #[2] (qAc (var 1) (qAc (var 2) qAz)))))
  (qBb (ifF (qAd (qAm isW (var 6) #[16]) W.bool) (qTy (qAd (qAw (cst (.str "lacks")) (qAw (qBc (var 2)) qB9)) qB0)) qCw)
  (qBb (ifF (qAd (qAm neW (qAm ixW (qAo qEb 2 (qAc #[2] (qAc (var 6) qAz))) #[11]) (var 3)) W.bool) (qTy (qAd (qAw (cst (.str "kind")) (qAw (qBc (var 2)) qB9)) qB0)) qCw)
  (qBb (ifF (qAd (qAm inW (var 6) (var 4)) W.bool) (qTy (qAd (qAw (cst (.str "ring")) (qAw (qBc (var 2)) qB9)) qB0)) qCw)
  (retJ 5 (ifJ (inJ 5 (qBc (var 6))) 5 (cst .non) (qK4 M_fault_above 3 5 (qAc #[2] (qAc (var 6) (qAc (var 4) qAz))))))))))
theorem qIp:FnScope ["world","loader","name","kind","below","sound","thing"] ["world","loader","name","kind","below","sound"] (qAg qEw):=by norm_cast
theorem qIt (T:Txt w K mg){k:Nat}(hk:2≤k){M:List W→KsT→Rs (D×KsT)}(F_fault_above:FnL P w K mg base k "fault_above" 3 M):FnL P w K mg base (k + 1) "fault_of_name" 5 (qbr ["world","loader","name","kind","below","sound","thing"] (qCj M) 5):=by
 have sc:=qIp
 refine qbx (k:=k) (h:=qCj M) (ps:=["world","loader","name","kind","below","sound"]) T.t_fault_of_name sc #[5] rfl #[13] fun f cdv A outer s H E hr=>?_
 exact ⟨_,by decide,(qAf (qA1 6 sc.nd (qAl (qRf T) (hr.mono #[0]) rfl (qAa (qAb 0) (qAa (qAb 1) (qAa (qAb 2) qAe))) rfl))
  (qAf (qBe (qAy qIf (qAb 6) #[28] (qA6 _)) (qAj (qGu (qB3 (qAk qBo (qAk (PX.d (qAb 2)) qAt))))) qA2)
  (qAf (qBe (qAy (qLm (qG3 hr)) (qA7 (qAl (qKj T) (hr.mono #[0]) rfl (qAa (qAb 0) (qAa (qAb 6) qAe)) rfl) #[4] #[15]) (qAb 3) (qA6 _)) (qAj (qGu (qB3 (qAk qBo (qAk (PX.d (qAb 2)) qAt))))) qA2)
  (qAf (qBe (qAy (qIg (qUu hr)) (qAb 6) (qAb 4) #[65]) (qAj (qGu (qB3 (qAk qBo (qAk (PX.d (qAb 2)) qAt))))) qA2)
  (qAj (qZi (pxl_if (qc1 5 (hu1 hr) (PX.d (qAb 6))) qBu (qSd F_fault_above (hr.mono #[0]) rfl (qDc (qAb 0) (qDc (qAb 6) (qDc (qAb 4) (qOq 5))))))))))))⟩
def qDn (M_fault_of_name:List W→KsT→Rs (D×KsT)):qAi→Rs Fl:=
 (qBb (qGi (qAd (qAo qDk 1 (qAc (qAo qEb 2 #[42]) qAz)) W.walkN) (qYr (qHd (qD6 4) (qHd (qD6 5) qdp)) 2) (qBb (qcr 6 3 (qK4 M_fault_of_name 5 3 #[100]))
  (ifF (qAd (qAm qC3 (var 6) #[16]) W.bool) (qTy (qBc (var 6))) qCw)))
  (qBb (qT0 3 (cst (.bl true)) (qBc (var 1)))
  (qTy (cst .non))))
theorem qK0:FnScope ["world","thing","below","sound","name","kind","why"] ["world","thing","below","sound"] (qAg qGp):=by norm_cast
theorem qK3 (T:Txt w K mg){k:Nat}(hk:2≤k){M:List W→KsT→Rs (D×KsT)}(F_fault_of_name:FnL P w K mg base k "fault_of_name" 5 M):FnL P w K mg base (k + 1) "fault_above" 3 (qbr ["world","thing","below","sound","name","kind","why"] (qDn M) 3):=by
 have sc:=qK0
 refine qbx (k:=k) (h:=qDn M) (ps:=["world","thing","below","sound"]) T.t_fault_above sc #[5] rfl #[13] fun f cdv A outer s H E hr=>?_
 exact ⟨_,by decide,(qAf (qCf PassesOwn.never rfl (qEz (qAl (qNb T) (hr.mono #[0]) rfl (qAa (qAl (qKj T) (hr.mono #[0]) rfl #[55] rfl) qAe) rfl)) (qHs 2 rfl (qCc (qBn 4 sc.nd) (qCc (qBn 5 sc.nd) qFk))) (qAf (qZh 6 3 sc.nd (qSd F_fault_of_name (hr.mono #[0]) rfl (qDc (qAb 0) (qDc #[66] (qDc (qAb 4) (qDc (qAb 5) (qDc (qBl qA4 (qAb 2) (qBs (qAk (PX.d (qAb 1)) qAt))) (qOq 3))))))))
  (qAj (qBe (qAy qCm (qAb 6) #[28] (qA6 _)) (qAj (qGu (PX.d (qAb 6)))) qA2))))
  (qAf (qIw 3 (hu1 hr) qEt (PX.d (qAb 1)))
  (qAj (qGu qBu))))⟩
def qBj:Nat→List W→KsT→Rs (D×KsT)
 | 0=>fun _ _=>.no
 | n + 1=>qbr ["world","thing","below","sound","name","kind","why"] (qDn (qbr ["world","loader","name","kind","below","sound","thing"] (qCj (qBj n)) 5)) 3
theorem qFy (T:Txt w K mg):∀ n:Nat,FnL P w K mg base (2 + 2 * n) "fault_above" 3 (qBj n)
 | 0=>fnL_no (ps:=["world","thing","below","sound"]) T.t_fault_above #[13]
 | n + 1=>qK3 T (k:=2 + 2 * n + 1) #[0] (qIt T (k:=2 + 2 * n) #[0] (qFy T n))
theorem qNd (T:Txt w K mg)(n:Nat):FnL P w K mg base (2 + 2 * n) "fault_above" 3 (qBj n):=qFy T n
def qXb:qAi→Rs Fl:=
 (qBw (toW (qem (qBj 20) 3 (qAc #[2] (qAc (var 1) (qAc (qAd qB9 qBt) qAz))))))
def qQ9:List W→Rs W:=mir ["world","thing"] qXb
theorem qY0:FnScope ["world","thing"] ["world","thing"] (qAg qVi):=by norm_cast
theorem qec (T:Txt w K mg):FnD P w K mg base 43 "fault" 2 qQ9:=by
 have sc:=qY0
 refine qBi (k:=42) (h:=qXb) (ps:=["world","thing"]) T.t_fault sc #[5] #[13] fun f cdv A outer s H E hr=>?_
 exact ⟨_,(qAj (qAp (PXd.w (qZd (qNd T 20) #[6] rfl (qJt (qAb 0) (qJt (qAb 1) (qJt (qBs qAt) qVx)))))))⟩
def qLw:qAi→Rs Fl:=
 (qBb (qCk 2 (qAo qEb 2 #[42]))
  (qBb (qCk 3 (qAd (qAc (qAm ixW (var 2) #[53]) qAz) lstA))
  (qBw (ifW (qAd (qAm isW (qAm ixW (var 2) #[27]) #[16]) W.bool) (qNx 3) (qAm qCr (qAd (qAw (qAd (qAw (cst (.str "need")) (qAw (qBc (qAm ixW (var 2) #[27])) qB9)) qB0) qB9) qBt) (var 3))))))
def qFn:List W→Rs W:=mir ["world","thing","file","rows"] qLw
theorem qQq:FnScope ["world","thing","file","rows"] ["world","thing"] (qAg qK9):=by norm_cast
theorem qUf (T:Txt w K mg):FnD P w K mg base 3 "steps_of" 2 qFn:=by
 have sc:=qQq
 refine qBi (k:=2) (h:=qLw) (ps:=["world","thing"]) T.t_steps_of sc #[5] #[13] fun f cdv A outer s H E hr=>?_
 exact ⟨_,(qAf (qA1 2 sc.nd (qAl (qKj T) #[6] rfl #[55] rfl))
  (qAf (qA1 3 sc.nd (qC9 qMa rfl T.b_list boot_list (qAa #[71] qAe)))
  (qAj (qSh (qbk (qAy qIf #[71] #[28] (qA6 _)) (qVu 3) (qbj (qBl qA4 (qBs (qAk (qB3 (qAk qBo (qAk (PX.d #[71]) qAt))) qAt)) (qAb 3))))))))⟩
def qG5:qAi→Rs Fl:=
 (qBb (ifF (qAd (qAm eqW (qAm ixW #[2] #[11]) (toW (cst (.str "need")))) W.bool) (qBw (qAm ixW #[2] #[9])) qCw)
  (qBw (ifW (qAd (qAm eqW (qAm ixW #[2] #[11]) (toW (cst (.str "read")))) W.bool) (qAm ixW #[2] #[27]) #[16])))
def qC1:List W→Rs W:=mir ["row"] qG5
theorem qKz:FnScope ["row"] ["row"] (qAg qGo):=by norm_cast
theorem qNc (T:Txt w K mg):FnD P w K mg base 1 "name_needed" 1 qC1:=by
 have sc:=qKz
 refine qBi (k:=0) (h:=qG5) (ps:=["row"]) T.t_name_needed sc #[5] #[13] fun f cdv A outer s H E hr=>?_
 exact ⟨_,(qAf (qBe (qAy #[40] #[32] (PXd.w qBo) (qA6 _)) (qAj (qAp #[32])) qA2)
  (qAj (qAp (px_if (qAy #[40] #[32] (PXd.w qBo) (qA6 _)) #[32] #[28]))))⟩
def qG6:qAi→Rs Fl:=
 (qBb (ifF (qAd (qAm qC3 (qAo qQ9 2 #[42]) #[16]) W.bool) (qBw (qAd qB9 qBt)) qCw)
  (qBb (qeh 2)
  (qBb (qGi (qAd (qAo qFn 2 #[42]) W.walkN) (qD6 3) (qBb (qCk 4 (qAo qC1 1 (qAc (var 3) qAz)))
  (qBb (qCk 5 (ifW (qAd (qAm isW (var 4) #[16]) W.bool) #[16] (qAo qE7 3 (qAc #[2] (qAc (qAm ixW (var 1) #[11]) (qAc (var 4) qAz))))))
  (ifF (qAd (qAm qC3 (var 5) #[16]) W.bool) (qT0 2 (cst (.bl true)) #[34]) qCw))))
  (qBw (qWt 2)))))
def qDl:List W→Rs W:=mir ["world","thing","told","row","name","other"] qG6
theorem qK1:FnScope ["world","thing","told","row","name","other"] ["world","thing"] (qAg qGq):=by norm_cast
theorem qHc (T:Txt w K mg):FnD P w K mg base 44 "arrows_from" 2 qDl:=by
 have sc:=qK1
 refine qBi (k:=43) (h:=qG6) (ps:=["world","thing"]) T.t_arrows_from sc #[5] #[13] fun f cdv A outer s H E hr=>?_
 exact ⟨_,(qAf (qBe (qAy qCm (qAl (qec T) #[6] rfl #[55] rfl) #[28] (qA6 _)) (qAj (qAp (qBs qAt))) qA2)
  (qAf (qOs 2 sc.nd)
  (qAf (qCf PassesOwn.never rfl (qEz (qAl (qUf T) #[6] rfl #[55] rfl)) (qBn 3 sc.nd) (qAf (qA1 4 sc.nd (qAl (qNc T) #[6] rfl (qAa (qAb 3) qAe) rfl))
  (qAf (qA1 5 sc.nd (px_if (qAy qIf (qAb 4) #[28] (qA6 _)) #[28] (qAl (qRf T) #[6] rfl (qAa (qAb 0) (qAa #[66] (qAa (qAb 4) qAe))) rfl)))
  (qAj (qBe (qAy qCm (qAb 5) #[28] (qA6 _)) (qAj (qIw 2 (hu1 hr) qEt (PX.d (qAb 5)))) qA2)))))
  (qAj (qAp (qVy 2 rfl rfl T.b_list))))))⟩
def qEc:qAi→Rs W:=
 (qAo qDl 2 (qAc (var 1) #[23]))
def qPc:qAi→Rs Fl:=
 (qBw (qNn 0 qFm qEc (var 1)))
def qC0:List W→Rs W:=mir ["world","thing"] qPc
theorem qTj:FnScope ["world","thing"] ["world","thing"] (qAg qOf):=by norm_cast
theorem qPv (T:Txt w K mg):FnD P w K mg base 47 "ring_at" 2 qC0:=by
 have sc:=qTj
 refine qXe (k:=46) (h:=qPc) (ps:=["world","thing"]) T.t_ring_at sc #[5] #[13] fun c Pt ht f A outer s H E hr=>?_
 exact ⟨_,(qAj (qAp (qLh (kl:=44) (z:="ring_at") (xl:="at") (y:="world") 0 (qUe T 44) #[6] rfl (qAb 1) ⟨qJ7 (by kernel_rfl),fun _ _ _ _ _=>rfl,fun f cdv cl A outer s H hr=>(qAl (qHc T) #[6] rfl (qAa (qAb 1) #[54]) rfl)⟩ #[5] ht rfl rfl rfl rfl rfl rfl rfl rfl rfl rfl)))⟩
def qG9:qAi→Rs W:=
 (qAo qDl 2 (qAc (var 1) #[23]))
def qSs:qAi→Rs Fl:=
 (qBw (qNn 0 qE6 qG9 (qAo qCi 2 #[42])))
def qM4:List W→Rs W:=mir ["world","thing"] qSs
theorem qVa:FnScope ["world","thing"] ["world","thing"] (qAg qR1):=by norm_cast
theorem qao (T:Txt w K mg):FnD P w K mg base 47 "needed" 2 qM4:=by
 have sc:=qVa
 refine qXe (k:=46) (h:=qSs) (ps:=["world","thing"]) T.t_needed sc #[5] #[13] fun c Pt ht f A outer s H E hr=>?_
 exact ⟨_,(qAj (qAp (qLh (kl:=44) (z:="needed") (xl:="at") (y:="world") 0 (qXl T 44) #[6] rfl (qAl (qKk T) #[6] rfl #[55] rfl) ⟨qJ7 (by kernel_rfl),fun _ _ _ _ _=>rfl,fun f cdv cl A outer s H hr=>(qAl (qHc T) #[6] rfl (qAa (qAb 1) #[54]) rfl)⟩ #[5] ht rfl rfl rfl rfl rfl rfl rfl rfl rfl rfl)))⟩
def qbu:qAi→Rs Fl:=
 (qBb (qGi (qAd (qAo qM4 2 #[42]) W.walkN) (qD6 2) (qBb (qCk 3 (qAo qC0 2 (qAc #[2] (qAc (var 2) qAz))))
  (ifF (qAd (qAm qC3 (var 3) #[16]) W.bool) (qBw (qNx 3)) qCw)))
  (qBw #[16]))
def qO1:List W→Rs W:=mir ["world","thing","at","way"] qbu
theorem qcs:FnScope ["world","thing","at","way"] ["world","thing"] (qAg qbf):=by norm_cast
theorem f_ring (T:Txt w K mg):FnD P w K mg base 48 "ring" 2 qO1:=by
 have sc:=qcs
 refine qBi (k:=47) (h:=qbu) (ps:=["world","thing"]) T.t_ring sc #[5] #[13] fun f cdv A outer s H E hr=>?_
 exact ⟨_,(qAf (qCf PassesOwn.never rfl (qEz (qAl (qao T) #[6] rfl #[55] rfl)) (qBn 2 sc.nd) (qAf (qA1 3 sc.nd (qAl (qPv T) #[6] rfl (qAa (qAb 0) (qAa (qAb 2) qAe)) rfl))
  (qAj (qBe (qAy qCm (qAb 3) #[28] (qA6 _)) (qAj (qDw 3)) qA2))))
  (qAj (qAp #[28])))⟩
def qKe:qAi→Rs Fl:=
 (qBw (qB4 (qAd (qAo qGx 1 #[23]) W.walk) (qAd (qAm qC3 (qAo qC0 2 (qAc (var 1) #[23])) #[16]) W.bool) (qBc #[2])))
def qEj:List W→Rs W:=mir ["world"] qKe
theorem qOb:FnScope ["world"] ["world"] (qAg qF6):=by norm_cast
theorem qRh (T:Txt w K mg):FnD P w K mg base 48 "all_rings" 1 qEj:=by
 have sc:=qOb
 refine qBi (k:=47) (h:=qKe) (ps:=["world"]) T.t_all_rings sc #[5] #[13] fun f cdv A outer s H E hr=>?_
 exact ⟨_,(qAj (qAp (qCy rfl sc.nd (qBa (qAg qF6) ["world"] rfl rfl #[19]) (qCp (qAl (qXo T) #[6] rfl #[54] rfl)) (fun _ _ _ _ _=>(qEg (qAy qCm (qAl (qPv T) #[6] rfl (qAa (qAb 1) #[54]) rfl) #[28] (qA6 _)))) (fun _ _ _ _ _=>(PX.d (qAb 0))))))⟩
def qKh:qAi→Rs Fl:=
 (qBb (ifF (qAd (qAm ltW (var 1) (qAd #[23] qIs)) W.bool) (qBw (qAm ixW #[2] (var 1))) qCw)
  (qBb (ifF (qAd (qAm eqW #[2] (qAd qB9 qBt)) W.bool) (qBw #[11]) qCw)
  (qBw (qAm qCr (qAm qSn (qAm ixW #[2] (qAm qdq (var 1) (qAd #[23] qIs))) (toW (cst (.int 31)))) (var 1)))))
def qGf:List W→Rs W:=mir ["_law_script","_law_k"] qKh
theorem qOe:FnScope ["_law_script","_law_k"] ["_law_script","_law_k"] (qAg qJn):=by norm_cast
theorem qRj (T:Txt w K mg):FnD P w K mg base 1 "_law_cell_at" 2 qGf:=by
 have sc:=qOe
 refine qBi (k:=0) (h:=qKh) (ps:=["_law_script","_law_k"]) T.t_L_cell_at sc #[5] #[13] fun f cdv A outer s H E hr=>?_
 exact ⟨_,(qAf (qBe (qAy qJz (qAb 1) #[80] (qA6 _)) (qAj (qAp (qA7 (qAb 0) (qAb 1) #[15]))) qA2)
  (qAf (qBe (qAy #[40] (qAb 0) (qBs qAt) (qA6 _)) (qAj (qAp #[4])) qA2)
  (qAj (qAp (qBl qA4 (qBl qD3 (qA7 (qAb 0) (qBl qM0 (qAb 1) #[80]) #[15]) #[4]) (qAb 1))))))⟩
def qPn:qAi→Rs Fl:=
 (qBb (qCk 3 (qAm qdq (qAm qSn (qAm qCr (qAm qCr (qAo qGf 2 #[42]) (qAm qSn (toW (cst (.int 7919))) (var 1))) #[9]) (toW (cst (.int 48271)))) (toW (cst (.int 2147483647)))))
  (qBw (qAm qdq (qAm qdq (qAm qCr (qAm qCr (qAm qSn (var 3) (var 3)) (qAm qSn (toW (cst (.int 7))) (var 3))) (var 1)) (toW (cst (.int 2147483629)))) (var 2))))
def qA9:List W→Rs W:=mir ["_law_script","_law_k","_law_many","_law_drawn"] qPn
theorem qTu:FnScope ["_law_script","_law_k","_law_many","_law_drawn"] ["_law_script","_law_k","_law_many"] (qAg qOn):=by norm_cast
theorem qBf (T:Txt w K mg):FnD P w K mg base 2 "_law_mixed" 3 qA9:=by
 have sc:=qTu
 refine qBi (k:=1) (h:=qPn) (ps:=["_law_script","_law_k","_law_many"]) T.t_L_mixed sc #[5] #[13] fun f cdv A outer s H E hr=>?_
 exact ⟨_,(qAf (qA1 3 sc.nd (qBl qM0 (qBl qD3 (qBl qA4 (qBl qA4 (qAl (qRj T) #[6] rfl #[55] rfl) (qBl qD3 #[4] (qAb 1))) #[4]) #[4]) #[4]))
  (qAj (qAp (qBl qM0 (qBl qM0 (qBl qA4 (qBl qA4 (qBl qD3 (qAb 3) (qAb 3)) (qBl qD3 #[4] (qAb 3))) (qAb 1)) #[4]) (qAb 2)))))⟩
def qSu:qAi→Rs Fl:=
 (qBb (qCk 2 (toW (cst (.str ""))))
  (qBb (qGi (qAd (qAc (qAm ixW (qAd (qAw (cst (.int 1)) (qAw (cst (.int 2)) (qAw (cst (.int 3)) (qAw (cst (.int 6)) (qAw (cst (.int 1)) (qAw (cst (.int 4)) qB9)))))) qBt) (qAo qA9 3 (qAc #[2] (qAc (var 1) (qAc (toW (cst (.int 6))) qAz))))) qAz) qYg) (qD6 3) (qCk 2 (qAm qCr (var 2) (qAm ixW (toW (cst (.str "abcdefghijklmnopqrstuvwxyz"))) (qAo qA9 3 (qAc #[2] (qAc (qAm qCr (qAm qCr (var 1) #[9]) (var 3)) (qAc (toW (cst (.int 26))) qAz))))))))
  (qBw (qNx 2))))
def qIx:List W→Rs W:=mir ["_law_script","_law_at","_law_made","_law_k"] qSu
theorem qVc:FnScope ["_law_script","_law_at","_law_made","_law_k"] ["_law_script","_law_at"] (qAg qR3):=by norm_cast
theorem qaq (T:Txt w K mg):FnD P w K mg base 3 "_law_word" 2 qIx:=by
 have sc:=qVc
 refine qBi (k:=2) (h:=qSu) (ps:=["_law_script","_law_at"]) T.t_L_word sc #[5] #[13] fun f cdv A outer s H E hr=>?_
 exact ⟨_,(qAf (qA1 2 sc.nd (PXd.w qBo))
  (qAf (qCf PassesOwn.never rfl (qJs rfl T.b_range (qAa (qA7 (qBs (qAk qAh (qAk qAh (qAk qAh (qAk qAh (qAk qAh (qAk qAh qAt))))))) (qAl (qBf T) #[6] rfl (qAa (qAb 0) (qAa (qAb 1) (qAa #[4] qAe))) rfl) #[15]) qAe)) (qBn 3 sc.nd) (qAj (qA1 2 sc.nd (qBl qA4 (qAb 2) (qA7 (PXd.w qBo) (qAl (qBf T) #[6] rfl (qAa (qAb 0) (qAa (qBl qA4 (qBl qA4 (qAb 1) #[4]) (qAb 3)) (qAa #[4] qAe))) rfl) #[15])))))
  (qAj (qDw 2))))⟩
def qPm:qAi→Rs Fl:=
 (qBb (dnewF 2)
  (qBb (qGi (qAd (qAc #[53] qAz) qYg) (qD6 3) (qXv 2 (cst (.bl true)) (qBc (qAo qIx 2 (qAc #[2] (qAc (qAm qCr (var 1) (qAm qSn (toW (cst (.int 8))) (var 3))) qAz))))))
  (qBw (qWu 2))))
def qGz:List W→Rs W:=mir ["_law_script","_law_at","_law_found","_law_k"] qPm
theorem qTt:FnScope ["_law_script","_law_at","_law_found","_law_k"] ["_law_script","_law_at"] (qAg qOm):=by norm_cast
theorem qXr (T:Txt w K mg):FnD P w K mg base 4 "_law_names" 2 qGz:=by
 have sc:=qTt
 refine qBi (k:=3) (h:=qPm) (ps:=["_law_script","_law_at"]) T.t_L_names sc #[5] #[13] fun f cdv A outer s H E hr=>?_
 exact ⟨_,(qAf (qZm 2 sc.nd)
  (qAf (qCf PassesOwn.never rfl (qJs rfl T.b_range (qAa #[4] qAe)) (qBn 3 sc.nd) (qAj (qZl 2 (hu1 hr) qEt (PX.d (qAl (qaq T) #[6] rfl (qAa (qAb 0) (qAa (qBl qA4 (qAb 1) (qBl qD3 #[4] (qAb 3))) qAe)) rfl)))))
  (qAj (qAp (qZb 2 rfl rfl T.b_list)))))⟩
def qXc:qAi→Rs Fl:=
 (qBb (qCk 3 (qAo qA9 3 (qAc #[2] (qAc (var 1) (qAc (toW (cst (.int 12))) qAz)))))
  (qBb (qCk 4 (qAm ixW (var 2) (qAo qA9 3 (qAc #[2] (qAc (qAm qCr (var 1) #[9]) (qAc (qAd (qAc (var 2) qAz) qIs) qAz))))))
  (qBb (qCk 5 (qAm ixW (qAd (qAw (cst (.str "f")) (qAw (cst (.str "g")) qB9)) qBt) (qAo qA9 3 (qAc #[2] (qAc (qAm qCr (var 1) #[27]) (qAc #[27] qAz))))))
  (qBb (ifF (qAd (qAm ltW (var 3) #[53]) W.bool) (qBw (toW (qAd (qAw (cst (.str "put")) (qAw #[34] (qAw (qBc (qAo qA9 3 (qAc #[2] (qAc (qAm qCr (var 1) #[63]) (qAc (toW (cst (.int 100))) qAz))))) qB9))) qB0))) qCw)
  (qBb (ifF (qAd (qAm ltW (var 3) (toW (cst (.int 7)))) W.bool) (qBw (toW (qAd (qAw (cst (.str "read")) (qAw #[34] (qAw (qBc (var 4)) (qAw (qBc (qAm ixW (qAd (qAw (cst (.str "f")) (qAw (cst (.str "g")) qB9)) qBt) (qAo qA9 3 (qAc #[2] (qAc (qAm qCr (var 1) #[63]) (qAc #[27] qAz)))))) qB9)))) qB0))) qCw)
  (qBb (ifF (qAd (qAm ltW (var 3) (toW (cst (.int 10)))) W.bool) (qBw (toW (qAd (qAw (cst (.str "need")) (qAw (qBc (var 4)) qB9)) qB0))) qCw)
  (qBw (toW (qAd (qAw (qBc (qAm ixW (qAd (qAw (cst (.str "note")) (qAw (cst (.str "note")) (qAw (cst (.str "fail")) qB9))) qBt) (qAo qA9 3 (qAc #[2] (qAc (qAm qCr (var 1) #[63]) (qAc #[63] qAz)))))) (qAw (qBc (qAm ixW (qAd (qAw (cst (.str "x")) (qAw (cst (.str "y")) qB9)) qBt) (qAo qA9 3 (qAc #[2] (qAc (qAm qCr (var 1) #[27]) (qAc #[27] qAz)))))) qB9)) qB0)))))))))
def qFa:List W→Rs W:=mir ["_law_script","_law_at","_law_names_here","_law_kind","_law_name","_law_field"] qXc
theorem qY1:FnScope ["_law_script","_law_at","_law_names_here","_law_kind","_law_name","_law_field"] ["_law_script","_law_at","_law_names_here"] (qAg qVj):=by norm_cast
theorem qXq (T:Txt w K mg):FnD P w K mg base 3 "_law_row" 3 qFa:=by
 have sc:=qY1
 refine qBi (k:=2) (h:=qXc) (ps:=["_law_script","_law_at","_law_names_here"]) T.t_L_row sc #[5] #[13] fun f cdv A outer s H E hr=>?_
 exact ⟨_,(qAf (qA1 3 sc.nd (qAl (qBf T) #[6] rfl (qAa (qAb 0) (qAa (qAb 1) (qAa #[4] qAe))) rfl))
  (qAf (qA1 4 sc.nd #[111])
  (qAf (qA1 5 sc.nd (qA7 (qBs (qAk qBo (qAk qBo qAt))) #[74] #[15]))
  (qAf (qBe (qAy qJz (qAb 3) #[4] (qA6 _)) (qAj (qAp (PXd.w (qB3 (qAk qBo (qAk (PX.d (qAb 5)) (qAk (PX.d #[74]) qAt))))))) qA2)
  (qAf (qBe (qAy qJz (qAb 3) #[4] (qA6 _)) (qAj (qAp (PXd.w (qB3 (qAk qBo (qAk (PX.d (qAb 5)) (qAk (PX.d (qAb 4)) (qAk (PX.d (qA7 (qBs (qAk qBo (qAk qBo qAt))) #[74] #[15])) qAt)))))))) qA2)
  (qAf (qBe (qAy qJz (qAb 3) #[4] (qA6 _)) (qAj (qAp (PXd.w (qB3 (qAk qBo (qAk (PX.d (qAb 4)) qAt)))))) qA2)
  (qAj (qAp (PXd.w (qB3 (qAk (PX.d (qA7 (qBs (qAk qBo (qAk qBo (qAk qBo qAt)))) #[74] #[15])) (qAk (PX.d (qA7 (qBs (qAk qBo (qAk qBo qAt))) #[74] #[15])) qAt))))))))))))⟩
def qSx:qAi→Rs Fl:=
 (qBb (qCk 5 (toW (cst (.str "class"))))
  (qBb (ifF (qAd (qAm ixW (qAd (qAw (qBc (qAm eqW (var 3) (qAm ixW (var 2) (qAd #[9] qWi)))) (qAw (qBc (qAm eqW (qAo qA9 3 (qAc #[2] (qAc (var 1) (qAc #[27] qAz)))) #[11])) qB9)) qBt) (qAd (qAc (qAm eqW (qAo qA9 3 (qAc #[2] (qAc (qAm qCr (var 1) #[9]) (qAc (toW (cst (.int 8))) qAz)))) #[11]) qAz) qYj)) W.tru) (qCk 5 (toW (cst (.str "face")))) qCw)
  (qBb (qCk 6 #[16])
  (qBb (ifF (qUp (qAd (qAm eqW (var 5) (toW (cst (.str "class")))) W.bool) (qAd (qAm eqW (qAo qA9 3 (qAc #[2] (qAc (qAm qCr (var 1) #[9]) (qAc #[63] qAz)))) #[11]) W.bool)) (qCk 6 (qAm ixW (var 2) (qAo qA9 3 (qAc #[2] (qAc (qAm qCr (var 1) #[27]) (qAc (qAd (qAc (var 2) qAz) qIs) qAz)))))) qCw)
  (qBb (qCk 7 (qAd qB9 qBt))
  (qBb (ifF (qAd (qAm eqW (qAo qA9 3 (qAc #[2] (qAc (qAm qCr (var 1) #[63]) (qAc #[63] qAz)))) #[11]) W.bool) (qI2 7 (qBc (qAm ixW (var 2) (qAd #[9] qWi)))) qCw)
  (qBb (ifF (qAd (qAm eqW (qAo qA9 3 (qAc #[2] (qAc (qAm qCr (var 1) #[63]) (qAc (toW (cst (.int 5))) qAz)))) #[9]) W.bool) (qI2 7 (qBc (qAm ixW (var 2) (qAo qA9 3 (qAc #[2] (qAc (qAm qCr (var 1) #[53]) (qAc (qAd (qAc (var 2) qAz) qIs) qAz))))))) qCw)
  (qBb (qCk 7 (qD5 (var 7) qC6 (part (qAd (var 7) qG1))))
  (qBb (qCk 8 (qAd (qAc (qB4 (qAd (qAc (qAo qA9 3 (qAc #[2] (qAc (qAm qCr (var 1) (toW (cst (.int 5)))) (qAc (qAm qCr (var 4) #[9]) qAz)))) qAz) qYg) #[43] (qBc (qAo qFa 3 (qAc (var 1) (qAc (qAm qCr (qAm qCr (var 2) (toW (cst (.int 10)))) (qAm qSn (toW (cst (.int 5))) #[2])) (qAc (var 3) qAz)))))) qAz) qci))
  (qBw (toW (qAd (qAw #[34] (qAw (qBc (var 3)) (qAw (qBc (var 6)) (qAw (qBc (qAd (qAc (var 7) qAz) qci)) (qAw (qBc (var 8)) qB9))))) qB0))))))))))))
def qIz:List W→Rs W:=mir ["_law_script","_law_at","_law_names_here","_law_name","_law_long","_law_kind","_law_above_here","_law_faces","_law_rows"] qSx
theorem qVg:FnScope ["_law_script","_law_at","_law_names_here","_law_name","_law_long","_law_kind","_law_above_here","_law_faces","_law_rows"] ["_law_script","_law_at","_law_names_here","_law_name","_law_long"] (qAg qMq):=by norm_cast
theorem qat (T:Txt w K mg):FnD P w K mg base 4 "_law_file" 5 qIz:=by
 have sc:=qVg
 refine qBi (k:=3) (h:=qSx) (ps:=["_law_script","_law_at","_law_names_here","_law_name","_law_long"]) T.t_L_file sc #[5] #[13] fun f cdv A outer s H E hr=>?_
 exact ⟨_,(qAf (qA1 5 sc.nd (PXd.w qBo))
  (qAf (qBe (qBx (qA7 (qBs (qAk (PX.d (qCz #[40] (qAb 3) (qA7 (qAb 2) (qSe #[4]) #[15]) (qA6 _))) (qAk (PX.d (qCz #[40] (qAl (qBf T) #[6] rfl (qAa (qAb 0) (qAa (qAb 1) (qAa #[4] qAe))) rfl) #[4] (qA6 _))) qAt))) (qC9 qHe rfl T.b_int boot_int (qAa (qCz #[40] #[74] #[4] (qA6 _)) qAe)) #[15])) (qAj (qA1 5 sc.nd (PXd.w qBo))) qA2)
  (qAf (qA1 6 sc.nd #[28])
  (qAf (qBe (PXw.t (qHr (qAy #[40] (qAb 5) (PXd.w qBo) (qA6 _)) (qIv (qAy #[40] #[74] #[4] (qA6 _))))) (qAj (qA1 6 sc.nd #[111])) qA2)
  (qAf (qA1 7 sc.nd (qBs qAt))
  (qAf (qBe (qAy #[40] #[74] #[4] (qA6 _)) (qAj (qCd 7 (PX.d (qA7 (qAb 2) (qSe #[4]) #[15])))) qA2)
  (qAf (qBe (qAy #[40] #[74] #[4] (qA6 _)) (qAj (qCd 7 (PX.d #[111]))) qA2)
  (qAf (qA1 7 sc.nd (qDj (qAb 7) qDi (qDh (qOr rfl rfl T.b_len rfl T.b_set (qAb 7)))))
  (qAf (qA1 8 sc.nd (qC9 qEm rfl T.b_tuple boot_tuple (qAa (qCy rfl sc.nd (qBa (qAg qMq) ["_law_script","_law_at","_law_names_here","_law_name","_law_long","_law_kind","_law_above_here","_law_faces","_law_rows"] rfl rfl #[19]) (qVw rfl T.b_range (qAa (qAl (qBf T) #[6] rfl (qAa (qAb 0) (qAa (qBl qA4 (qAb 1) #[4]) (qAa (qBl qA4 (qAb 4) #[4]) qAe))) rfl) qAe)) (fun _ _ _ _ _=>qCx) (fun _ _ _ _ _=>(PX.d (qAl (qXq T) #[6] rfl (qAa (qAb 1) (qAa (qBl qA4 (qBl qA4 (qAb 2) #[4]) (qBl qD3 #[4] (qAb 0))) (qAa (qAb 3) qAe))) rfl)))) qAe)))
  (qAj (qAp (PXd.w (qB3 (qAk (PX.d (qAb 5)) (qAk (PX.d (qAb 3)) (qAk (PX.d (qAb 6)) (qAk (PX.d (qC9 qEm rfl T.b_tuple boot_tuple (qAa (qAb 7) qAe))) (qAk (PX.d (qAb 8)) qAt))))))))))))))))))⟩
def qPk:qAi→Rs Fl:=
 (qBb (qCk 5 (qAd qB9 qBt))
  (qBb (qCk 6 (qK5 (qAm eqW (qAo qA9 3 (qAc #[2] (qAc (toW (cst (.int 95))) (qAc #[53] qAz)))) #[11]) (qAm gtW (var 4) #[11])))
  (qBb (qGi (qAd (qAc (qAm qCr #[9] (qAo qA9 3 (qAc #[2] (qAc (var 1) (qAc (var 3) qAz))))) qAz) qYg) (qD6 7) (qBb (qCk 8 (qAm qCr (var 1) (qAm qSn (toW (cst (.int 200))) (qAm qCr (var 7) #[9]))))
  (qBb (qCk 9 #[16])
  (qBb (ifF (qUp (qAd (qAm gtW (var 7) #[11]) W.bool) (qAd (qAm gtW (qAo qA9 3 (qAc #[2] (qAc (var 8) (qAc #[53] qAz)))) #[11]) W.bool)) (qCk 9 (qAo qA9 3 (qAc #[2] (qAc (qAm qCr (var 8) #[9]) (qAc (var 7) qAz))))) qCw)
  (qBb (qCk 10 (qAd qB9 qBt))
  (qBb (qGi (qAd (qFq 2) qRl) (qYr (qHd (qD6 11) (qHd (qD6 12) qdp)) 2) (ifF (qUp (qAd (var 6) W.tru) (qUp (qAd (qAm eqW (var 7) #[11]) W.bool) (qUp (qAd (qAm ltW (var 11) #[27]) W.bool) (qAd (qAm gtW (qAd (qAc (var 2) qAz) qIs) #[9]) W.bool)))) (qBb (qCk 13 (qAo qFa 3 (qAc #[2] (qAc (qAm qCr (qAm qCr (var 8) (toW (cst (.int 10)))) (qAm qSn (toW (cst (.int 45))) (var 11))) (qAc (var 2) qAz)))))
  (qI2 10 (qAd (qAw (cst (.str "class")) (qAw (qBc (var 12)) (qAw (cst .non) (qAw (qAd qB9 qB0) (qAw (qBc (qD5 (toW (qAd (qAw (qBc (var 13)) (qAw (qAd (qAw (cst (.str "need")) (qAw (qBc (qAm ixW (var 2) (qAm qbe #[9] (var 11)))) qB9)) qB0) qB9)) qB0)) (part (qAo qA9 3 (qAc #[2] (qAc (qAm qCr (var 8) (toW (cst (.int 5)))) (qAc #[27] qAz))))) qC6)) qB9))))) qB0))) (ifF (qAd (qAm gtW (qAo qA9 3 (qAc (var 0) (qAc (qAm qCr (qAm qCr (var 8) (toW (cst (.int 2)))) (var 11)) (qAc (toW (cst (.int 3))) qAz)))) (toW (cst (.int 0)))) W.bool) (qI2 10 (qBc (qAo qIz 5 (qAc (var 0) (qAc (qAm qCr (qAm qCr (var 8) (toW (cst (.int 10)))) (qAm qSn (toW (cst (.int 45))) (var 11))) (qAc (var 2) (qAc (var 12) (qAc (var 4) qAz)))))))) qCw)))
  (qBb (qCk 14 (qAo qA9 3 (qAc #[2] (qAc (qAm qCr (var 8) (toW (cst (.int 8)))) (qAc #[53] qAz)))))
  (qI2 5 (qAd (qAw (qBc (var 9)) (qAw (qBc (qAd (qAc (qAm qCr (qD5 (var 10) (part (var 14)) qC6) (qD5 (var 10) qC6 (part (var 14)))) qAz) qci)) qB9)) qB0)))))))))
  (qBw (qAd (qAc (var 5) qAz) qci)))))
def qGy:List W→Rs W:=mir ["_law_script","_law_at","_law_names_here","_law_many","_law_long","_law_made","_law_twins","_law_number","_law_here","_law_parent","_law_shelf","_law_k","_law_name","_law_row_here","_law_turn"] qPk
theorem qTr:FnScope ["_law_script","_law_at","_law_names_here","_law_many","_law_long","_law_made","_law_twins","_law_number","_law_here","_law_parent","_law_shelf","_law_k","_law_name","_law_row_here","_law_turn"] ["_law_script","_law_at","_law_names_here","_law_many","_law_long"] (qAg qOl):=by norm_cast
theorem qXp (T:Txt w K mg):FnD P w K mg base 5 "_law_world" 5 qGy:=by
 have sc:=qTr
 refine qBi (k:=4) (h:=qPk) (ps:=["_law_script","_law_at","_law_names_here","_law_many","_law_long"]) T.t_L_world sc #[5] #[13] fun f cdv A outer s H E hr=>?_
 exact ⟨_,(qAf (qA1 5 sc.nd (qBs qAt))
  (qAf (qA1 6 sc.nd (qD7 (qCz #[40] (qAl (qBf T) #[6] rfl (qAa (qAb 0) (qAa #[4] (qAa #[4] qAe))) rfl) #[4] (qA6 _)) (qE0 (qCz qOx (qAb 4) #[4] (qA6 _)))))
  (qAf (qCf PassesOwn.never rfl (qJs rfl T.b_range (qAa (qBl qA4 #[4] (qAl (qBf T) #[6] rfl (qAa (qAb 0) (qAa (qAb 1) (qAa (qAb 3) qAe))) rfl)) qAe)) (qBn 7 sc.nd) (qAf (qA1 8 sc.nd (qBl qA4 (qAb 1) (qBl qD3 #[4] (qBl qA4 (qAb 7) #[4]))))
  (qAf (qA1 9 sc.nd #[28])
  (qAf (qBe (PXw.t (qHr (qAy qOx (qAb 7) #[4] (qA6 _)) (qIv (qAy qOx (qAl (qBf T) #[6] rfl (qAa (qAb 0) (qAa (qAb 8) (qAa #[4] qAe))) rfl) #[4] (qA6 _))))) (qAj (qA1 9 sc.nd (qAl (qBf T) #[6] rfl (qAa (qAb 0) (qAa (qBl qA4 (qAb 8) #[4]) (qAa (qAb 7) qAe))) rfl))) qA2)
  (qAf (qA1 10 sc.nd (qBs qAt))
  (qAf (qCf PassesOwn.never rfl (qGs 2 rfl T.b_enumerate) (qHs 2 rfl (qCc (qBn 11 sc.nd) (qCc (qBn 12 sc.nd) qFk))) (qAj (qBe (PXw.t (qHr (qBx (qAb 6)) (qHr (qAy #[40] (qAb 7) #[4] (qA6 _)) (qHr (qAy qJz (qAb 11) #[4] (qA6 _)) (qIv (qAy qOx (qBp qB1 rfl T.b_len boot_len (qAa (qAb 2) qAe)) #[4] (qA6 _))))))) (qAf (qA1 13 sc.nd (qAl (qXq T) #[6] rfl (qAa (qAb 0) (qAa (qBl qA4 (qBl qA4 (qAb 8) #[4]) (qBl qD3 #[4] (qAb 11))) (qAa (qAb 2) qAe))) rfl))
  (qAj (qCd 10 (qB3 (qAk qBo (qAk (PX.d (qAb 12)) (qAk qBu (qAk (qB3 qAt) (qAk (PX.d (qDj (PXd.w (qB3 (qAk (PX.d (qAb 13)) (qAk (qB3 (qAk qBo (qAk (PX.d (qA7 (qAb 2) (qBl qMz #[4] (qAb 11)) #[15])) qAt))) qAt)))) (qDh (qAl (qBf T) #[6] rfl (qAa (qAb 0) (qAa (qBl qA4 (qAb 8) #[4]) (qAa #[4] qAe))) rfl)) qDi)) qAt))))))))) (qAj (qBe (qAy qOx (qAl (qBf T) (hr.mono (by decide)) rfl (qAa (qAb 0) (qAa (qBl qA4 (qBl qA4 (qAb 8) (PXd.w qAh)) (qAb 11)) (qAa (PXd.w qAh) qAe))) rfl) (PXd.w qAh) (qA6 _)) (qAj (qCd 10 (PX.d (qAl (qat T) (hr.mono (by decide)) rfl (qAa (qAb 0) (qAa (qBl qA4 (qBl qA4 (qAb 8) (PXd.w qAh)) (qBl qD3 (PXd.w qAh) (qAb 11))) (qAa (qAb 2) (qAa (qAb 12) (qAa (qAb 4) qAe))))) rfl)))) qA2)))))
  (qAf (qA1 14 sc.nd (qAl (qBf T) #[6] rfl (qAa (qAb 0) (qAa (qBl qA4 (qAb 8) #[4]) (qAa #[4] qAe))) rfl))
  (qAj (qCd 5 (qB3 (qAk (PX.d (qAb 9)) (qAk (PX.d (qC9 qEm rfl T.b_tuple boot_tuple (qAa (qBl qA4 (qDj (qAb 10) (qDh (qAb 14)) qDi) (qDj (qAb 10) qDi (qDh (qAb 14)))) qAe))) qAt))))))))))))
  (qAj (qAp (qC9 qEm rfl T.b_tuple boot_tuple (qAa (qAb 5) qAe)))))))⟩
def qSv:qAi→Rs Fl:=
 (qBb (qCk 2 (qAd (qAw (qBc (var 1)) qB9) qBt))
  (qBb (qCb (qAd (qAm qC3 (qAm ixW (qAm ixW #[2] (qAm ixW (var 2) #[11])) #[11]) #[16]) W.bool) (qCk 2 (qAm qCr (qAd (qAw (qBc (qAm ixW (qAm ixW #[2] (qAm ixW (var 2) #[11])) #[11])) qB9) qBt) (var 2))) 1000)
  (qBw (qNx 2))))
def qIy:List W→Rs W:=mir ["_law_world_here","_law_loader","_law_made"] qSv
theorem qVd:FnScope ["_law_world_here","_law_loader","_law_made"] ["_law_world_here","_law_loader"] (qAg qR4):=by norm_cast
theorem qar (T:Txt w K mg):FnD P w K mg base 1 "_law_line" 2 qIy:=by
 have sc:=qVd
 refine qBi (k:=0) (h:=qSv) (ps:=["_law_world_here","_law_loader"]) T.t_L_line sc #[5] #[13] fun f cdv A outer s H E hr=>?_
 exact ⟨_,(qAf (qA1 2 sc.nd (qBs (qAk (PX.d (qAb 1)) qAt)))
  (qAf (qE1 1000 PassesOwn.never (qAy qCm (qA7 (qA7 (qAb 0) #[71] #[15]) #[4] #[15]) #[28] (qA6 _)) (qAj (qA1 2 sc.nd (qBl qA4 (qBs (qAk (PX.d (qA7 (qA7 (qAb 0) #[71] #[15]) #[4] #[15])) qAt)) (qAb 2)))))
  (qAj (qDw 2))))⟩
def qbv:qAi→Rs Fl:=
 (qBw (qB4 (qAd #[2] W.walk) (qAd (qAm eqW (qAm ixW #[2] #[9]) (var 2)) W.bool) (qBc #[2])))
def qO2:List W→Rs W:=mir ["_law_shelf","_law_name"] qbv
theorem qct:FnScope ["_law_shelf","_law_name"] ["_law_shelf","_law_name"] (qAg qVk):=by norm_cast
theorem qb0 (T:Txt w K mg):FnD P w K mg base 1 "_law_on" 2 qO2:=by
 have sc:=qct
 refine qBi (k:=0) (h:=qbv) (ps:=["_law_shelf","_law_name"]) T.t_L_on sc #[5] #[13] fun f cdv A outer s H E hr=>?_
 exact ⟨_,(qAj (qAp (qCy rfl sc.nd (qBa (qAg qVk) ["_law_shelf","_law_name"] rfl rfl #[19]) (qCp (qAb 0)) (fun _ _ _ _ _=>(qEg (qAy #[40] #[32] (qAb 2) (qA6 _)))) (fun _ _ _ _ _=>(PX.d (qAb 0))))))⟩
def qSw:qAi→Rs Fl:=
 (qBb (qCk 3 (qB4 (qAd (qAo qIy 2 #[42]) W.walk) (qAd (qAm neW (qAo qO2 2 (qAc (qAm ixW (qAm ixW (var 1) #[2]) #[9]) (qAc (var 3) qAz))) (qAd qB9 qBt)) W.bool) (qBc #[2])))
  (qBb (ifF (qAd (qAm eqW (var 3) (qAd qB9 qBt)) W.bool) (qBw #[16]) qCw)
  (qBw (toW (qAd (qAw (qBc (qAm ixW (var 3) #[11])) (qAw (qBc (var 2)) qB9)) qB0)))))
def qD1:List W→Rs W:=mir ["_law_world_here","_law_loader","_law_name","_law_some"] qSw
theorem qVf:FnScope ["_law_world_here","_law_loader","_law_name","_law_some"] ["_law_world_here","_law_loader","_law_name"] (qAg qMp):=by norm_cast
theorem qNe (T:Txt w K mg):FnD P w K mg base 2 "_law_find" 3 qD1:=by
 have sc:=qVf
 refine qBi (k:=1) (h:=qSw) (ps:=["_law_world_here","_law_loader","_law_name"]) T.t_L_find sc #[5] #[13] fun f cdv A outer s H E hr=>?_
 exact ⟨_,(qAf (qMv 3 rfl sc.nd (qBa (qAg qMp) ["_law_world_here","_law_loader","_law_name","_law_some"] rfl rfl #[19]) (qCp (qAl (qar T) #[6] rfl #[55] rfl)) (fun _ _ _ _ _=>(qEg (qAy (qLm (qG3 hr)) (qAl (qb0 T) #[6] rfl (qAa (qA7 (qA7 (qAb 1) (qAb 0) #[15]) #[4] #[15]) (qAa (qAb 3) qAe)) rfl) (qBs qAt) (qA6 _)))) (fun _ _ _ _ _=>(PX.d (qAb 0))))
  (qAf (qBe (qAy #[40] (qAb 3) (qBs qAt) (qA6 _)) (qAj (qAp #[28])) qA2)
  (qAj (qAp (PXd.w (qB3 (qAk (PX.d (qA7 (qAb 3) #[4] #[15])) (qAk (PX.d (qAb 2)) qAt))))))))⟩
def qKf:qAi→Rs Fl:=
 (qBw (qAm ixW (qAo qO2 2 (qAc (qAm ixW (qAm ixW #[2] (qAm ixW (var 1) #[11])) #[9]) (qAc (qAm ixW (var 1) #[9]) qAz))) #[11]))
def qDq:List W→Rs W:=mir ["_law_world_here","_law_thing"] qKf
theorem qOc:FnScope ["_law_world_here","_law_thing"] ["_law_world_here","_law_thing"] (qAg qJm):=by norm_cast
theorem qGl (T:Txt w K mg):FnD P w K mg base 2 "_law_file_of" 2 qDq:=by
 have sc:=qOc
 refine qBi (k:=1) (h:=qKf) (ps:=["_law_world_here","_law_thing"]) T.t_L_file_of sc #[5] #[13] fun f cdv A outer s H E hr=>?_
 exact ⟨_,(qAj (qAp (qA7 (qAl (qb0 T) #[6] rfl (qAa (qA7 (qA7 (qAb 0) #[66] #[15]) #[4] #[15]) (qAa #[66] qAe)) rfl) #[4] #[15])))⟩
def qKg:qAi→Rs Fl:=
 (qBb (qCk 1 (qAd qB9 qBt))
  (qBb (qGi (qAd (qFq 0) qRl) (qYr (qHd (qD6 2) (qHd (qD6 3) qdp)) 2) (qYk 1 (qB4 (qAd (qAm ixW (var 3) #[9]) W.walk) (qAd (qAm eqW (qAo qD1 3 (qAc (var 1) (qAc (var 3) (qAc (qAm ixW #[2] #[9]) qAz)))) (toW (qAd (qAw (qBc (var 3)) (qAw (qBc (qAm ixW #[2] #[9])) qB9)) qB0))) W.bool) (qAd (qAw (qBc (var 3)) (qAw (qBc (qAm ixW #[2] #[9])) qB9)) qB0))))
  (qBw (qAd (qAc (var 1) qAz) qTg))))
def qGe:List W→Rs W:=mir ["_law_world_here","_law_made","_law_number","_law_loader"] qKg
theorem qOd:FnScope ["_law_world_here","_law_made","_law_number","_law_loader"] ["_law_world_here"] (qAg qF7):=by norm_cast
theorem qRi (T:Txt w K mg):FnD P w K mg base 3 "_law_classes" 1 qGe:=by
 have sc:=qOd
 refine qBi (k:=2) (h:=qKg) (ps:=["_law_world_here"]) T.t_L_classes sc #[5] #[13] fun f cdv A outer s H E hr=>?_
 exact ⟨_,(qAf (qA1 1 sc.nd (qBs qAt))
  (qAf (qCf PassesOwn.never rfl (qGs 0 rfl T.b_enumerate) (qHs 2 rfl (qCc (qBn 2 sc.nd) (qCc (qBn 3 sc.nd) qFk))) (qAj (qHt 1 (qCy rfl sc.nd (qBa (qAg qF7) ["_law_world_here","_law_made","_law_number","_law_loader"] rfl rfl #[19]) (qCp (qA7 (qAb 3) #[4] #[15])) (fun _ _ _ _ _=>(qEg (qAy #[40] (qAl (qNe T) #[6] rfl (qAa (qAb 1) (qAa (qAb 3) (qAa #[32] qAe))) rfl) (PXd.w (qB3 (qAk (PX.d (qAb 3)) (qAk (PX.d #[32]) qAt)))) (qA6 _)))) (fun _ _ _ _ _=>(qB3 (qAk (PX.d (qAb 3)) (qAk (PX.d #[32]) qAt))))))))
  (qAj (qAp (qBp qIm rfl T.b_sorted PD.boot_sorted (qAa (qAb 1) qAe))))))⟩
def qPo:qAi→Rs Fl:=
 (qBb (qCk 2 (qAo qDq 2 #[42]))
  (qBb (qCk 3 (qB4 (qAd (qAm ixW (var 2) #[63]) W.walk) #[43] (qAd (qAw (qBc #[2]) (qAw (cst (.str "face")) qB9)) qB0)))
  (qBw (qAm qCr (qD5 (qAd (qAw (qAd (qAw (qBc (qAm ixW (var 2) #[27])) (qAw (cst (.str "class")) qB9)) qB0) qB9) qBt) qC6 (part (qAd (qAc (qAm qC3 (qAm ixW (var 2) #[27]) #[16]) qAz) qYj))) (var 3)))))
def qJ5:List W→Rs W:=mir ["_law_world_here","_law_thing","_law_file_here","_law_some"] qPo
theorem qTv:FnScope ["_law_world_here","_law_thing","_law_file_here","_law_some"] ["_law_world_here","_law_thing"] (qAg qJo):=by norm_cast
theorem qXs (T:Txt w K mg):FnD P w K mg base 3 "_law_above" 2 qJ5:=by
 have sc:=qTv
 refine qBi (k:=2) (h:=qPo) (ps:=["_law_world_here","_law_thing"]) T.t_L_above sc #[5] #[13] fun f cdv A outer s H E hr=>?_
 exact ⟨_,(qAf (qA1 2 sc.nd (qAl (qGl T) #[6] rfl #[55] rfl))
  (qAf (qMv 3 rfl sc.nd (qBa (qAg qJo) ["_law_world_here","_law_thing","_law_file_here","_law_some"] rfl rfl #[19]) (qCp #[71]) (fun _ _ _ _ _=>qCx) (fun _ _ _ _ _=>(qB3 (qAk (PX.d (qAb 0)) (qAk qBo qAt)))))
  (qAj (qAp (qBl qA4 (qDj (qBs (qAk (qB3 (qAk (PX.d #[71]) (qAk qBo qAt))) qAt)) qDi (qDh (qC9 qHe rfl T.b_int boot_int (qAa (qCz qCm #[71] #[28] (qA6 _)) qAe)))) (qAb 3))))))⟩
def qG7 (M_self:List W→Rs W):qAi→Rs Fl:=
 (qBb (qGi (qAd (qAo qJ5 2 #[42]) W.walkN) (qYr (qHd (qD6 3) (qHd (qD6 4) qdp)) 2) (qBb (qCk 5 (qAo qD1 3 (qAc #[2] (qAc (qAm ixW (var 1) #[11]) (qAc (var 3) qAz)))))
  (qBb (ifF (qAd (qAm isW (var 5) #[16]) W.bool) (qBw (toW (qAd (qAw (cst (.str "lacks")) (qAw (qBc (var 3)) qB9)) qB0))) qCw)
  (qBb (ifF (qAd (qAm neW (qAm ixW (qAo qDq 2 (qAc #[2] (qAc (var 5) qAz))) #[11]) (var 4)) W.bool) (qBw (toW (qAd (qAw (cst (.str "kind")) (qAw (qBc (var 3)) qB9)) qB0))) qCw)
  (qBb (ifF (qAd (qAm inW (var 5) (qAm qCr (var 2) (qAd (qAw (qBc (var 1)) qB9) qBt))) W.bool) (qBw (toW (qAd (qAw (cst (.str "ring")) (qAw (qBc (var 3)) qB9)) qB0))) qCw)
  (qBb (qCk 6 (qAo M_self 3 (qAc #[2] (qAc (var 5) (qAc (qAm qCr (var 2) (qAd (qAw (qBc (var 1)) qB9) qBt)) qAz)))))
  (ifF (qAd (qAm qC3 (var 6) #[16]) W.bool) (qBw (qNx 6)) qCw)))))))
  (qBw #[16]))
theorem qVe:FnScope ["_law_world_here","_law_thing","_law_path","_law_name","_law_kind","_law_other","_law_why"] ["_law_world_here","_law_thing","_law_path"] (qAg qR5):=by norm_cast
theorem qXd (T:Txt w K mg){k:Nat}(hk:3≤k){M:List W→Rs W}(F_self:FnD P w K mg base k "_law_flaw" 3 M):FnD P w K mg base (k + 1) "_law_flaw" 3 (mir ["_law_world_here","_law_thing","_law_path","_law_name","_law_kind","_law_other","_law_why"] (qG7 M)):=by
 have sc:=qVe
 refine qBi (k:=k) (h:=qG7 M) (ps:=["_law_world_here","_law_thing","_law_path"]) T.t_L_flaw sc #[5] #[13] fun f cdv A outer s H E hr=>?_
 exact ⟨_,(qAf (qCf PassesOwn.never rfl (qEz (qAl (qXs T) (hr.mono #[0]) rfl #[55] rfl)) (qHs 2 rfl (qCc (qBn 3 sc.nd) (qCc (qBn 4 sc.nd) qFk))) (qAf (qA1 5 sc.nd (qAl (qNe T) (hr.mono #[0]) rfl (qAa (qAb 0) (qAa #[66] (qAa (qAb 3) qAe))) rfl))
  (qAf (qBe (qAy qIf (qAb 5) #[28] (qA6 _)) (qAj (qAp (PXd.w (qB3 (qAk qBo (qAk (PX.d (qAb 3)) qAt)))))) qA2)
  (qAf (qBe (qAy (qLm (qG3 hr)) (qA7 (qAl (qGl T) (hr.mono #[0]) rfl (qAa (qAb 0) (qAa (qAb 5) qAe)) rfl) #[4] #[15]) (qAb 4) (qA6 _)) (qAj (qAp (PXd.w (qB3 (qAk qBo (qAk (PX.d (qAb 3)) qAt)))))) qA2)
  (qAf (qBe (qAy (qIg (qUu hr)) (qAb 5) (qBl qA4 (qAb 2) (qBs (qAk (PX.d (qAb 1)) qAt))) #[65]) (qAj (qAp (PXd.w (qB3 (qAk qBo (qAk (PX.d (qAb 3)) qAt)))))) qA2)
  (qAf (qA1 6 sc.nd (qAl F_self (hr.mono #[0]) rfl (qAa (qAb 0) (qAa (qAb 5) (qAa (qBl qA4 (qAb 2) (qBs (qAk (PX.d (qAb 1)) qAt))) qAe))) rfl))
  (qAj (qBe (qAy qCm (qAb 6) #[28] (qA6 _)) (qAj (qDw 6)) qA2))))))))
  (qAj (qAp #[28])))⟩
def qD0:Nat→List W→Rs W
 | 0=>fun _=>.no
 | n + 1=>mir ["_law_world_here","_law_thing","_law_path","_law_name","_law_kind","_law_other","_law_why"] (qG7 (qD0 n))
theorem qPs (T:Txt w K mg):∀ n:Nat,FnD P w K mg base (3 + n) "_law_flaw" 3 (qD0 n)
 | 0=>fnD_no (ps:=["_law_world_here","_law_thing","_law_path"]) T.t_L_flaw #[13]
 | n + 1=>qXd T (k:=3 + n) #[0] (qPs T n)
theorem qas (T:Txt w K mg):FnD P w K mg base 23 "_law_flaw" 3 (qD0 20):=qPs T 20
def qL4:qAi→Rs Fl:=
 (qBb (ifF (qAd (qAm qC3 (qAo (qD0 20) 3 (qAc #[2] (qAc (var 1) (qAc (qAd qB9 qBt) qAz)))) #[16]) W.bool) (qBw (qAd qB9 qBt)) qCw)
  (qBb (qCk 2 (qAo qDq 2 #[42]))
  (qBb (qCk 3 (qD5 (qAd (qAw (qBc (qAm ixW (var 2) #[27])) qB9) qBt) qC6 (part (qAd (qAc (qAm qC3 (qAm ixW (var 2) #[27]) #[16]) qAz) qYj))))
  (qBb (qGi (qAd (qAm ixW (var 2) #[53]) W.walkN) (qD6 4) (ifF (qAd (qAm inW (qAm ixW (var 4) #[11]) (toW (qAd (qAw (cst (.str "need")) (qAw (cst (.str "read")) qB9)) qB0))) W.bool) (qI2 3 (qBc #[102])) qCw))
  (qBb (qCk 5 (qAd qB9 qBt))
  (qBb (frzB 3 (qGi (qFq 3) (qD6 6) (qBb (qCk 7 (qAo qD1 3 (qAc #[2] (qAc (qAm ixW (var 1) #[11]) (qAc (var 6) qAz)))))
  (ifF (qUp (qAd (qAm qC3 (var 7) #[16]) W.bool) (qAd (qAm qE4 (var 7) (var 5)) W.bool)) (qI2 5 (qBc (var 7))) qCw))))
  (qBw (qNx 5))))))))
def qCe:List W→Rs W:=mir ["_law_world_here","_law_thing","_law_file_here","_law_names_here","_law_row_here","_law_made","_law_name","_law_other"] qL4
theorem qQy:FnScope ["_law_world_here","_law_thing","_law_file_here","_law_names_here","_law_row_here","_law_made","_law_name","_law_other"] ["_law_world_here","_law_thing"] (qAg qLe):=by norm_cast
theorem qH4 (T:Txt w K mg):FnD P w K mg base 24 "_law_arrows" 2 qCe:=by
 have sc:=qQy
 refine qBi (k:=23) (h:=qL4) (ps:=["_law_world_here","_law_thing"]) T.t_L_arrows sc #[5] #[13] fun f cdv A outer s H E hr=>?_
 exact ⟨_,(qAf (qBe (qAy qCm (qAl (qas T) #[6] rfl (qAa (qAb 0) (qAa (qAb 1) (qAa (qBs qAt) qAe))) rfl) #[28] (qA6 _)) (qAj (qAp (qBs qAt))) qA2)
  (qAf (qA1 2 sc.nd (qAl (qGl T) #[6] rfl #[55] rfl))
  (qAf (qA1 3 sc.nd (qDj (qBs (qAk (PX.d #[71]) qAt)) qDi (qDh (qC9 qHe rfl T.b_int boot_int (qAa (qCz qCm #[71] #[28] (qA6 _)) qAe)))))
  (qAf (qCf PassesOwn.never rfl (qEz #[71]) (qBn 4 sc.nd) (qAj (qBe (qAy (qIg (qUu hr)) (qA7 (qAb 4) #[4] #[15]) (PXd.w (qB3 (qAk qBo (qAk qBo qAt)))) #[65]) (qAj (qCd 3 (PX.d (qA7 (qAb 4) (qBl qA4 (qC9 qHe rfl T.b_int boot_int (qAa (qCz #[40] (qA7 (qAb 4) #[4] #[15]) (PXd.w qBo) (qA6 _)) qAe)) #[4]) #[15])))) qA2)))
  (qAf (qA1 5 sc.nd (qBs qAt))
  (qAf (qZk 3 (qCf PassesOwn.never rfl (qVv 3) (qBn 6 sc.nd) (qAf (qA1 7 sc.nd (qAl (qNe T) #[6] rfl (qAa (qAb 0) (qAa #[66] (qAa (qAb 6) qAe))) rfl))
  (qAj (qBe (PXw.t (qHr (qAy qCm (qAb 7) #[28] (qA6 _)) (qIv (qAy (qJy (qUu hr)) (qAb 7) (qAb 5) #[65])))) (qAj (qCd 5 (PX.d (qAb 7)))) qA2)))))
  (qAj (qDw 5))))))))⟩
def qPl:qAi→Rs Fl:=
 (qBb (qCk 2 (qAd (qAc (var 1) qAz) lstA))
  (qBb (qCk 3 #[11])
  (qBb (qCb (qAd (qAm ltW (var 3) (qAd (qAc (var 2) qAz) qIs)) W.bool) (qBb (qYk 2 #[113])
  (qCk 3 (qAm qCr (var 3) #[9]))) 1000)
  (qBw (qNx 2)))))
def qFb:List W→Rs W:=mir ["_law_world_here","_law_some","_law_made","_law_at"] qPl
theorem qTs:FnScope ["_law_world_here","_law_some","_law_made","_law_at"] ["_law_world_here","_law_some"] (qAg qJl):=by norm_cast
theorem qPy (T:Txt w K mg):FnD P w K mg base 25 "_law_reach" 2 qFb:=by
 have sc:=qTs
 refine qBi (k:=24) (h:=qPl) (ps:=["_law_world_here","_law_some"]) T.t_L_reach sc #[5] #[13] fun f cdv A outer s H E hr=>?_
 exact ⟨_,(qAf (qA1 2 sc.nd (qC9 qMa rfl T.b_list boot_list (qAa (qAb 1) qAe)))
  (qAf (qA1 3 sc.nd #[4])
  (qAf (qE1 1000 PassesOwn.never (qAy qJz (qAb 3) (qBp qB1 rfl T.b_len boot_len (qAa (qAb 2) qAe)) (qA6 _)) (qAf (qHt 2 (qCy rfl sc.nd (qBa (qAg qJl) ["_law_world_here","_law_some","_law_made","_law_at"] rfl rfl #[19]) (qCp (qAl (qH4 T) #[6] rfl (qAa (qAb 0) (qAa (qA7 (qAb 2) (qAb 3) #[15]) qAe)) rfl)) (fun _ _ _ _ _=>(qEg (qAy (qJy (qUu hr)) (qAb 0) (qAb 3) #[65]))) (fun _ _ _ _ _=>(PX.d (qAb 0)))))
  (qAj (qA1 3 sc.nd (qBl qA4 (qAb 3) #[4])))))
  (qAj (qDw 2)))))⟩
def qFx:qAi→Rs Fl:=
 (qBw (qAm inW (var 1) (qAo qFb 2 (qAc #[2] (qAc (qAo qCe 2 #[42]) qAz)))))
def qBr:List W→Rs W:=mir ["_law_world_here","_law_thing"] qFx
theorem qJf:FnScope ["_law_world_here","_law_thing"] ["_law_world_here","_law_thing"] (qAg qFv):=by norm_cast
theorem qFz (T:Txt w K mg):FnD P w K mg base 26 "_law_comes_back" 2 qBr:=by
 have sc:=qJf
 refine qBi (k:=25) (h:=qFx) (ps:=["_law_world_here","_law_thing"]) T.t_L_comes_back sc #[5] #[13] fun f cdv A outer s H E hr=>?_
 exact ⟨_,(qAj (qAp (qCz (qIg (qUu hr)) (qAb 1) (qAl (qPy T) #[6] rfl (qAa (qAb 0) (qAa (qAl (qH4 T) #[6] rfl #[55] rfl) qAe)) rfl) #[65])))⟩
def h_law:qAi→Rs Fl:=
 (qBb (qCk 1 (qAo qGz 2 (qAc #[2] (qAc (toW (cst (.int 20))) qAz))))
  (qBb (qCk 2 (qAo qGy 5 (qAc #[2] (qAc (toW (cst (.int 100))) (qAc (var 1) (qAc #[63] (qAc #[53] qAz)))))))
  (qBb (qCk 3 (toW (qBc (qAo qGe 1 (qAc (var 2) qAz)))))
  (qBb (ifF (qAd (qAm neW (qAo qEj 1 (qAc (var 2) qAz)) (qB4 (qAd (var 3) W.walk) (qAd (qAo qBr 2 (qAc (var 3) #[23])) W.tru) (qBc #[2]))) W.bool) #[69] qCw)
  (qBb (qGi (qFq 3) (qD6 4) (qBb (qCk 5 (qAo qO1 2 (qAc (var 2) (qAc (var 4) qAz))))
  (qBb (qCk 6 (qAo qFb 2 (qAc (var 2) (qAc (qAd (qAw (qBc (var 4)) qB9) qBt) qAz))))
  (qBb (ifF (qAd (qAm neW (qAm isW (var 5) #[16]) (notW (qAd #[106] qb8))) W.bool) #[69] qCw)
  (ifF (qAd (qAm qC3 (var 5) #[16]) W.bool) (qBb (ifF (orB (qAd (qAm ltW (qAd (qAc (var 5) qAz) qIs) #[27]) W.bool) (orB (qAd (qAm neW (qAm ixW (var 5) #[11]) (qAm ixW (var 5) (qAd #[9] qWi))) W.bool) (qAd (qAm qE4 (qAm ixW (var 5) #[11]) (var 6)) W.bool))) #[69] qCw)
  (ifF (qGb (qAd (qAd (qAc (qX1 (qAd (qAc (var 5) (qAc (qD5 (var 5) (part #[9]) qC6) qAz)) zipA) #[43] (qBc (qAm inW (var 1) (qAo qCe 2 (qAc (var 4) #[23]))))) qAz) qUq) W.tru)) #[69] qCw)) qCw)))))
  (qBw (toW (cst (.bl true)))))))))
def m_law:List W→Rs W:=mir ["_law_script","_law_names_here","_law_world_here","_law_every","_law_thing","_law_told","_law_some"] h_law
theorem sc_law:FnScope ["_law_script","_law_names_here","_law_world_here","_law_every","_law_thing","_law_told","_law_some"] ["_law_script"] (qAg qTw):=by norm_cast
theorem ok_law (T:Txt w K mg){f:Addr}{fd:FuncData}(F:L2.Fun K "law" "law" qTw f fd):FnOk P w K mg base CX0 49 f fd ["_law_script"] (spD K 1 m_law):=by
 have sc:=sc_law
 refine PD.Fun.okD F sc #[5] fun cdv A outer s H E hr=>?_
 exact ⟨_,(qAf (qA1 1 sc.nd (qAl (qXr T) #[6] rfl (qAa (qAb 0) (qAa #[4] qAe)) rfl))
  (qAf (qA1 2 sc.nd (qAl (qXp T) #[6] rfl (qAa (qAb 0) (qAa #[4] (qAa (qAb 1) (qAa #[4] (qAa #[4] qAe))))) rfl))
  (qAf (qA1 3 sc.nd (PXd.w (PX.d (qAl (qRi T) #[6] rfl (qAa (qAb 2) qAe) rfl))))
  (qAf (qBe (qAy (qLm (qG3 hr)) (qAl (qRh T) #[6] rfl (qAa (qAb 2) qAe) rfl) (qCy rfl sc.nd (qNk (qAg qTw) ["_law_script","_law_names_here","_law_world_here","_law_every","_law_thing","_law_told","_law_some"] ["_law_script","_law_names_here","_law_world_here","_law_every","?_law_thing","_law_told","_law_some"] rfl rfl #[19]) (qCp (qAb 3)) (fun _ _ _ _ _=>(qEg (qBx (qAl (qFz T) #[6] rfl (qAa (qAb 3) #[54]) rfl)))) (fun _ _ _ _ _=>(PX.d (qAb 0)))) (qA6 _)) #[70] qA2)
  (qAf (qCf PassesOwn.never rfl (qVv 3) (qBn 4 sc.nd) (qAf (qA1 5 sc.nd (qAl (f_ring T) #[6] rfl (qAa (qAb 2) (qAa (qAb 4) qAe)) rfl))
  (qAf (qA1 6 sc.nd (qAl (qPy T) #[6] rfl (qAa (qAb 2) (qAa (qBs (qAk (PX.d (qAb 4)) qAt)) qAe)) rfl))
  (qAf (qBe (qAy (qLm (qG3 hr)) (qCz qIf (qAb 5) #[28] (qA6 _)) (px_not (qBp (qX9 rfl) rfl T.b_any boot_any (qAa (qCy rfl sc.nd (qBa (qAg qTw) ["_law_script","_law_names_here","_law_world_here","_law_every","_law_thing","_law_told","_law_some"] rfl rfl #[19]) (qCp (qAb 6)) (fun _ _ _ _ _=>qCx) (fun _ _ _ _ _=>(PX.d (qAl (qFz T) #[6] rfl (qAa (qAb 3) #[54]) rfl)))) qAe))) (qA6 _)) #[70] qA2)
  (qAj (qBe (qAy qCm (qAb 5) #[28] (qA6 _)) (qAf (qBe (PXw.t (qId (qAy qJz (qBp qB1 rfl T.b_len boot_len (qAa (qAb 5) qAe)) #[4] (qA6 _)) (qId (qAy (qLm (qG3 hr)) (qA7 (qAb 5) #[4] #[15]) (qA7 (qAb 5) (qSe #[4]) #[15]) (qA6 _)) (qF9 (qAy (qJy (qUu hr)) (qA7 (qAb 5) #[4] #[15]) (qAb 6) #[65]))))) #[70] qA2)
  (qAj (qBe (qCo (qBx (qBp (qFh rfl) rfl T.b_all boot_all (qAa (qZc rfl sc.nd (qNl (qAg qTw) ["_law_script","_law_names_here","_law_world_here","_law_every","_law_thing","_law_told","_law_some"] rfl rfl #[19]) (qc2 rfl T.b_zip (qAa (qAb 5) (qAa (qDj (qAb 5) (qDh #[4]) qDi) qAe))) (fun _ _ _ _ _=>qCx) (fun _ _ _ _ _=>(PX.d (qCz (qIg (qUu hr)) (qAb 1) (qAl (qH4 T) #[6] rfl (qAa (qAb 4) #[54]) rfl) #[65])))) qAe)))) #[70] qA2))) qA2))))))
  (qAj (qAp (PXd.w qEt))))))))⟩
end T09
namespace T09
open PySem L2 PD
abbrev I (i:Int):W:=.im (.int i)
abbrev S (ns:List Int):W:=.im #[37]
abbrev Tr:W:=.im (.bl true)
theorem okb {α β:Type}(a:α)(f:α→Rs β):(Rs.ok a>>=f)=f a:=Eq.symm (Eq.symm (PD.ok_bind a f))
theorem mul_ok {i j:Int}(h:(-18446744073709551616 < i∧i < 18446744073709551616)∨(-18446744073709551616 < j∧j < 18446744073709551616)):qSn (.im (.int i)) (.im (.int j))=.ok (.im (.int (i * j))):=if_pos h
theorem mod_ok {i j:Int}(h:0 < j):qdq (.im (.int i)) (.im (.int j))=.ok (.im (.int (i % j))):=if_pos h
theorem add_int {i j:Int}:qCr (.im (.int i)) (.im (.int j))=.ok (.im (.int (i + j))):=rfl
theorem add_str {x y:Str}(h:x.length + y.length≤16777216):qCr (.im (.str x)) (.im (.str y))=.ok (.im (.str (x++y))):=if_pos h
theorem qEr {f g:Bool}{x y:List D}(h:x.length + y.length≤16777216):qCr (.li f x) (.li g y)=.ok (.li true (x++y)):=if_pos h
theorem qb1 {i j:Int}:eqW (.im (.int i)) (.im (.int j))=.ok (.im (.bl (decide (i=j)))):=by
 show (if qA3 50 (D.int i)=true∧qA3 50 (D.int j)=true then Rs.ok (W.im (D.bl (i == j))) else Rs.no)=_
 rw [if_pos ⟨rfl,rfl⟩];rfl
theorem eq_str {x y:Str}:eqW (.im (.str x)) (.im (.str y))=.ok (.im (.bl (decide (x=y)))):=by
 show (if qA3 50 (D.str x)=true∧qA3 50 (D.str y)=true then Rs.ok (W.im (D.bl (x == y))) else Rs.no)=_
 rw [if_pos ⟨rfl,rfl⟩];rfl
theorem qed {x:Str}:eqW (.im (.str x)) (.im .non)=.ok (.im (.bl false)):=rfl
theorem ne_str {x y:Str}:neW (.im (.str x)) (.im (.str y))=.ok (.im (.bl (!decide (x=y)))):=by
 show (if qA3 50 (D.str x)=true∧qA3 50 (D.str y)=true then Rs.ok (W.im (D.bl (!(x == y)))) else Rs.no)=_
 rw [if_pos ⟨rfl,rfl⟩];rfl
theorem mkTup0:qB0 []=.ok (.tup []):=rfl
theorem mkTup1 {a:D}:qB0 [a]=.ok (.tup [a]):=if_pos #[35]
theorem mkTup2 {a b:D}:qB0 [a,b]=.ok (.tup [a,b]):=if_pos #[35]
theorem mkTup3 {a b c:D}:qB0 [a,b,c]=.ok (.tup [a,b,c]):=if_pos #[35]
theorem mkTup4 {a b c d:D}:qB0 [a,b,c,d]=.ok (.tup [a,b,c,d]):=if_pos #[35]
theorem mkTup5 {a b c d e:D}:qB0 [a,b,c,d,e]=.ok (.tup [a,b,c,d,e]):=if_pos #[35]
theorem mkLst0:qBt []=.ok (.li true []):=rfl
theorem mkLst1 {a:D}:qBt [a]=.ok (.li true [a]):=if_pos #[35]
theorem mkLst2 {a b:D}:qBt [a,b]=.ok (.li true [a,b]):=if_pos #[35]
theorem mkLst3 {a b c:D}:qBt [a,b,c]=.ok (.li true [a,b,c]):=if_pos #[35]
theorem mkLst4 {a b c d:D}:qBt [a,b,c,d]=.ok (.li true [a,b,c,d]):=if_pos #[35]
theorem mkLst5 {a b c d e:D}:qBt [a,b,c,d,e]=.ok (.li true [a,b,c,d,e]):=if_pos #[35]
theorem mkLst6 {a b c d e f:D}:qBt [a,b,c,d,e,f]=.ok (.li true [a,b,c,d,e,f]):=if_pos #[35]
theorem qSa {j:Int}(h:-4611686018427387904≤j∧j < 4611686018427387904):qYg [.im (.int j)]=.ok (qC4 j.toNat):=if_pos h
theorem qcw {n:Nat}(h:n < 1000):qYg [.im (.int (n:Int))]=.ok (qC4 n):=by
 have:=qSa (j:=(n:Int)) ⟨by omega,by omega⟩
 rw [this,Int.toNat_natCast]
theorem tyS:(("str":String) == "str")=true:=rfl
theorem qDm {α:Sort u}{a b:α}:(if True then a else b)=a:=rfl
theorem qDs {α:Sort u}{a b:α}:(if False then a else b)=b:=rfl
theorem qd2 {α:Sort u}{a b:α}:(if true=true then a else b)=a:=rfl
theorem qd3 {α:Sort u}{a b:α}:(if false=true then a else b)=b:=rfl
theorem len0 {α:Sort u}{a b:α}:(if (0:Nat)=0 then a else b)=a:=rfl
theorem len1 {α:Sort u}{a b:α}:(if 0 + 1=1 then a else b)=a:=rfl
theorem len2 {α:Sort u}{a b:α}:(if 0 + 1 + 1=2 then a else b)=a:=rfl
theorem len3 {α:Sort u}{a b:α}:(if 0 + 1 + 1 + 1=3 then a else b)=a:=rfl
theorem len5 {α:Sort u}{a b:α}:(if 0 + 1 + 1 + 1 + 1 + 1=5 then a else b)=a:=rfl
local macro_rules | `(tactic| push_cast [$ls,*]) => `(tactic| simp (disch := omega) only [$ls,*, qAm, qAd, toW, qBc, qAc, qAw, qAz, qB9, qAo, qGb, notW, qD5, qB4, part, qC6, qUp, orB, qK5, orW, ifW, qF0, var, qNx, qFq, cst, okb, List.getElem?_cons_zero, List.getElem?_cons_succ, List.length_cons, List.length_nil, W.toD, W.bool, W.tru, W.items, W.walk, W.walkN, W.part, add_int, add_str, qEr, qbe, ltW, leW, gtW, geW, isW, qC3, qWi, qYj, qci, qIs, qYi, tyD, asg, qCk, qBw, qI2, qYk, qD6, qHd, qYr, qdp, qRl, mul_ok, mod_ok, qb1, eq_str, qed, ne_str, mkTup0, mkTup1, mkTup2, mkTup3, mkTup4, mkTup5, mkLst0, mkLst1, mkLst2, mkLst3, mkLst4, mkLst5, mkLst6, qSa, tyS, qDm, qDs, qd2, qd3, List.set_cons_zero, List.set_cons_succ, Bool.not_true, Bool.not_false, len1, len2, len3, len5, len0])
local macro_rules | `(tactic| push_cast only [$ls,*]) => `(tactic| (push_cast [$ls,*]; try exact rfl))
def Run (h:qAi→Rs Fl)(δ:qAi)(Q:Fl→Prop):Prop:=∃ f,h δ=.ok f∧Q f
theorem qAq {h k:qAi→Rs Fl}{δ δ':qAi}{Q:Fl→Prop}(e:h δ=.ok (.nx δ'))(r:Run k δ' Q):Run (qBb h k) δ Q:=by
 obtain ⟨f,hf,q⟩:=r
 exact ⟨f,by simp only [qBb,e,hf],q⟩
theorem qCl {h k:qAi→Rs Fl}{δ:qAi}{Q1:qAi→Prop}{Q:Fl→Prop}(e:Run h δ fun f=>∃ δ',f=.nx δ'∧Q1 δ')(r:∀ δ',Q1 δ'→Run k δ' Q):Run (qBb h k) δ Q:=by
 obtain ⟨f,hf,δ',rfl,q⟩:=e
 exact qAq hf (r δ' q)
theorem qMr {h k:qAi→Rs Fl}{δ:qAi}{Q:Fl→Prop}{w:W}(e:h δ=.ok (.rt w))(q:Q (.rt w)):Run (qBb h k) δ Q:=⟨_,by simp only [qBb,e],q⟩
theorem qDb {t:qAi→Rs Bool}{h k:qAi→Rs Fl}{δ:qAi}{Q:Fl→Prop}{b:Bool}(e:t δ=.ok b)(h1:b=true→Run h δ Q)(h2:b=false→Run k δ Q):Run (ifF t h k) δ Q:=by
 cases b with
 | true=>obtain ⟨f,hf,q⟩:=h1 rfl;exact ⟨f,by simp only [ifF,e,PD.ok_bind,qd2,qDm,hf],q⟩
 | false=>obtain ⟨f,hf,q⟩:=h2 rfl;exact ⟨f,by simp only [ifF,e,PD.ok_bind,qd3,qDs,Bool.false_eq_true,hf],q⟩
theorem qcu {t:qAi→Rs Bool}{h k:qAi→Rs Fl}{δ:qAi}{Q:Fl→Prop}(e:t δ=.ok false)(h1:Run k δ Q):Run (ifF t h k) δ Q:=qDb e (fun x=>nomatch x) (fun _=>h1)
theorem qAs {t:qAi→Rs Bool}{h k r:qAi→Rs Fl}{δ:qAi}{Q:Fl→Prop}{b:Bool}(e:t δ=.ok b)(h1:b=true→Run (qBb h r) δ Q)(h2:b=false→Run (qBb k r) δ Q):Run (qBb (ifF t h k) r) δ Q:=by
 cases b with
 | true=>obtain ⟨f,hf,q⟩:=h1 rfl;refine ⟨f,?_,q⟩;rw [←hf];simp only [qBb,ifF,e,PD.ok_bind,qd2,qDm]
 | false=>obtain ⟨f,hf,q⟩:=h2 rfl;refine ⟨f,?_,q⟩;rw [←hf];simp only [qBb,ifF,e,PD.ok_bind,qd3,Bool.false_eq_true,qDs]
theorem qBg {δ:qAi}{Q:Fl→Prop}{k:qAi→Rs Fl}(r:Run k δ Q):Run (qBb qCw k) δ Q:=qAq rfl r
theorem qAv {g:qAi→Rs W}{δ:qAi}{Q:Fl→Prop}{w:W}(e:g δ=.ok w)(q:Q (.rt w)):Run (qBw g) δ Q:=⟨_,by simp only [qBw,e,PD.ok_bind],q⟩
theorem qBq {g:qAi→Rs W}{k:qAi→Rs Fl}{δ:qAi}{Q:Fl→Prop}{w:W}(e:g δ=.ok w)(q:Q (.rt w)):Run (qBb (qBw g) k) δ Q:=qMr (by simp only [qBw,e,PD.ok_bind]) q
theorem qJp {N:List Str}{h:qAi→Rs Fl}{ws:List W}{P:W→Prop}(r:Run h (frame N ws) fun f=>∃ w,f=.rt w∧P w):∃ w,mir N h ws=.ok w∧P w:=by
 obtain ⟨f,hf,w,rfl,p⟩:=r
 exact ⟨w,by show (h _>>=fin)=_;rw [hf];rfl,p⟩
theorem qAx {N:List Str}{h:qAi→Rs Fl}{ws:List W}{w:W}(r:Run h (frame N ws) fun f=>f=.rt w):mir N h ws=.ok w:=by
 obtain ⟨f,hf,rfl⟩:=r
 show (h _>>=fin)=_;rw [hf];rfl
theorem qSz {t:D→qAi→Rs qAi}{b:qAi→Rs Fl}:∀ (ds:List D) (J:Nat→qAi→Prop) (δ:qAi),J 0 δ→
  (∀ (i:Nat) (d:D) (δ:qAi),ds[i]?=some d→J i δ→∃ δ1,t d δ=.ok δ1∧Run b δ1 fun f=>∃ δ2,f=.nx δ2∧J (i + 1) δ2)→∃ δ',qEv t b ds δ=.ok (.nx δ')∧J ds.length δ'
 | [],J,δ,h0,_=>⟨δ,rfl,h0⟩
 | d::ds,J,δ,h0,hs=>by
  obtain ⟨δ1,e1,f,e2,δ2,rfl,j⟩:=hs 0 d δ rfl h0
  obtain ⟨δ',e3,j'⟩:=qSz ds (fun i=>J (i + 1)) δ2 j fun i d' δ h hj=>hs (i + 1) d' δ h hj
  exact ⟨δ',by simp only [qEv,e1,e2,e3],j'⟩
theorem qEy {gi:qAi→Rs (List D)}{t:D→qAi→Rs qAi}{b:qAi→Rs Fl}{δ:qAi}{ds:List D}{Q:Fl→Prop}(J:Nat→qAi→Prop)(e:gi δ=.ok ds)(h0:J 0 δ)
  (hs:∀ (i:Nat) (d:D) (δ:qAi),ds[i]?=some d→J i δ→∃ δ1,t d δ=.ok δ1∧Run b δ1 fun f=>∃ δ2,f=.nx δ2∧J (i + 1) δ2) (hq:∀ δ',J ds.length δ'→Q (.nx δ')):Run (qGi gi t b) δ Q:=by
 obtain ⟨δ',e',j⟩:=qSz ds J δ h0 hs
 exact ⟨_,by simp only [qGi,e,PD.ok_bind];exact e',hq _ j⟩
theorem qG2 {w:W}{ds:List D}{b:Bool}{i:Int}{d:D}(hw:w.items=some (b,ds))(h0:0≤i)(h:ds[i.toNat]?=some d):ixW w (.im (.int i))=.ok (.im d):=by
 have hl:i.toNat < ds.length:=by
  rcases Nat.lt_or_ge i.toNat ds.length with g | g
  ·exact g
  ·rw [List.getElem?_eq_none g] at h;cases h
 have:atI ds i=some d:=by
  unfold atI ixN
  rw [if_pos h0,if_pos #[0]];exact h
 simp only [ixW,hw,this]
theorem qdu {w:W}{ds:List D}{b:Bool}{d:D}(hw:w.items=some (b,ds))(h:ds[ds.length - 1]?=some d):ixW w (.im (.int (-1)))=.ok (.im d):=by
 have hl:ds.length - 1 < ds.length:=by
  rcases Nat.lt_or_ge (ds.length - 1) ds.length with g | g
  ·exact g
  ·rw [List.getElem?_eq_none g] at h;cases h
 have:atI ds (-1)=some d:=by
  unfold atI ixN
  rw [if_neg #[0],if_pos #[0]]
  have e:((-1:Int) + (ds.length:Int)).toNat=ds.length - 1:=by omega
  rw [e];exact h
 simp only [ixW,hw,this]
def cell (ns:List Int)(k:Int):Int:=if k < ns.length then ns.getD k.toNat 0 else if ns=[] then 0 else ns.getD (k % ns.length).toNat 0 * 31 + k
def mx (ns:List Int)(k many:Int):Int:=let d:=(cell ns k + 7919 * k + 1) * 48271 % 2147483647;(d * d + 7 * d + k) % 2147483629 % many
theorem ix_S {ns:List Int}{i:Int}(h0:0≤i)(h:i < ns.length):ixW (S ns) (.im (.int i))=.ok (.im (.int (ns.getD i.toNat 0))):=by
 refine qG2 rfl h0 ?_
 rw [List.getElem?_map,List.getD_eq_getElem?_getD,List.getElem?_eq_getElem #[0]];rfl
theorem qPt:∀ (n:Nat) (ns:List Int),fineDs n (ns.map D.int)=true
 | _,[]=>by unfold fineDs;rfl
 | n,x::r=>by
  have:=qPt n r
  unfold fineDs;rw [List.map_cons];simp only [this,qA3,Bool.and_self]
theorem eq_S {ns:List Int}:eqW (S ns) (.li true [])=.ok (.im (.bl (decide (ns=[])))):=by
 have h1:qA3 50 (S ns).dat=true:=qPt 49 ns
 have h2:qA3 50 (W.li true []).dat=true:=rfl
 unfold eqW;rw [if_pos ⟨h1,h2⟩]
 cases ns <;> rfl
theorem qa0 {ns:List Int}{k:Int}(hk:0≤k):qGf [S ns,.im (.int k)]=.ok (.im (.int (cell ns k))):=by
 refine qAx ?_
 refine qAs (b:=decide (k < ns.length)) (δ:=[.im #[37],.im (.int k)]) (by push_cast [okb];rw [List.length_map]) (fun h=>?_) (fun h=>?_)
 ·have h:=of_decide_eq_true h
  refine qBq (by push_cast only [ix_S hk h]) ?_
  unfold cell;rw [if_pos h]
 ·have h:=of_decide_eq_false h
  refine qBg ?_
  refine qAs (b:=decide (ns=[])) (by push_cast [eq_S]) (fun g=>?_) (fun g=>?_)
  ·have g:=of_decide_eq_true g
   refine qBq #[18] ?_
   unfold cell;rw [if_neg h,if_pos g]
  ·have g:=of_decide_eq_false g
   have gl:0 < ns.length:=List.length_pos_iff.mpr g
   have m0:=Int.emod_nonneg k (b:=ns.length) #[0]
   have m1:=Int.emod_lt_of_pos k (b:=ns.length) #[0]
   refine qBg ?_
   refine qAv (by push_cast only [List.length_map,ix_S m0 m1]) ?_
   unfold cell;rw [if_neg h,if_neg g]
theorem qBh {ns:List Int}{k many:Int}(hk:0≤k)(hm:0 < many):qA9 [S ns,.im (.int k),.im (.int many)]=.ok (.im (.int (mx ns k many))):=by
 refine qAx ?_
 have m0:=Int.emod_nonneg ((cell ns k + 7919 * k + 1) * 48271) (b:=2147483647) #[0]
 have m1:=Int.emod_lt_of_pos ((cell ns k + 7919 * k + 1) * 48271) (b:=2147483647) #[0]
 refine qAq (δ:=[.im #[37],.im (.int k),.im (.int many),.un]) (by push_cast [qa0 hk];exact rfl) ?_
 refine qAv (by push_cast [okb];exact rfl) ?_
 rfl
theorem qQ6 {ns:List Int}{k many:Int}(hm:0 < many):0≤mx ns k many:=Int.emod_nonneg _ #[0]
theorem qHv {ns:List Int}{k many:Int}(hm:0 < many):mx ns k many < many:=Int.emod_lt_of_pos _ hm
theorem qP1 {t:qAi→Rs Bool}{el:qAi→Rs D}{δ:qAi}{p:D→Bool}{f:D→D}:∀ (ds:List D),(∀ d∈ds,t (.im d::δ)=.ok (p d)∧(p d=true→el (.im d::δ)=.ok (f d)))→qGm t el ds δ=.ok ((ds.filter p).map f)
 | [],_=>rfl
 | d::ds,h=>by
  have ih:=qP1 ds fun x hx=>h x (List.mem_cons_of_mem _ hx)
  obtain ⟨h1,h2⟩:=h d #[51]
  rw [List.filter_cons]
  unfold qGm
  rw [h1,PD.ok_bind]
  by_cases e:p d=true
  ·rw [if_pos e,if_pos e,h2 e,ih];rfl
  ·rw [if_neg e,if_neg e,ih]
theorem qKm {t:qAi→Rs Bool}{el:qAi→Rs D}{δ:qAi}{ds:List D}(p:D→Bool)(f:D→D)(hl:ds.length < 16777216)(h:∀ d∈ds,t (.im d::δ)=.ok (p d)∧(p d=true→el (.im d::δ)=.ok (f d))) :
  qKn t el ds δ=.ok (.li true ((ds.filter p).map f)):=by
 unfold qKn;rw [if_pos (show _ < lim from hl),qP1 ds h];rfl
theorem qFg {el:qAi→Rs D}{δ:qAi}{ds:List D}(f:D→D)(hl:ds.length < 16777216)(h:∀ d∈ds,el (.im d::δ)=.ok (f d)) :
  qKn #[43] el ds δ=.ok (.li true (ds.map f)):=by
 have:=qKm (t:=fun _=>.ok true) (el:=el) (δ:=δ) (ds:=ds) (fun _=>true) f hl fun d hd=>⟨rfl,fun _=>h d hd⟩
 rw [this,List.filter_eq_self.mpr #[15]]
theorem qMb:∀ (ds:List D),qHg (ds.map fun _=>D.bl true)=some (ds.map fun _=>true)
 | []=>rfl
 | d::ds=>by
  have:=qMb ds
  simp only [List.map_cons,qHg,this,Option.map_some]
theorem qTb (ds:List D):qUq [.li true (ds.map fun _=>D.bl true)]=.ok Tr:=by
 have:(ds.map fun _=>true).all id=true:=by
  rw [List.all_eq_true];intro x hx;obtain ⟨_,_,rfl⟩:=List.mem_map.mp hx;rfl
 simp only [qUq,W.seq,qMb,this]
theorem qNq {gi:qAi→Rs (List D)}{el:qAi→Rs D}{δ:qAi}{ds:List D}(hg:gi δ=.ok ds)(hl:ds.length < 16777216)(h:∀ d∈ds,el (.im d::δ)=.ok (.bl true)) :
  qAd (qAc (qB4 gi #[43] el) qAz) qUq δ=.ok Tr:=by
 simp only [qAd,qAc,qB4,qAz,hg,PD.ok_bind,qFg (fun _=>D.bl true) hl h,qTb]
def Low (s:Str):Prop:=∀ c∈s.cps.toList,97≤c∧c≤122
structure WordS (s:Str):Prop where
 lo:1≤s.length
 hi:s.length≤6
 low:Low s
theorem qa3:(Str.ofString "abcdefghijklmnopqrstuvwxyz").cps.toList=(List.range 26).map (97 + ·):=by decide +kernel
theorem qeu:(Str.ofString "abcdefghijklmnopqrstuvwxyz").length=26:=by decide +kernel
theorem abc_in:∀ n,n < 26→qd1 ⟨#[97 + n]⟩ (Str.ofString "abcdefghijklmnopqrstuvwxyz")=true:=by decide +kernel
theorem ix_abc {j:Int}(h0:0≤j)(h:j < 26):ixW (.im (.str "abcdefghijklmnopqrstuvwxyz")) (.im (.int j))=.ok (.im (.str ⟨#[97 + j.toNat]⟩)):=by
 have e:atI (Str.ofString "abcdefghijklmnopqrstuvwxyz").cps.toList j=some (97 + j.toNat):=by
  rw [qa3]
  unfold atI ixN
  rw [if_pos h0,if_pos (by rw [List.length_map,List.length_range];omega)]
  show ((List.range 26).map (97 + ·))[j.toNat]?=_
  rw [List.getElem?_map,List.getElem?_range #[0]];rfl
 simp only [ixW,W.items,e]
 exact if_pos (by rw [qeu];decide)
theorem len_str {s:Str}(h:s.length≤6):qIs [.im (.str s)]=.ok (.im (.int s.length)):=by
 show (if s.length≤lim then Rs.ok (W.im (D.int s.length)) else Rs.no)=_
 exact if_pos (by show _≤16777216;omega)
theorem qDr {s:Str}(h:WordS s):qDd [.im (.str s)]=.ok Tr:=by
 have h1:=h.lo;have h2:=h.hi
 refine qAx ?_
 refine qAs (b:=false) (δ:=[.im (.str s)]) ?_ #[14] #[47]
 ·have a1:decide ((1:Int)≤(s.length:Int))=true:=decide_eq_true #[0]
  have a2:decide ((s.length:Int)≤6)=true:=decide_eq_true #[0]
  simp only [orB,qGb,qF0,qAd,var,qAc,qAz,toW,cst,PD.ok_bind,List.getElem?_cons_zero,qYi,tyD,W.tru,len_str h2,leW,W.bool,a1,a2,qDm,tyS,Bool.not_true,Bool.false_eq_true,qDs]
 ·refine qAv (w:=Tr) (qNq (ds:=qcn s) rfl ?_ ?_) rfl
  ·unfold qcn;rw [List.length_map];show s.cps.size < _;have:s.cps.size=s.length:=rfl;omega
  ·intro d hd
   obtain ⟨c,hc,rfl⟩:=List.mem_map.mp hd
   obtain ⟨c1,c2⟩:=h.low c hc
   have e:c=97 + (c - 97):=by omega
   have:=abc_in (c - 97) #[0]
   rw [←e] at this
   simp only [qBc,qAm,var,List.getElem?_cons_zero,PD.ok_bind,toW,cst,inW,W.items,this,W.toD]
theorem qGn:∀ (ss:List Str),qN0 #[17]=some ss
 | []=>rfl
 | s::ss=>by simp only [List.map_cons,qN0,qGn ss,Option.map_some]
theorem qLo (ss:List Str)(h:ss.Nodup):∀ i,i≤ss.length→qHj (fun i=>ss.getD i Str.empty) i=ss.take i
 | 0,_=>by rw [List.take_zero];rfl
 | i + 1,hi=>by
  have ih:=qLo ss h i #[0]
  rw [qHj,ih,List.take_succ,List.getD_eq_getElem?_getD,List.getElem?_eq_getElem #[0]]
  unfold qKw
  rw [if_neg,Option.getD_some];· rfl
  intro hc
  obtain ⟨x,hx,e⟩:=List.any_eq_true.mp hc
  have e:x=ss[i]:=by simpa using e
  subst e
  obtain ⟨j,hj,he⟩:=List.mem_iff_getElem.mp hx
  rw [List.length_take] at hj
  rw [List.getElem_take] at he
  exact (List.pairwise_iff_getElem.mp h j i #[0] #[0] #[0]) he
theorem qH1 {w:W}{b:Bool}{ss:List Str}(hw:w.items=some (b,ss.map D.str))(h:ss.Nodup)(hl:ss.length < 1000):qG1 w=.ok (.im (.int ss.length)):=by
 simp only [qG1,hw,qGn]
 rw [if_pos hl]
 unfold qHl
 rw [qLo ss h _ #[8],List.take_length]
theorem qEn {w:W}{b:Bool}{ss:List Str}(hw:w.items=some (b,ss.map D.str))(h:∀ s∈ss,WordS s)(hl:ss.length < 1000):qC8 [w]=.ok Tr:=by
 refine qAx ?_
 have hv:var 0 [w.slot]=.ok (match w with | .im d=>.im d | .li _ ds=>.li false ds):=by cases w <;> rfl
 have hk:qAd #[2] W.walk [w.slot]=.ok #[17]:=by
  simp only [qAd,hv,PD.ok_bind]
  cases w with
  | im d=>simp only [W.walk,hw]
  | li f ds=>simp only [W.items,Option.some.injEq,Prod.mk.injEq] at hw;simp only [W.walk,W.items,hw.2]
 refine qAv (w:=Tr) (qNq (δ:=[w.slot]) hk ?_ ?_) rfl
 ·rw [List.length_map];omega
 ·intro d hd
  obtain ⟨s,hs,rfl⟩:=List.mem_map.mp hd
  push_cast [qDr (h s hs)]
theorem qF1 {w:W}{b:Bool}{ss:List Str}(hw:w.items=some (b,ss.map D.str))(h:ss.Nodup)(hl:ss.length < 1000):qDz [w]=.ok Tr:=by
 refine qAx ?_
 have hv:∃ b' w',var 0 [w.slot]=.ok w'∧w'.items=some (b',ss.map D.str):=by
  cases w with
  | im d=>exact ⟨b,_,rfl,hw⟩
  | li f ds=>simp only [W.items,Option.some.injEq,Prod.mk.injEq] at hw;exact ⟨true,_,rfl,by simp only [W.items,hw.2]⟩
 obtain ⟨b',w',e1,e2⟩:=hv
 refine qAv (w:=Tr) (δ:=[w.slot]) ?_ rfl
 have e3:qIs [w']=.ok (.im (.int ss.length)):=by simp only [qIs,e2,List.length_map]
 simp only [qAm,qAd,e1,PD.ok_bind,qH1 e2 h hl,qAc,qAz,e3,qb1,decide_true]
theorem qCa {ds:List D}{lo hi:Int}(h1:lo≤ds.length)(h2:(ds.length:Int)≤hi):qBz [.im (.tup ds),.im (.int lo),.im (.int hi)]=.ok Tr:=by
 refine qAx ?_
 have a1:decide (lo≤(ds.length:Int))=true:=decide_eq_true h1
 have a2:decide ((ds.length:Int)≤hi)=true:=decide_eq_true h2
 refine qAv (w:=Tr) (δ:=[.im (.tup ds),.im (.int lo),.im (.int hi)]) ?_ rfl
 simp only [qK5,qF0,qAd,var,qAc,qAz,PD.ok_bind,List.getElem?_cons_zero,List.getElem?_cons_succ,qYi,tyD,qIs,W.items,leW,W.bool,a1,a2,qDm]
 rfl
theorem qEk {i lo hi:Int}(h1:lo≤i)(h2:i≤hi):qC7 [.im (.int i),.im (.int lo),.im (.int hi)]=.ok Tr:=by
 refine qAx ?_
 have a1:decide (lo≤i)=true:=decide_eq_true h1
 have a2:decide (i≤hi)=true:=decide_eq_true h2
 refine qAs (b:=false) (δ:=[.im (.int i),.im (.int lo),.im (.int hi)]) rfl #[14] #[47]
 refine qAv (w:=Tr) ?_ rfl
 simp only [qF0,var,PD.ok_bind,List.getElem?_cons_zero,List.getElem?_cons_succ,leW,W.bool,a1,a2,qDm]
theorem qMt {n i:Nat}{d:D}(h:(qC4 n)[i]?=some d):d=.int i∧i < n:=by
 unfold qC4 at h
 rw [List.getElem?_map] at h
 rcases Nat.lt_or_ge i n with g | g
 ·rw [List.getElem?_range g] at h;cases h;exact ⟨rfl,g⟩
 ·rw [List.getElem?_eq_none (by rw [List.length_range];exact g)] at h;cases h
theorem qGr (n:Nat):(qC4 n).length=n:=by unfold qC4;rw [List.length_map,List.length_range]
theorem qeq (x y:Str):(x++y).length=x.length + y.length:=by show (x.cps++y.cps).size=_;rw [Array.size_append];rfl
theorem qep {x y:Str}(h1:Low x)(h2:Low y):Low (x++y):=by
 intro c hc
 have:c∈(x.cps++y.cps).toList:=hc
 rw [Array.toList_append,List.mem_append] at this
 exact this.elim (h1 c) (h2 c)
theorem qYo {ns:List Int}{at_:Int}(ha:0≤at_):∃ s,qIx [S ns,.im (.int at_)]=.ok (.im (.str s))∧WordS s∧s.length≠5:=by
 suffices h:∃ w,qIx [S ns,.im (.int at_)]=.ok w∧∃ s,w=.im (.str s)∧WordS s∧s.length≠5 by
  obtain ⟨_,h1,s,rfl,h2⟩:=h;exact ⟨s,h1,h2⟩
 refine qJp ?_
 have m0:=qQ6 (ns:=ns) (k:=at_) (many:=6) #[0]
 have m1:=qHv (ns:=ns) (k:=at_) (many:=6) #[0]
 have hn:∃ n:Nat,1≤n∧n≤6∧n≠5∧ixW (.li true [.int 1,.int 2,.int 3,.int 6,.int 1,.int 4]) (.im (.int (mx ns at_ 6)))=.ok (.im (.int n)):=by
  generalize mx ns at_ 6=j at *
  have:j=0∨j=1∨j=2∨j=3∨j=4∨j=5:=by omega
  rcases this with rfl | rfl | rfl | rfl | rfl | rfl
  ·exact ⟨1,by omega,by omega,by omega,rfl⟩
  ·exact ⟨2,by omega,by omega,by omega,rfl⟩
  ·exact ⟨3,by omega,by omega,by omega,rfl⟩
  ·exact ⟨6,by omega,by omega,by omega,rfl⟩
  ·exact ⟨1,by omega,by omega,by omega,rfl⟩
  ·exact ⟨4,by omega,by omega,by omega,rfl⟩
 obtain ⟨n,n1,n2,n5,hn⟩:=hn
 refine qAq (δ:=[.im #[37],.im (.int at_),.un,.un]) #[18] ?_
 refine qCl (Q1:=fun δ=>∃ s k,δ=[.im #[37],.im (.int at_),.im (.str s),k]∧s.length=n∧Low s) ?_ ?_
 ·refine qEy (ds:=qC4 n) (fun i δ=>i≤n→∃ s k,δ=[.im #[37],.im (.int at_),.im (.str s),k]∧s.length=i∧Low s) ?_ (fun _=>⟨_,_,rfl,rfl,fun c hc=>nomatch hc⟩) ?_ (fun δ' hj=>⟨_,rfl,?_⟩)
  ·have hr:=qcw (n:=n) #[0]
   push_cast [qBh ha (show (0:Int) < 6 by omega),hn,hr]
  ·intro i d δ hd hj
   obtain ⟨rfl,hi⟩:=qMt hd
   obtain ⟨s,k,rfl,hs,hlow⟩:=hj #[0]
   refine ⟨_,rfl,?_⟩
   have q0:=qQ6 (ns:=ns) (k:=at_ + 1 + (i:Int)) (many:=26) #[0]
   have q1:=qHv (ns:=ns) (k:=at_ + 1 + (i:Int)) (many:=26) #[0]
   have q2:s.length + (⟨#[97 + (mx ns (at_ + 1 + (i:Int)) 26).toNat]⟩:Str).length≤16777216:=by
    show s.length + 1≤_;omega
   refine ⟨_,(by push_cast only [qBh (show 0≤at_ + 1 + (i:Int) by omega) (show (0:Int) < 26 by omega),ix_abc q0 q1,add_str q2]),_,rfl,fun _=>⟨_,_,rfl,?_,?_⟩⟩
   ·rw [qeq,hs];rfl
   ·refine qep hlow fun c hc=>?_
    have:c=97 + (mx ns (at_ + 1 + (i:Int)) 26).toNat:=by simpa using hc
    omega
  ·rw [qGr] at hj;exact hj #[8]
 ·rintro _ ⟨s,k,rfl,hs,hlow⟩
  exact qAv #[18] ⟨_,rfl,s,rfl,⟨by omega,by omega,hlow⟩,by omega⟩
structure NamesOk (ss:List Str):Prop where
 pos:0 < ss.length
 le:ss.length≤4
 nd:ss.Nodup
 wd:∀ s∈ss,WordS s
 n5:∀ s∈ss,s.length≠5
theorem put_in (ks:List (Key×D))(k:Key)(d:D)(h:k∈ks.map (·.1)):(qMu ks k d).map (·.1)=ks.map (·.1):=by
 unfold qMu
 have:#[84]=true:=by
  obtain ⟨q,hq,e⟩:=List.mem_map.mp h
  exact List.any_eq_true.mpr ⟨q,hq,decide_eq_true e⟩
 rw [if_pos this,List.map_map]
 refine List.map_congr_left fun q _=>?_
 show (if q.1=k then (q.1,d) else q).1=q.1
 split <;> rfl
theorem qc5 (ks:List (Key×D))(k:Key)(d:D)(h:k∉ks.map (·.1)):(qMu ks k d).map (·.1)=ks.map (·.1)++[k]:=by
 unfold qMu
 have:¬ #[84]=true:=by
  intro hc
  obtain ⟨q,hq,e⟩:=List.any_eq_true.mp hc
  exact h (List.mem_map.mpr ⟨q,hq,of_decide_eq_true e⟩)
 rw [if_neg this,List.map_append];rfl
theorem qeg {i:Nat}{gv ge:qAi→Rs D}{δ:qAi}{ks:List (Key×D)}{d kd:D}{k:Key}(h:δ[i]?=some (.dct ks))(hv:gv δ=.ok d)(he:ge δ=.ok kd)(hk:keyD kd=some k)(hl:ks.length < 1000) :
  qXv i gv ge δ=.ok (.nx (δ.set i (.dct (qMu ks k d)))):=by
 simp only [qXv,h,hv,he,hk,okb]
 exact if_pos (by show _ < 16777216;omega)
theorem qWj {ns:List Int}{at_:Int}(ha:0≤at_):∃ ss,qGz [S ns,.im (.int at_)]=.ok (.li true #[17])∧NamesOk ss:=by
 suffices h:∃ w,qGz [S ns,.im (.int at_)]=.ok w∧∃ ss,w=.li true #[17]∧NamesOk ss by
  obtain ⟨_,h1,ss,rfl,h2⟩:=h;exact ⟨ss,h1,h2⟩
 refine qJp ?_
 refine qAq (δ:=[.im #[37],.im (.int at_),.un,.un]) (δ':=[.im #[37],.im (.int at_),.dct [],.un]) rfl ?_
 let J:Nat→qAi→Prop:=fun i δ=>∃ (ss:List Str) (ks:List (Key×D)) (k:Sl),δ=[.im #[37],.im (.int at_),.dct ks,k]∧ks.map (·.1)=ss.map Sum.inr∧ss.Nodup∧(∀ s∈ss,WordS s∧s.length≠5)∧ss.length≤i∧(0 < i→0 < ss.length)
 refine qCl (Q1:=fun δ=>J 4 δ) ?_ ?_
 ·refine qEy (ds:=qC4 4) (fun i δ=>i≤4→J i δ) rfl (fun _=>⟨[],[],.un,rfl,rfl,List.nodup_nil,(fun _ h=>nomatch h),Nat.le_refl _,fun h=>absurd h (Nat.lt_irrefl _)⟩) ?_ (fun δ' hj=>⟨_,rfl,hj #[8]⟩)
  intro i d δ hd hj
  obtain ⟨rfl,hi⟩:=qMt hd
  obtain ⟨ss,ks,k,rfl,h1,h2,h3,h4,h5⟩:=hj #[0]
  refine ⟨_,rfl,?_⟩
  obtain ⟨s,hs,hw⟩:=qYo (ns:=ns) (at_:=at_ + 8 * (i:Int)) #[0]
  have hkl:ks.length=ss.length:=by simpa using congrArg List.length h1
  refine ⟨_,qeg (k:=.inr s) (kd:=.str s) (d:=.bl true) rfl rfl (by push_cast only [hs]) rfl #[0],_,rfl,fun _=>?_⟩
  by_cases hm:s∈ss
  ·refine ⟨ss,_,_,rfl,?_,h2,h3,by omega,fun _=>List.length_pos_of_mem hm⟩
   rw [put_in _ _ _ (by rw [h1];exact List.mem_map.mpr ⟨s,hm,rfl⟩),h1]
  ·refine ⟨ss++[s],_,_,rfl,?_,?_,?_,?_,?_⟩
   ·rw [qc5,h1,List.map_append];· rfl
    rw [h1];intro hc;obtain ⟨x,hx,e⟩:=List.mem_map.mp hc;cases e;exact hm hx
   ·rw [List.nodup_append]
    refine ⟨h2,by simp,fun a ha b hb=>?_⟩
    have:b=s:=by simpa using hb
    subst this;intro e;subst e;exact hm ha
   ·intro x hx
    rcases List.mem_append.mp hx with g | g
    ·exact h3 x g
    ·have:x=s:=by simpa using g
     subst this;exact hw
   ·rw [List.length_append];show ss.length + 1≤_;omega
   ·intro _;rw [List.length_append];show 0 < ss.length + 1;omega
 ·rintro _ ⟨ss,ks,k,rfl,h1,h2,h3,h4,h5⟩
  refine qAv (w:=.li true #[17]) ?_ ⟨_,rfl,ss,rfl,⟨h5 #[0],h4,h2,fun s hs=>(h3 s hs).1,fun s hs=>(h3 s hs).2⟩⟩
  show Rs.ok (W.li true (ks.map fun q=>kD q.1))=_
  have:(ks.map fun q=>kD q.1)=ss.map D.str:=by
   have:(ks.map fun q=>kD q.1)=(ks.map (·.1)).map kD:=by rw [List.map_map];rfl
   rw [this,h1,List.map_map];rfl
  rw [this]
inductive RowF:D→Prop
 | put {f:Str} {n:Int} (hf:WordS f) (h0:0≤n) (h1:n≤99):RowF (.tup [.str "put",.str f,.int n])
 | read {f n o:Str} (hf:WordS f) (hn:WordS n) (ho:WordS o):RowF (.tup [.str "read",.str f,.str n,.str o])
 | need {n:Str} (hn:WordS n):RowF (.tup [.str "need",.str n])
 | note {n:Str} (hn:WordS n):RowF (.tup [.str "note",.str n])
 | fail {n:Str} (hn:WordS n):RowF (.tup [.str "fail",.str n])
structure RowOk (d:D):Prop where
 is:qGw [.im d]=.ok Tr
 fine:qA3 47 d=true
 f2:qA3 2 d=true
 fm:RowF d
theorem qI4 (s:String)(h:decide (1≤(Str.ofString s).length∧(Str.ofString s).length≤6∧∀ c∈(Str.ofString s).cps.toList,97≤c∧c≤122)=true):WordS (Str.ofString s):=
 let h:=of_decide_eq_true h;⟨h.1,h.2.1,h.2.2⟩
theorem w_put:WordS (Str.ofString "put"):=qI4 _ #[19]
theorem w_read:WordS (Str.ofString "read"):=qI4 _ #[19]
theorem w_need:WordS (Str.ofString "need"):=qI4 _ #[19]
theorem w_note:WordS (Str.ofString "note"):=qI4 _ #[19]
theorem w_fail:WordS (Str.ofString "fail"):=qI4 _ #[19]
theorem w_f:WordS (Str.ofString "f"):=qI4 _ #[19]
theorem w_g:WordS (Str.ofString "g"):=qI4 _ #[19]
theorem w_x:WordS (Str.ofString "x"):=qI4 _ #[19]
theorem w_y:WordS (Str.ofString "y"):=qI4 _ #[19]
theorem qcg:WordS (Str.ofString "class"):=qI4 _ #[19]
theorem w_face:WordS (Str.ofString "face"):=qI4 _ #[19]
theorem ix0 {d:D}{ds:List D}:ixW (.im (.tup (d::ds))) (.im (.int 0))=.ok (.im d):=qG2 rfl #[0] rfl
theorem ix1 {d e:D}{ds:List D}:ixW (.im (.tup (d::e::ds))) (.im (.int 1))=.ok (.im e):=qG2 rfl #[0] rfl
theorem ix2 {d e f:D}{ds:List D}:ixW (.im (.tup (d::e::f::ds))) (.im (.int 2))=.ok (.im f):=qG2 rfl #[0] rfl
theorem ix3 {d e f g:D}{ds:List D}:ixW (.im (.tup (d::e::f::g::ds))) (.im (.int 3))=.ok (.im g):=qG2 rfl #[0] rfl
theorem ix4 {d e f g k:D}{ds:List D}:ixW (.im (.tup (d::e::f::g::k::ds))) (.im (.int 4))=.ok (.im k):=qG2 rfl #[0] rfl
theorem qbg {k:Str}{ds:List D}{b:Bool}{r:W}(hk:WordS k)(hl:1≤ds.length)(hl':ds.length≤3)(hb:decide (k=Str.ofString "put")=b)
  (h1:b=true→qK5 (qAm eqW (qAd #[23] qIs) #[63]) (qK5 (qAo qDd 1 (qAc (qAm ixW #[2] #[9]) qAz)) (qAo qC7 3 (qAc (qAm ixW #[2] #[27]) (qAc #[11] (qAc (toW (cst (.int 99))) qAz))))) [.im (.tup (.str k::ds))]=.ok r)
  (h2:b=false→qK5 (qAm eqW (qAd (qAm ixW #[2] #[11]) (qPp [("read",3),("need",1),("note",1),("fail",1)])) (qAm qbe (qAd #[23] qIs) #[9])) (qAo qC8 1 (qAc (qD5 #[2] (part #[9]) qC6) qAz)) [.im (.tup (.str k::ds))]=.ok r) :
  qGw [.im (.tup (.str k::ds))]=.ok r:=by
 refine qAx ?_
 have it:=qCa (ds:=.str k::ds) (lo:=2) (hi:=4) (by rw [List.length_cons];omega) (by rw [List.length_cons];omega)
 refine qAs (b:=false) (δ:=[.im (.tup (.str k::ds))]) (by push_cast [it,ix0,qDr hk,Bool.false_eq_true]) #[14] #[47]
 refine qAs (b:=b) (by push_cast [ix0,hb]) (fun hb=>?_) (fun hb=>qBg ?_)
 ·exact qBq (h1 hb) rfl
 ·exact qAv (h2 hb) rfl
theorem qcv {f:Str}{n:Int}(hf:WordS f)(h0:0≤n)(h1:n≤99):RowOk (.tup [.str "put",.str f,.int n]):=
 ⟨qbg (b:=true) w_put #[35] #[35] (decide_eq_true rfl) (fun _=>by
  have e:decide ((((0:Nat) + 1 + 1 + 1:Nat):Int)=3)=true:=rfl
  push_cast [ix1,ix2,qDr hf,qEk h0 h1,e]) (fun h=>nomatch h),rfl,rfl,.put hf h0 h1⟩
theorem qMs {k:Str}{ss:List Str}{n:Int}(hk:WordS k)(hl:1≤ss.length)(hl':ss.length≤3)(hb:decide (k=Str.ofString "put")=false)(ht:qPp [("read",3),("need",1),("note",1),("fail",1)] (.im (.str k))=.ok (.im (.int n)))(hn:n=ss.length)(hw:∀ s∈ss,WordS s) :
  qGw [.im (.tup (.str k::ss.map D.str))]=.ok Tr:=by
 refine qbg (b:=false) hk (by rw [List.length_map];exact hl) (by rw [List.length_map];exact hl') hb #[14] (fun _=>?_)
 have e:decide (n=((ss.length + 1:Nat):Int) - 1)=true:=decide_eq_true #[0]
 have ec:cut (D.str k::ss.map D.str) (some 1) none=ss.map D.str:=by
  unfold cut
  show (List.drop (min 1 #[17].length.succ) (D.str k::ss.map D.str)).take (#[17].length.succ - min 1 #[17].length.succ)=_
  have:min 1 #[17].length.succ=1:=by omega
  rw [this,List.drop_one,List.tail_cons]
  exact List.take_of_length_le #[0]
 have ew:=qEn (w:=.im (.tup #[17])) rfl hw #[0]
 push_cast [ix0,ht,List.length_map,e,slW,ec,ew]
theorem qY3 {f n o:Str}(hf:WordS f)(hn:WordS n)(ho:WordS o):RowOk (.tup [.str "read",.str f,.str n,.str o]):=
 ⟨qMs (ss:=[f,n,o]) (n:=3) w_read #[35] #[35] #[19] (by rfl) rfl (by
  intro s hs;simp only [List.mem_cons,List.not_mem_nil,or_false] at hs;rcases hs with rfl | rfl | rfl <;> assumption),rfl,rfl,.read hf hn ho⟩
theorem qR9 {n:Str}(hn:WordS n):RowOk (.tup [.str "need",.str n]):=
 ⟨qMs (ss:=[n]) (n:=1) w_need #[35] #[35] #[19] (by rfl) rfl (by
  intro s hs;simp only [List.mem_cons,List.not_mem_nil,or_false] at hs;subst hs;assumption),rfl,rfl,.need hn⟩
theorem qR8 {n:Str}(hn:WordS n):RowOk (.tup [.str "note",.str n]):=
 ⟨qMs (ss:=[n]) (n:=1) w_note #[35] #[35] #[19] (by rfl) rfl (by
  intro s hs;simp only [List.mem_cons,List.not_mem_nil,or_false] at hs;subst hs;assumption),rfl,rfl,.note hn⟩
theorem qY4 {n:Str}(hn:WordS n):RowOk (.tup [.str "fail",.str n]):=
 ⟨qMs (ss:=[n]) (n:=1) w_fail #[35] #[35] #[19] (by rfl) rfl (by
  intro s hs;simp only [List.mem_cons,List.not_mem_nil,or_false] at hs;subst hs;assumption),rfl,rfl,.fail hn⟩
theorem qI0 {f:Bool}{ss:List Str}{j:Int}(h0:0≤j)(h:j < ss.length):∃ s∈ss,ixW (.li f #[17]) (.im (.int j))=.ok (.im (.str s)):=by
 refine ⟨ss[j.toNat]'(by omega),List.getElem_mem _,qG2 rfl h0 ?_⟩
 rw [List.getElem?_map,List.getElem?_eq_getElem #[0]];rfl
theorem qW1 {f:Bool}{a b:Str}{j:Int}(h0:0≤j)(h:j < 2):∃ s,(s=a∨s=b)∧ixW (.li f [.str a,.str b]) (.im (.int j))=.ok (.im (.str s)):=by
 have:j=0∨j=1:=by omega
 rcases this with rfl | rfl
 ·exact ⟨a,.inl rfl,rfl⟩
 ·exact ⟨b,.inr rfl,rfl⟩
theorem qaa {f:Bool}{a b c:Str}{j:Int}(h0:0≤j)(h:j < 3):∃ s,(s=a∨s=b∨s=c)∧ixW (.li f [.str a,.str b,.str c]) (.im (.int j))=.ok (.im (.str s)):=by
 have:j=0∨j=1∨j=2:=by omega
 rcases this with rfl | rfl | rfl
 ·exact ⟨a,.inl rfl,rfl⟩
 ·exact ⟨b,.inr (.inl rfl),rfl⟩
 ·exact ⟨c,.inr (.inr rfl),rfl⟩
theorem qVl {ns:List Int}{at_:Int}{f:Bool}{ss:List Str}(ha:0≤at_)(hN:NamesOk ss):∃ d,qFa [S ns,.im (.int at_),.li f #[17]]=.ok (.im d)∧RowOk d:=by
 suffices h:∃ w,qFa [S ns,.im (.int at_),.li f #[17]]=.ok w∧∃ d,w=.im d∧RowOk d by
  obtain ⟨_,h1,d,rfl,h2⟩:=h;exact ⟨d,h1,h2⟩
 refine qJp ?_
 have hp:=hN.pos
 obtain ⟨nm,hnm,en⟩:=qI0 (f:=false) (ss:=ss) (qQ6 (ns:=ns) (k:=at_ + 1) (many:=ss.length) #[0]) (qHv #[0])
 have hnw:=hN.wd nm hnm
 obtain ⟨fd,hfd,ef⟩:=qW1 (f:=true) (a:=Str.ofString "f") (b:=Str.ofString "g") (qQ6 (ns:=ns) (k:=at_ + 2) (many:=2) #[0]) (qHv #[0])
 have hfw:WordS fd:=by rcases hfd with rfl | rfl <;> first | exact w_f | exact w_g
 have q12:=qBh (ns:=ns) (k:=at_) (many:=12) ha #[0]
 have q1:=qBh (ns:=ns) (k:=at_ + 1) (many:=ss.length) #[0] #[0]
 have q2:=qBh (ns:=ns) (k:=at_ + 2) (many:=2) #[0] #[0]
 refine qAq (δ:=[.im #[37],.im (.int at_),.rd #[17],.un,.un,.un]) (by push_cast only [q12]) ?_
 refine qAq (by push_cast only [q1,List.length_map,en]) ?_
 refine qAq (by push_cast only [q2,ef]) ?_
 refine qAs (b:=decide (mx ns at_ 12 < 4)) #[18] (fun _=>?_) #[47]
 ·have q3:=qBh (ns:=ns) (k:=at_ + 3) (many:=100) #[0] #[0]
  have m1:=qQ6 (ns:=ns) (k:=at_ + 3) (many:=100) #[0]
  have m2:=qHv (ns:=ns) (k:=at_ + 3) (many:=100) #[0]
  exact qBq (by push_cast only [q3]) ⟨_,rfl,_,rfl,qcv hfw m1 #[0]⟩
 refine qAs (b:=decide (mx ns at_ 12 < 7)) #[18] (fun _=>?_) #[47]
 ·have q3:=qBh (ns:=ns) (k:=at_ + 3) (many:=2) #[0] #[0]
  obtain ⟨fe,hfe,ee⟩:=qW1 (f:=true) (a:=Str.ofString "f") (b:=Str.ofString "g") (qQ6 (ns:=ns) (k:=at_ + 3) (many:=2) #[0]) (qHv #[0])
  have hew:WordS fe:=by rcases hfe with rfl | rfl <;> first | exact w_f | exact w_g
  exact qBq (by push_cast only [q3,ee]) ⟨_,rfl,_,rfl,qY3 hfw hnw hew⟩
 refine qAs (b:=decide (mx ns at_ 12 < 10)) #[18] (fun _=>?_) #[47]
 ·exact qBq #[18] ⟨_,rfl,_,rfl,qR9 hnw⟩
 have q3:=qBh (ns:=ns) (k:=at_ + 3) (many:=3) #[0] #[0]
 obtain ⟨k,hk,ek⟩:=qaa (f:=true) (a:=Str.ofString "note") (b:=Str.ofString "note") (c:=Str.ofString "fail") (qQ6 (ns:=ns) (k:=at_ + 3) (many:=3) #[0]) (qHv #[0])
 obtain ⟨x,hx,ex⟩:=qW1 (f:=true) (a:=Str.ofString "x") (b:=Str.ofString "y") (qQ6 (ns:=ns) (k:=at_ + 2) (many:=2) #[0]) (qHv #[0])
 have hxw:WordS x:=by rcases hx with rfl | rfl <;> first | exact w_x | exact w_y
 refine qAv (by push_cast only [q3,ek,q2,ex]) ⟨_,rfl,_,rfl,?_⟩
 rcases hk with rfl | rfl | rfl
 ·exact qR8 hxw
 ·exact qR8 hxw
 ·exact qY4 hxw
theorem qHh {t u:qAi→Rs Bool}{δ:qAi}{a b:Bool}(h1:t δ=.ok a)(h2:u δ=.ok b):qUp t u δ=.ok (a && b):=by
 simp only [qUp,h1,h2,okb];cases a <;> rfl
theorem qNp {t u:qAi→Rs W}{δ:qAi}{a b:Bool}(h1:t δ=.ok (.im (.bl a)))(h2:u δ=.ok (.im (.bl b))):qK5 t u δ=.ok (.im (.bl (a && b))):=by
 simp only [qK5,h1,h2,okb,W.bool];cases a <;> rfl
theorem qF2 {i:Nat}{gd:qAi→Rs D}{δ:qAi}{ds:List D}{d:D}(h:δ[i]?=some (.own ds))(hd:gd δ=.ok d)(hl:ds.length < 1000):qI2 i gd δ=.ok (.nx (δ.set i (.own (ds++[d])))):=by
 simp only [qI2,h,hd,okb]
 exact if_pos (by show _ < 16777216;omega)
theorem qFe:∀ (n:Nat) (ss:List Str),fineDs n #[17]=true
 | _,[]=>by unfold fineDs;rfl
 | n,x::r=>by
  have:=qFe n r
  unfold fineDs;rw [List.map_cons];simp only [this,qA3,Bool.and_self]
theorem qD2:∀ (n:Nat) (ds:List D),(∀ d∈ds,qA3 n d=true)→fineDs n ds=true
 | _,[],_=>by unfold fineDs;rfl
 | n,x::r,h=>by
  have:=qD2 n r fun d hd=>h d (List.mem_cons_of_mem _ hd)
  unfold fineDs;simp only [this,h x #[51],Bool.and_self]
inductive AboveOk:Str→D→Prop
 | cls:AboveOk (Str.ofString "class") .non
 | face:AboveOk (Str.ofString "face") .non
 | above {s:Str} (h:WordS s):AboveOk (Str.ofString "class") (.str s)
structure FileOk (d:D) (n:Str):Prop where
 wd:WordS n
 is:qEa [.im d]=.ok Tr
 fine:qA3 49 d=true
 sh:∃ k r,d=.tup (.str k::.str n::r)
 full:∃ (k:Str) (a:D) (fs:List Str) (rs:List D),d=.tup [.str k,.str n,a,.tup (fs.map D.str),.tup rs]∧AboveOk k a∧fs.length≤2∧(∀ s∈fs,WordS s)∧rs.length≤5∧∀ r∈rs,RowOk r
theorem qW6 {k a b:Str}:inW (.im (.str k)) (.im (.tup [.str a,.str b]))=.ok (.im (.bl (decide (a=k) || decide (b=k)))):=by
 show (if qA3 50 (D.str k)=true∧fineDs 50 [D.str a,D.str b]=true then Rs.ok (W.im (D.bl (qNs (D.str k) [D.str a,D.str b]))) else Rs.no)=_
 rw [if_pos ⟨rfl,rfl⟩]
 show Rs.ok (W.im (D.bl ([D.str a,D.str b].any fun d'=>eqD d' (.str k))))=_
 simp only [List.any_cons,List.any_nil,eqD,Bool.or_false]
 rfl
theorem qal {k:Str}{a:D}(h:AboveOk k a):qE8 [.im (.str k),.im a]=.ok Tr:=by
 refine qAx ?_
 cases h with
 | cls=>
  refine qAs (b:=true) (δ:=[.im (.str "class"),.im .non]) rfl (fun _=>qBq (w:=Tr) ?_ rfl) #[14]
  push_cast [qW6,decide_true,Bool.true_or]
 | face=>
  refine qAs (b:=true) (δ:=[.im (.str "face"),.im .non]) rfl (fun _=>qBq (w:=Tr) ?_ rfl) #[14]
  push_cast [qW6,decide_true,Bool.or_true]
 | above h=>
  refine qAs (b:=false) (δ:=[.im (.str "class"),.im (.str _)]) rfl #[14] (fun _=>qBg (qAv (w:=Tr) ?_ rfl))
  push_cast [decide_true,qDr h]
theorem qXk {ss:List Str}(hl:ss.length≤2)(hn:ss.Nodup)(hw:∀ s∈ss,WordS s):qGd [.im (.tup #[17])]=.ok Tr:=by
 refine qAx (qAv (w:=Tr) (δ:=[.im (.tup #[17])]) ?_ rfl)
 have h1:=qCa (ds:=ss.map D.str) (lo:=0) (hi:=2) #[0] (by rw [List.length_map];omega)
 have h2:=qEn (w:=.im (.tup #[17])) rfl hw #[0]
 have h3:=qF1 (w:=.im (.tup #[17])) rfl hn #[0]
 push_cast [h1,h2,h3]
theorem qY2 {rs:List D}(hl:rs.length≤5)(hr:∀ r∈rs,RowOk r):qH0 [.im (.tup rs)]=.ok Tr:=by
 refine qAx (qAv (w:=Tr) (δ:=[.im (.tup rs)]) ?_ rfl)
 refine (qNp (a:=true) (b:=true) ?_ ?_)
 ·push_cast [qCa (ds:=rs) (lo:=0) (hi:=5) #[0] #[0]]
 ·refine qNq (ds:=rs) rfl #[0] fun d hd=>?_
  push_cast [(hr d hd).is]
theorem qXi {k n:Str}{a:D}{ss:List Str}{rs:List D}(hn:WordS n)(ha:AboveOk k a)(hl:ss.length≤2)(hnd:ss.Nodup)(hw:∀ s∈ss,WordS s)(hl':rs.length≤5)(hr:∀ r∈rs,RowOk r) :
  FileOk (.tup [.str k,.str n,a,.tup #[17],.tup rs]) n:=by
 have hk:WordS k:=by cases ha <;> first | exact qcg | exact w_face
 refine ⟨hn,?_,?_,⟨_,_,rfl⟩,⟨k,a,ss,rs,rfl,ha,hl,hw,hl',hr⟩⟩
 ·refine qAx ?_
  refine qAs (b:=false) (δ:=[.im (.tup [.str k,.str n,a,.tup #[17],.tup rs])]) ?_ #[14] (fun _=>qBg (qAv (w:=Tr) ?_ rfl))
  ·have it:=qCa (ds:=[.str k,.str n,a,.tup #[17],.tup rs]) (lo:=5) (hi:=5) (by show (5:Int)≤((5:Nat):Int);omega) (by show ((5:Nat):Int)≤5;omega)
   have iw:=qEn (w:=.im (.tup [.str k,.str n])) (ss:=[k,n]) rfl (by
    intro s hs;simp only [List.mem_cons,List.not_mem_nil,or_false] at hs;rcases hs with rfl | rfl <;> assumption) (by show 2 < 1000;omega)
   have ec:cut [D.str k,.str n,a,.tup #[17],.tup rs] none (some 2)=[.str k,.str n]:=rfl
   push_cast [it,slW,ec,iw,Bool.false_eq_true]
  ·push_cast [ix0,ix2,ix3,ix4,qal ha,qXk hl hnd hw,qY2 hl' hr]
 ·have f1:qA3 48 a=true:=by cases ha <;> rfl
  have f2:qA3 48 (.tup #[17])=true:=qFe 47 ss
  have f3:qA3 48 (.tup rs)=true:=qD2 47 rs fun d hd=>(hr d hd).fine
  show fineDs 48 [.str k,.str n,a,.tup #[17],.tup rs]=true
  refine qD2 _ _ fun d hd=>?_
  simp only [List.mem_cons,List.not_mem_nil,or_false] at hd
  rcases hd with rfl | rfl | rfl | rfl | rfl
  ·rfl
  ·rfl
  ·exact f1
  ·exact f2
  ·exact f3
theorem FileOk.f4 {d:D}{n:Str}(h:FileOk d n):qA3 4 d=true:=by
 obtain ⟨k,a,fs,rs,rfl,ha,_,_,_,hr⟩:=h.full
 have f1:qA3 3 a=true:=by cases ha <;> rfl
 have f2:qA3 3 (.tup (fs.map D.str))=true:=qFe 2 fs
 have f3:qA3 3 (.tup rs)=true:=qD2 2 rs fun d hd=>(hr d hd).f2
 show fineDs 3 [.str k,.str n,a,.tup (fs.map D.str),.tup rs]=true
 refine qD2 _ _ fun d hd=>?_
 simp only [List.mem_cons,List.not_mem_nil,or_false] at hd
 rcases hd with rfl | rfl | rfl | rfl | rfl
 ·rfl
 ·rfl
 ·exact f1
 ·exact f2
 ·exact f3
theorem qdw {f:Bool}{ss:List Str}(h:0 < ss.length):∃ s∈ss,ixW (.li f #[17]) (.im (.int (-1)))=.ok (.im (.str s)):=by
 refine ⟨ss[ss.length - 1]'(by omega),List.getElem_mem _,qdu rfl ?_⟩
 rw [List.length_map,List.getElem?_map,List.getElem?_eq_getElem #[0]];rfl
theorem pick_b {a b:Bool}(c:Bool):∃ r,ixW (.li true [.bl a,.bl b]) (.im (.int (if c=true then 1 else 0)))=.ok (.im (.bl r)):=by
 cases c
 ·exact ⟨a,rfl⟩
 ·exact ⟨b,rfl⟩
theorem qan {f:Bool}:∀ (L:List Str),L.length≤2→∃ (u:Int) (M:List Str),qG1 (.li f (L.map D.str))=.ok (.im (.int u))∧slW (.li f (L.map D.str)) none (some u)=.ok (.li true (M.map D.str))∧M.Nodup∧M.length≤2∧∀ s∈M,s∈L
 | [],_=>⟨0,[],rfl,rfl,List.nodup_nil,Nat.le_of_ble_eq_true rfl,fun _ h=>h⟩
 | [a],_=>⟨1,[a],qH1 (b:=true) (ss:=[a]) rfl #[7] (by show 1 < 1000;omega),rfl,by simp,Nat.le_of_ble_eq_true rfl,fun _ h=>h⟩
 | [a,b],_=>by
  by_cases e:a=b
  ·subst e
   refine ⟨1,[a],?_,rfl,by simp,Nat.le_of_ble_eq_true rfl,fun s h=>?_⟩
   ·have hu:qHl [a,a]=1:=by
     show (qKw (qKw [] a) a).length=1
     have:qKw [] a=[a]:=rfl
     rw [this];unfold qKw;rw [if_pos #[7]];rfl
    show qG1 (.li f ([a,a].map D.str))=_
    simp only [qG1,W.items,qGn,hu]
    rfl
   ·have:s=a:=by simpa using h
    subst this;exact List.mem_cons_self ..
  ·refine ⟨2,[a,b],qH1 (b:=true) (ss:=[a,b]) rfl (by simp [e]) (by show 2 < 1000;omega),rfl,by simp [e],Nat.le_of_ble_eq_true rfl,fun _ h=>h⟩
theorem qOp {n:Nat}{d:D}(h:d∈qC4 n):∃ i:Nat,i < n∧d=.int i:=by
 unfold qC4 at h
 obtain ⟨i,hi,rfl⟩:=List.mem_map.mp h
 exact ⟨i,List.mem_range.mp hi,rfl⟩
theorem qam {ns:List Int}{at_:Int}{f:Bool}{ss:List Str}{nm:Str}(ha:0≤at_)(hN:NamesOk ss)(hnm:WordS nm){lg:Int}(lg0:0≤lg)(lg5:lg≤5) :
  ∃ d,qIz [S ns,.im (.int at_),.li f #[17],.im #[21],.im (.int lg)]=.ok (.im d)∧FileOk d nm:=by
 suffices h:∃ w,qIz [S ns,.im (.int at_),.li f #[17],.im #[21],.im (.int lg)]=.ok w∧∃ d,w=.im d∧FileOk d nm by
  obtain ⟨_,h1,d,rfl,h2⟩:=h;exact ⟨d,h1,h2⟩
 refine qJp ?_
 have hp:=hN.pos
 obtain ⟨la,hla,el⟩:=qdw (f:=false) (ss:=ss) hp
 refine qAq (δ:=[.im #[37],.im (.int at_),.rd #[17],.im #[21],.im (.int lg),.un,.un,.un,.un]) #[18] ?_
 refine qCl (Q1:=fun δ=>∃ k,δ=[.im #[37],.im (.int at_),.rd #[17],.im #[21],.im (.int lg),.im (.str k),.un,.un,.un]∧(k=Str.ofString "class"∨k=Str.ofString "face")) ?_ ?_
 ·have q0:=qBh (ns:=ns) (k:=at_) (many:=2) #[0] #[0]
  have q1:=qBh (ns:=ns) (k:=at_ + 1) (many:=8) #[0] #[0]
  obtain ⟨r,hr⟩:=pick_b (a:=decide (nm=la)) (b:=decide (mx ns at_ 2=0)) (decide (mx ns (at_ + 1) 8=0))
  refine qDb (b:=r) (by push_cast [q0,q1,el,hr]) (fun _=>⟨_,by push_cast only [okb],_,rfl,_,rfl,.inr rfl⟩) (fun _=>⟨_,rfl,_,rfl,_,rfl,.inl rfl⟩)
 rintro _ ⟨k,rfl,hk⟩
 refine qAq #[18] ?_
 refine qCl (Q1:=fun δ=>∃ a,δ=[.im #[37],.im (.int at_),.rd #[17],.im #[21],.im (.int lg),.im (.str k),.im a,.un,.un]∧AboveOk k a) ?_ ?_
 ·have q1:=qBh (ns:=ns) (k:=at_ + 1) (many:=3) #[0] #[0]
  have q2:=qBh (ns:=ns) (k:=at_ + 2) (many:=ss.length) #[0] #[0]
  obtain ⟨ab,hab,ea⟩:=qI0 (f:=false) (ss:=ss) (qQ6 (ns:=ns) (k:=at_ + 2) (many:=ss.length) #[0]) (qHv #[0])
  refine qDb (b:=decide (k=Str.ofString "class") && decide (mx ns (at_ + 1) 3=0)) (qHh (by push_cast [okb]) (by push_cast [q1])) (fun h=>⟨_,by push_cast only [q2,List.length_map,ea],_,rfl,_,rfl,?_⟩) (fun _=>⟨_,rfl,_,rfl,_,rfl,?_⟩)
  ·have h:=of_decide_eq_true (Bool.and_eq_true_iff.mp h).1
   subst h;exact .above (hN.wd _ hab)
  ·rcases hk with rfl | rfl
   ·exact .cls
   ·exact .face
 rintro _ ⟨a,rfl,hab⟩
 refine qAq #[18] ?_
 have q33:=qBh (ns:=ns) (k:=at_ + 3) (many:=3) #[0] #[0]
 have q35:=qBh (ns:=ns) (k:=at_ + 3) (many:=5) #[0] #[0]
 have q4:=qBh (ns:=ns) (k:=at_ + 4) (many:=ss.length) #[0] #[0]
 obtain ⟨fb,hfb,eb⟩:=qI0 (f:=false) (ss:=ss) (qQ6 (ns:=ns) (k:=at_ + 4) (many:=ss.length) #[0]) (qHv #[0])
 let E:List Str→qAi:=fun L=>[.im #[37],.im (.int at_),.rd #[17],.im #[21],.im (.int lg),.im (.str k),.im a,.own (L.map D.str),.un]
 refine qCl (Q1:=fun δ=>∃ L,δ=E L∧L.length≤1∧∀ s∈L,s∈ss) ?_ ?_
 ·refine qDb (b:=decide (mx ns (at_ + 3) 3=0)) (by push_cast [q33]) (fun _=>⟨_,qF2 (ds:=[]) (d:=.str la) rfl (by push_cast only [el]) #[35],_,rfl,[la],rfl,Nat.le_refl _,?_⟩) (fun _=>⟨_,rfl,_,rfl,[],rfl,Nat.zero_le _,fun s h=>nomatch h⟩)
  intro s hs
  have:s=la:=by simpa using hs
  subst this;exact hla
 rintro _ ⟨L,rfl,hL1,hL2⟩
 refine qCl (Q1:=fun δ=>∃ L,δ=E L∧L.length≤2∧∀ s∈L,s∈ss) ?_ ?_
 ·refine qDb (b:=decide (mx ns (at_ + 3) 5=1)) (by push_cast [E,q35]) (fun _=>⟨_,qF2 (ds:=L.map D.str) (d:=.str fb) rfl (by push_cast only [E,q4,List.length_map,eb]) (by rw [List.length_map];omega),_,rfl,L++[fb],?_,?_,?_⟩) (fun _=>⟨_,rfl,_,rfl,L,rfl,by omega,hL2⟩)
  ·show _=E (L++[fb])
   simp only [E,List.map_append];rfl
  ·rw [List.length_append];show L.length + 1≤2;omega
  ·intro s hs
   rcases List.mem_append.mp hs with g | g
   ·exact hL2 s g
   ·have:s=fb:=by simpa using g
    subst this;exact hfb
 clear hL1 hL2
 rintro _ ⟨L,rfl,hL1,hL2⟩
 obtain ⟨u,M,hu,hs,hM1,hM2,hM3⟩:=qan (f:=false) L hL1
 refine qAq (by push_cast only [E,hu,hs]) ?_
 have q5:=qBh (ns:=ns) (k:=at_ + 5) (many:=lg + 1) #[0] #[0]
 have m0:=qQ6 (ns:=ns) (k:=at_ + 5) (many:=lg + 1) #[0]
 have m1:=qHv (ns:=ns) (k:=at_ + 5) (many:=lg + 1) #[0]
 have hrow:∀ i:Nat,∃ d,qFa [S ns,.im (.int (at_ + 10 + 5 * (i:Int))),.li false #[17]]=.ok (.im d)∧RowOk d:=fun i=>qVl #[0] hN
 let g:D→D:=fun d=>match d with | .int i=>Classical.choose (hrow i.toNat) | _=>.non
 have hg:∀ i:Nat,qFa [S ns,.im (.int (at_ + 10 + 5 * (i:Int))),.li false #[17]]=.ok (.im (g (.int i)))∧RowOk (g (.int i)):=fun i=>Classical.choose_spec (hrow i)
 have hr:=qSa (j:=mx ns (at_ + 5) (lg + 1)) ⟨by omega,by omega⟩
 have hc:=fun δ=>qFg (δ:=.im #[37]::.im (.int at_)::.rd #[17]::δ) (el:=qBc (qAo qFa 3 (qAc (var 1) (qAc (qAm qCr (qAm qCr (var 2) (toW (cst (.int 10)))) (qAm qSn (toW (cst (.int 5))) #[2])) (qAc (var 3) qAz))))) (ds:=qC4 (mx ns (at_ + 5) (lg + 1)).toNat) g (by rw [qGr];omega) (by
  intro d hd
  obtain ⟨i,hi,rfl⟩:=qOp hd
  push_cast only [(hg i).1])
 refine qAq (by
  simp only [qCk,qAd,qAc,qB4,qAz]
  push_cast only [q5,hr,hc]) ?_
 refine qAv #[18] ⟨_,rfl,_,rfl,?_⟩
 refine qXi hnm hab hM2 hM1 (fun s hs=>hN.wd s (hL2 s (hM3 s hs))) (by rw [List.length_map,qGr];omega) ?_
 intro r hr
 obtain ⟨d,hd,rfl⟩:=List.mem_map.mp hr
 obtain ⟨i,hi,rfl⟩:=qOp hd
 exact (hg i).2
structure ShelfOk (fl:List (Str×D)):Prop where
 le:fl.length≤4
 nd:(fl.map (·.1)).Nodup
 ok:∀ p∈fl,FileOk p.2 p.1
abbrev Ld:=Option Nat×List (Str×D)
def qLj:Option Nat→D
 | none=>.non
 | some p=>.int p
def shD (fl:List (Str×D)):D:=.tup (fl.map (·.2))
def ldD (l:Ld):D:=.tup [qLj l.1,shD l.2]
def wdD (ls:List Ld):D:=.tup (ls.map ldD)
structure LoaderOk (i:Nat) (l:Ld):Prop where
 par:∀ p,l.1=some p→p < i
 sh:ShelfOk l.2
structure WorldOk (ls:List Ld):Prop where
 pos:0 < ls.length
 le:ls.length≤4
 ok:∀ (i:Nat) (l:Ld),ls[i]?=some l→LoaderOk i l
theorem qNj {ds:List D}{i:Nat}{d:D}(h:(qFt ds)[i]?=some d):∃ x,ds[i]?=some x∧d=.tup [.int i,x]:=by
 unfold qFt at h
 rw [List.getElem?_map,List.getElem?_zipIdx] at h
 cases e:ds[i]? with
 | none=>rw [e] at h;cases h
 | some x=>rw [e] at h;cases h;exact ⟨x,rfl,by rw [Nat.zero_add]⟩
theorem qNi (ds:List D):(qFt ds).length=ds.length:=by unfold qFt;rw [List.length_map,List.length_zipIdx]
theorem qS7 {α:Type}(xs:List α){t:Int}(h:0≤t):cut xs (some t) none=xs.drop t.toNat:=by
 unfold cut HT.sIx
 dsimp only
 rw [if_neg #[0]]
 rcases Nat.le_total t.toNat xs.length with g | g
 ·rw [Nat.min_eq_left g];exact List.take_of_length_le (by rw [List.length_drop];omega)
 ·rw [Nat.min_eq_right g,Nat.sub_self,List.take_zero,List.drop_of_length_le g]
theorem cut_to {α:Type}(xs:List α){t:Int}(h:0≤t):cut xs none (some t)=xs.take t.toNat:=by
 unfold cut HT.sIx
 dsimp only
 rw [if_neg #[0],List.drop_zero,Nat.sub_zero]
 rcases Nat.le_total t.toNat xs.length with g | g
 ·rw [Nat.min_eq_left g]
 ·rw [Nat.min_eq_right g,List.take_length,List.take_of_length_le g]
theorem rot_ok {fl:List (Str×D)}(m:Nat)(h:ShelfOk fl):ShelfOk (fl.drop m++fl.take m):=by
 have hp:List.Perm (fl.drop m++fl.take m) fl:=by
  have:=List.perm_append_comm (l₁:=fl.drop m) (l₂:=fl.take m)
  rw [List.take_append_drop] at this;exact this
 exact ⟨by rw [hp.length_eq];exact h.le,(hp.map _).nodup_iff.mpr h.nd,fun p hm=>h.ok p (hp.mem_iff.mp hm)⟩
theorem qUw {ns:List Int}{at_:Int}{f:Bool}{ss:List Str}(ha:0≤at_)(hN:NamesOk ss){many lg:Int}(mn1:1≤many)(mn4:many≤4)(lg0:0≤lg)(lg5:lg≤5) :
  ∃ ls,qGy [S ns,.im (.int at_),.li f #[17],.im (.int many),.im (.int lg)]=.ok (.im #[1])∧WorldOk ls∧∀ (i:Nat) (l:Ld),ls[i]?=some l→∀ p∈l.2,p.1∈ss:=by
 suffices h:∃ w,qGy [S ns,.im (.int at_),.li f #[17],.im (.int many),.im (.int lg)]=.ok w∧∃ ls,w=.im #[1]∧WorldOk ls∧∀ (i:Nat) (l:Ld),ls[i]?=some l→∀ p∈l.2,p.1∈ss by
  obtain ⟨_,h1,ls,rfl,h2⟩:=h;exact ⟨ls,h1,h2⟩
 refine qJp ?_
 have hp:=hN.pos
 have hle:=hN.le
 have q95:=qBh (ns:=ns) (k:=95) (many:=4) #[0] #[0]
 have qn:=qBh (ns:=ns) (k:=at_) (many:=many) #[0] #[0]
 have n0:=qQ6 (ns:=ns) (k:=at_) (many:=many) #[0]
 have n1:=qHv (ns:=ns) (k:=at_) (many:=many) #[0]
 refine qAq (δ:=[.im #[37],.im (.int at_),.rd #[17],.im (.int many),.im (.int lg),.un,.un,.un,.un,.un,.un,.un,.un,.un,.un]) #[18] ?_
 have etw:=fun δ=>qNp (δ:=.im #[37]::.im (.int at_)::.rd #[17]::.im (.int many)::.im (.int lg)::δ) (t:=qAm eqW (qAo qA9 3 (qAc #[2] (qAc (toW (cst (.int 95))) (qAc #[53] qAz)))) #[11]) (u:=qAm gtW (var 4) #[11]) (a:=decide (mx ns 95 4=0)) (b:=decide ((0:Int) < lg)) (by push_cast only [q95]) #[18]
 generalize htw:(decide (mx ns 95 4=0) && decide ((0:Int) < lg))=tw at etw
 refine qAq (by simp only [qCk,etw,okb,asg];exact rfl) ?_
 have hr:=qSa (j:=1 + mx ns at_ many) ⟨by omega,by omega⟩
 let E:List Ld→Sl→Sl→Sl→Sl→Sl→Sl→Sl→Sl→qAi:=fun ls x7 x8 x9 x10 x11 x12 x13 x14=>[.im #[37],.im (.int at_),.rd #[17],.im (.int many),.im (.int lg),.own (ls.map ldD),.im (.bl tw),x7,x8,x9,x10,x11,x12,x13,x14]
 let J:Nat→qAi→Prop:=fun i δ=>i≤4→∃ (ls:List Ld) (x7 x8 x9 x10 x11 x12 x13 x14:Sl),δ=E ls x7 x8 x9 x10 x11 x12 x13 x14∧ls.length=i∧∀ (i:Nat) (l:Ld),ls[i]?=some l→LoaderOk i l∧∀ p∈l.2,p.1∈ss
 refine qCl (Q1:=fun δ=>J (1 + mx ns at_ many).toNat δ) ?_ ?_
 ·refine qEy (ds:=qC4 (1 + mx ns at_ many).toNat) J (by push_cast only [qn,hr]) (fun _=>⟨[],_,_,_,_,_,_,_,_,rfl,rfl,fun i l h=>nomatch h⟩) ?_ (fun δ' hj=>⟨_,rfl,by rw [qGr] at hj;exact hj⟩)
  intro i d δ hd hj
  obtain ⟨rfl,hi⟩:=qMt hd
  obtain ⟨ls,x7,x8,x9,x10,x11,x12,x13,x14,rfl,hl,hls⟩:=hj #[0]
  refine ⟨E ls (.im (.int i)) x8 x9 x10 x11 x12 x13 x14,rfl,?_⟩
  refine qAq (δ':=E ls (.im (.int i)) (.im (.int (at_ + 200 * ((i:Int) + 1)))) x9 x10 x11 x12 x13 x14) #[36] ?_
  have hh:0≤at_ + 200 * ((i:Int) + 1):=by omega
  generalize at_ + 200 * ((i:Int) + 1)=here at hh ⊢
  refine qAq (δ':=E ls (.im (.int i)) (.im (.int here)) (.im .non) x10 x11 x12 x13 x14) #[36] ?_
  refine qCl (Q1:=fun δ=>∃ par:Option Nat,δ=E ls (.im (.int i)) (.im (.int here)) (.im (qLj par)) x10 x11 x12 x13 x14∧∀ p,par=some p→p < i) ?_ ?_
  ·have q0:=qBh (ns:=ns) (k:=here) (many:=4) #[0] #[0]
   refine qDb (b:=decide ((0:Int) < (i:Int)) && decide (0 < mx ns here 4)) (qHh #[36] (by push_cast only [E,q0])) (fun h=>?_) (fun _=>⟨_,rfl,_,rfl,none,rfl,fun _ h=>nomatch h⟩)
   have h:=of_decide_eq_true (Bool.and_eq_true_iff.mp h).1
   have q1:=qBh (ns:=ns) (k:=here + 1) (many:=(i:Int)) #[0] #[0]
   have p0:=qQ6 (ns:=ns) (k:=here + 1) (many:=(i:Int)) #[0]
   have p1:=qHv (ns:=ns) (k:=here + 1) (many:=(i:Int)) #[0]
   refine ⟨_,by push_cast only [E,q1],_,rfl,some (mx ns (here + 1) i).toNat,?_,fun p e=>by cases e;omega⟩
   have:qLj (some (mx ns (here + 1) i).toNat)=.int (mx ns (here + 1) i):=by
    show D.int (((mx ns (here + 1) i).toNat:Nat):Int)=_
    rw [Int.toNat_of_nonneg p0]
   rw [this]
  rintro _ ⟨par,rfl,hpar⟩
  refine qAq (δ':=E ls (.im (.int i)) (.im (.int here)) (.im (qLj par)) (.own []) x11 x12 x13 x14) #[36] ?_
  let J2:Nat→qAi→Prop:=fun j δ=>∃ (fl:List (Str×D)) (y11 y12 y13:Sl),δ=E ls (.im (.int i)) (.im (.int here)) (.im (qLj par)) (.own (fl.map (·.2))) y11 y12 y13 x14∧(fl.map (·.1)).Sublist (ss.take j)∧∀ p∈fl,FileOk p.2 p.1
  refine qCl (Q1:=fun δ=>J2 ss.length δ) ?_ ?_
  ·refine qEy (ds:=qFt #[17]) J2 #[36] ⟨[],_,_,_,rfl,List.Sublist.refl _,fun p h=>nomatch h⟩ ?_ (fun δ' hj=>⟨_,rfl,by rw [qNi,List.length_map] at hj;exact hj⟩)
   intro k d δ hd hj
   obtain ⟨x,hx,rfl⟩:=qNj hd
   obtain ⟨fl,y11,y12,y13,rfl,hf1,hf2⟩:=hj
   have hk:k < ss.length:=by
    rcases Nat.lt_or_ge k ss.length with g | g
    ·exact g
    ·rw [List.getElem?_eq_none (by rw [List.length_map];exact g)] at hx;cases hx
   have hx:D.str ss[k]=x:=by
    rw [List.getElem?_map,List.getElem?_eq_getElem hk] at hx;cases hx;rfl
   subst hx
   have hw:WordS ss[k]:=hN.wd _ (List.getElem_mem _)
   have hfl:fl.length≤4:=by
    have:=hf1.length_le
    rw [List.length_map,List.length_take] at this;omega
   have hsub:∀ d:D,((fl++[(ss[k],d)]).map (·.1)).Sublist (ss.take (k + 1)):=by
    intro d
    rw [List.map_append,List.take_succ,List.getElem?_eq_getElem hk]
    exact hf1.append (List.Sublist.refl _)
   have hall:∀ d:D,FileOk d ss[k]→∀ p∈fl++[(ss[k],d)],FileOk p.2 p.1:=by
    intro d h p hp
    rcases List.mem_append.mp hp with g | g
    ·exact hf2 p g
    ·have:p=(ss[k],d):=by simpa using g
     subst this;exact h
   have hskip:(fl.map (·.1)).Sublist (ss.take (k + 1)):=hf1.trans (List.take_sublist_take_left (Nat.le_succ k))
   refine ⟨E ls (.im (.int i)) (.im (.int here)) (.im (qLj par)) (.own (fl.map (·.2))) (.im (.int k)) (.im (.str ss[k])) y13 x14,rfl,?_⟩
   refine qDb (b:=tw && (decide ((i:Int)=0) && (decide ((k:Int) < 2) && decide ((1:Int) < ss.length)))) (qHh #[36] (qHh #[36] (qHh #[36] (by push_cast only [E,List.length_map])))) (fun h=>?_) (fun _=>?_)
   ·have h:=(Bool.and_eq_true_iff.mp (Bool.and_eq_true_iff.mp h).2).2
    have h2:=of_decide_eq_true (Bool.and_eq_true_iff.mp h).1
    have h3:=of_decide_eq_true (Bool.and_eq_true_iff.mp h).2
    obtain ⟨rw_,er,hrw⟩:=qVl (ns:=ns) (at_:=here + 10 + 45 * (k:Int)) (f:=false) #[0] hN
    have q5:=qBh (ns:=ns) (k:=here + 5) (many:=2) #[0] #[0]
    have p0:=qQ6 (ns:=ns) (k:=here + 5) (many:=2) #[0]
    obtain ⟨o,ho,eo⟩:=qI0 (f:=false) (ss:=ss) (j:=1 - (k:Int)) #[0] #[0]
    refine qAq (δ':=E ls (.im (.int i)) (.im (.int here)) (.im (qLj par)) (.own (fl.map (·.2))) (.im (.int k)) (.im (.str ss[k])) (.im rw_) x14) (by push_cast only [E,er]) ?_
    refine ⟨_,qF2 (ds:=fl.map (·.2)) (d:=.tup [.str "class",.str ss[k],.non,.tup [],.tup (cut [rw_,.tup [.str "need",.str o]] (some (mx ns (here + 5) 2)) none)]) rfl (by push_cast only [E,eo,q5,slW]) (by rw [List.length_map];omega),_,rfl,fl++[(ss[k],.tup [.str "class",.str ss[k],.non,.tup [],.tup (cut [rw_,.tup [.str "need",.str o]] (some (mx ns (here + 5) 2)) none)])],.im (.int k),.im (.str ss[k]),.im rw_,?_,hsub _,hall _ ?_⟩
    ·show _=E _ _ _ _ _ _ _ _ _
     simp only [E,List.map_append,List.map_cons,List.map_nil];rfl
    ·rw [qS7 _ p0]
     refine qXi (ss:=[]) hw .cls #[35] List.nodup_nil (fun s h=>nomatch h) (by rw [List.length_drop];show 2 - _≤5;omega) ?_
     intro r hr
     have hr:=List.mem_of_mem_drop hr
     simp only [List.mem_cons,List.not_mem_nil,or_false] at hr
     rcases hr with rfl | rfl
     ·exact hrw
     ·exact qR9 (hN.wd o ho)
   ·have q2:=qBh (ns:=ns) (k:=here + 2 + (k:Int)) (many:=3) #[0] #[0]
    refine qDb (b:=decide (0 < mx ns (here + 2 + (k:Int)) 3)) (by push_cast only [E,q2]) (fun _=>?_) (fun _=>⟨_,rfl,_,rfl,fl,_,_,_,rfl,hskip,hf2⟩)
    obtain ⟨fd,ef,hfd⟩:=qam (ns:=ns) (at_:=here + 10 + 45 * (k:Int)) (f:=false) #[0] hN hw lg0 lg5
    refine ⟨_,qF2 (ds:=fl.map (·.2)) (d:=fd) rfl (by push_cast only [E,ef]) (by rw [List.length_map];omega),_,rfl,fl++[(ss[k],fd)],.im (.int k),.im (.str ss[k]),y13,?_,hsub _,hall _ hfd⟩
    show _=E _ _ _ _ _ _ _ _ _
    simp only [E,List.map_append,List.map_cons,List.map_nil];rfl
  rintro _ ⟨fl,y11,y12,y13,rfl,hf1,hf2⟩
  rw [List.take_length] at hf1
  have hfl:fl.length≤4:=by
   have:=hf1.length_le
   rw [List.length_map] at this;omega
  have q8:=qBh (ns:=ns) (k:=here + 8) (many:=4) #[0] #[0]
  have t0:=qQ6 (ns:=ns) (k:=here + 8) (many:=4) #[0]
  refine qAq (δ':=E ls (.im (.int i)) (.im (.int here)) (.im (qLj par)) (.own (fl.map (·.2))) y11 y12 y13 (.im (.int (mx ns (here + 8) 4)))) (by push_cast only [E,q8]) ?_
  have hsh:=rot_ok (mx ns (here + 8) 4).toNat (fl:=fl) ⟨hfl,hf1.nodup hN.nd,hf2⟩
  have hc1:=qS7 (fl.map (·.2)) t0
  have hc2:=cut_to (fl.map (·.2)) t0
  have hal:((fl.map (·.2)).drop (mx ns (here + 8) 4).toNat).length + ((fl.map (·.2)).take (mx ns (here + 8) 4).toNat).length≤16777216:=by
   rw [List.length_drop,List.length_take,List.length_map];omega
  refine ⟨_,qF2 (ds:=ls.map ldD) (d:=ldD (par,fl.drop (mx ns (here + 8) 4).toNat++fl.take (mx ns (here + 8) 4).toNat)) rfl ?_ (by rw [List.length_map];omega),_,rfl,fun _=>⟨ls++[(par,fl.drop (mx ns (here + 8) 4).toNat++fl.take (mx ns (here + 8) 4).toNat)],.im (.int i),.im (.int here),.im (qLj par),.own (fl.map (·.2)),y11,y12,y13,.im (.int (mx ns (here + 8) 4)),?_,?_,?_⟩⟩
  ·push_cast [E,slW,hc1,hc2,qEr hal]
   simp only [ldD,shD,List.map_append,List.map_drop,List.map_take]
  ·show _=E _ _ _ _ _ _ _ _ _
   simp only [E,List.map_append,List.map_cons,List.map_nil];rfl
  ·rw [List.length_append,hl];rfl
  ·intro j l hj
   rcases Nat.lt_or_ge j ls.length with g | g
   ·rw [List.getElem?_append_left g] at hj;exact hls j l hj
   ·rw [List.getElem?_append_right g] at hj
    have:j=ls.length:=by
     rcases Nat.lt_or_ge (j - ls.length) 1 with g2 | g2
     ·omega
     ·rw [List.getElem?_eq_none g2] at hj;cases hj
    subst this
    rw [Nat.sub_self] at hj;cases hj
    refine ⟨⟨fun p e=>by rw [hl];exact hpar p e,hsh⟩,fun p hp=>hf1.subset (List.mem_map.mpr ⟨p,?_,rfl⟩)⟩
    rcases List.mem_append.mp hp with g | g
    ·exact List.mem_of_mem_drop g
    ·exact List.mem_of_mem_take g
 ·intro δ' hj
  obtain ⟨ls,x7,x8,x9,x10,x11,x12,x13,x14,rfl,hl,hls⟩:=hj #[0]
  exact qAv #[36] ⟨_,rfl,ls,rfl,⟨by omega,by omega,fun i l e=>(hls i l e).1⟩,fun i l e=>(hls i l e).2⟩
theorem qWc {t u:qAi→Rs W}{δ:qAi}{a b:Bool}(h1:t δ=.ok (.im (.bl a)))(h2:a=false→u δ=.ok (.im (.bl b))):orW t u δ=.ok (.im (.bl (a || b))):=by
 simp only [orW,h1,okb,W.bool]
 cases a
 ·rw [h2 rfl];rfl
 ·rfl
def nmS (fl:List (Str×D)):List Str:=fl.map (·.1)
theorem qFl {fl:List (Str×D)}(h:ShelfOk fl):qCn [.im (shD fl)]=.ok (.li true ((nmS fl).map D.str)):=by
 refine qAx (qAv (δ:=[.im (shD fl)]) (w:=.li true ((nmS fl).map D.str)) ?_ rfl)
 have hle:=h.le
 let g:D→D:=fun d=>match d with | .tup (_::n::_)=>n | _=>.non
 have hc:=qFg (δ:=[.im (shD fl)]) (el:=qBc (qAm ixW #[2] #[9])) (ds:=fl.map (·.2)) g (by rw [List.length_map];omega) (by
  intro d hd
  obtain ⟨p,hp,rfl⟩:=List.mem_map.mp hd
  obtain ⟨k,r,e⟩:=(h.ok p hp).sh
  rw [e]
  push_cast only [ix1])
 have e:(fl.map (·.2)).map g=(nmS fl).map D.str:=by
  unfold nmS
  rw [List.map_map,List.map_map]
  refine List.map_congr_left fun p hp=>?_
  obtain ⟨k,r,e⟩:=(h.ok p hp).sh
  show g p.2=D.str p.1
  rw [e]
 rw [e] at hc
 simp only [qB4,qAd,var,List.getElem?_cons_zero,okb,W.walk,W.items,shD]
 exact hc
theorem qO9 {fl:List (Str×D)}(h:ShelfOk fl):qHx [.im (shD fl)]=.ok Tr:=by
 refine qAx ?_
 have hle:=h.le
 have it:=qCa (ds:=fl.map (·.2)) (lo:=0) (hi:=4) #[0] (by rw [List.length_map];omega)
 have ha:=qNq (δ:=[.im (shD fl)]) (gi:=qAd #[2] W.walk) (el:=qBc (qAo qEa 1 #[23])) (ds:=fl.map (·.2)) rfl (by rw [List.length_map];omega) (by
  intro d hd
  obtain ⟨p,hp,rfl⟩:=List.mem_map.mp hd
  push_cast only [(h.ok p hp).is])
 have hn:=qFl h
 have hu:=qF1 (w:=.li true ((nmS fl).map D.str)) (ss:=nmS fl) rfl h.nd (by unfold nmS;rw [List.length_map];omega)
 refine qAs (b:=false) (δ:=[.im (shD fl)]) ?_ #[14] (fun _=>qBg (qAv (w:=Tr) ?_ rfl))
 ·have h1:qGb (qAd (qAo qBz 3 (qAc #[2] (qAc #[11] (qAc #[53] qAz)))) W.tru) [.im (shD fl)]=.ok false:=by
   unfold shD;push_cast [it]
  have h2:qGb (qAd (qAd (qAc (qB4 (qAd #[2] W.walk) #[43] (qBc (qAo qEa 1 #[23]))) qAz) qUq) W.tru) [.im (shD fl)]=.ok false:=by
   show ((qAd (qAc (qB4 (qAd #[2] W.walk) #[43] (qBc (qAo qEa 1 #[23]))) qAz) qUq [.im (shD fl)]>>=W.tru)>>=fun b=>.ok (!b))=_
   rw [ha];rfl
  simp only [orB,h1,h2,okb,Bool.false_eq_true,qDs]
 ·push_cast [hn,hu]
theorem qM9 {l:Ld}{i:Nat}(h:LoaderOk i l):qGc [.im (ldD l),.im (.int i)]=.ok Tr:=by
 refine qAx ?_
 have it:=qCa (ds:=[qLj l.1,shD l.2]) (lo:=2) (hi:=2) (by show (2:Int)≤((2:Nat):Int);omega) (by show ((2:Nat):Int)≤2;omega)
 have hs:=qO9 h.sh
 refine qAs (b:=false) (δ:=[.im (.tup [qLj l.1,shD l.2]),.im (.int i)]) (by push_cast [it]) #[14] (fun _=>qBg (qAv (w:=Tr) ?_ rfl))
 refine qNp (a:=true) (b:=true) ?_ (by push_cast [ix1,hs])
 cases e:l.1 with
 | none=>exact qWc (a:=true) (b:=true) (by push_cast [ix0,qLj]) #[14]
 | some p=>
  have hp:=h.par p e
  have hn:=qEk (i:=(p:Int)) (lo:=0) (hi:=(i:Int) - 1) #[0] #[0]
  exact qWc (a:=false) (b:=true) (by push_cast [ix0,qLj]) (fun _=>by push_cast [ix0,qLj,hn])
theorem qKq {ls:List Ld}(h:WorldOk ls):qE9 [.im #[1]]=.ok (.im #[1]):=by
 refine qAx ?_
 have hp:=h.pos
 have hl:=h.le
 have it:=qCa (ds:=ls.map ldD) (lo:=1) (hi:=4) (by rw [List.length_map];omega) (by rw [List.length_map];omega)
 refine qAs (b:=false) (δ:=[.im #[57],.un,.un]) (by push_cast [it]) #[14] #[47]
 refine qCl (Q1:=fun δ=>∃ x y,δ=[.im #[57],x,y]) ?_ ?_
 ·refine qEy (ds:=qFt (ls.map ldD)) (fun _ δ=>∃ x y,δ=[.im #[57],x,y]) #[18] ⟨_,_,rfl⟩ ?_ (fun δ' hj=>⟨_,rfl,hj⟩)
  rintro i d _ hd ⟨x,y,rfl⟩
  obtain ⟨z,hz,rfl⟩:=qNj hd
  rw [List.getElem?_map] at hz
  obtain ⟨l,hl,rfl⟩:=Option.map_eq_some_iff.mp hz
  have:=qM9 (h.ok i l hl)
  refine ⟨[.im #[57],.im (.int i),.im (ldD l)],rfl,?_⟩
  exact qcu (by push_cast [this]) ⟨_,rfl,_,rfl,_,_,rfl⟩
 ·rintro _ ⟨x,y,rfl⟩
  exact qAv #[18] rfl
def qJx (ls:List Ld)(i:Nat):Option Nat:=(ls[i]?).bind (·.1)
def up (ls:List Ld):Nat→Nat→List Nat
 | 0,_=>[]
 | n + 1,i=>i::(match qJx ls i with | none=>[] | some p=>up ls n p)
theorem qLi {ls:List Ld}(h:WorldOk ls){i p:Nat}(e:qJx ls i=some p):p < i:=by
 unfold qJx at e
 cases q:ls[i]? with
 | none=>rw [q] at e;cases e
 | some l=>rw [q] at e;exact (h.ok i l q).par p e
theorem up_st {ls:List Ld}(h:WorldOk ls):∀ (n m i:Nat),i < n→i < m→up ls n i=up ls m i
 | 0,_,_,a,_=>absurd a (Nat.not_lt_zero _)
 | _ + 1,0,_,_,b=>absurd b (Nat.not_lt_zero _)
 | n + 1,m + 1,i,a,b=>by
  unfold up
  cases e:qJx ls i with
  | none=>rfl
  | some p=>
   have:=qLi h e
   simp only
   rw [up_st h n m p #[0] #[0]]
def qDu (ls:List Ld)(i:Nat):List Nat:=up ls (i + 1) i
theorem qFp {ls:List Ld}{i:Nat}(e:qJx ls i=none):qDu ls i=[i]:=by
 unfold qDu up;rw [e]
theorem qEd {ls:List Ld}(h:WorldOk ls){i p:Nat}(e:qJx ls i=some p):qDu ls i=i::qDu ls p:=by
 have:=qLi h e
 unfold qDu
 rw [up,e]
 simp only
 rw [up_st h i (p + 1) p this (Nat.lt_succ_self _)]
theorem qKr {ls:List Ld}(h:WorldOk ls):∀ (i:Nat),i < ls.length→∀ j∈qDu ls i,j < ls.length:=by
 intro i
 induction i using Nat.strongRecOn with
 | _ i ih=>
  intro hi j hj
  cases e:qJx ls i with
  | none=>rw [qFp e] at hj;have:j=i:=(by simpa using hj);omega
  | some p=>
   rw [qEd h e] at hj
   have:=qLi h e
   rcases List.mem_cons.mp hj with rfl | g
   ·exact hi
   ·exact ih p this #[0] j g
theorem ix_w {ls:List Ld}{i:Nat}{l:Ld}(h:ls[i]?=some l):ixW (.im #[1]) (.im #[29])=.ok (.im (ldD l)):=by
 refine qG2 rfl #[0] ?_
 rw [Int.toNat_natCast,List.getElem?_map,h];rfl
theorem qT7 {ls:List Ld}{i:Nat}(h:i < ls.length):∃ l,ls[i]?=some l∧qJx ls i=l.1:=by
 refine ⟨ls[i],List.getElem?_eq_getElem h,?_⟩
 unfold qJx;rw [List.getElem?_eq_getElem h];rfl
theorem ld0 {l:Ld}:ixW (.im (ldD l)) (.im (.int 0))=.ok (.im (qLj l.1)):=ix0
theorem ld1 {l:Ld}:ixW (.im (ldD l)) (.im (.int 1))=.ok (.im (shD l.2)):=ix1
theorem qI6 {t:qAi→Rs Bool}{b:qAi→Rs Fl}{n:Nat}{δ δ2:qAi}{r:Rs Fl}(h1:t δ=.ok true)(h2:b δ=.ok (.nx δ2))(h3:qCb t b n δ2=r):qCb t b (n + 1) δ=r:=by
 rw [qCb,h1,okb,if_pos rfl,h2];exact h3
theorem qI7 {t:qAi→Rs Bool}{b:qAi→Rs Fl}{n:Nat}{δ:qAi}(h1:t δ=.ok false):qCb t b (n + 1) δ=.ok (.nx δ):=by
 rw [qCb,h1,okb,if_neg #[5]]
theorem qT6 {ls:List Ld}(h:WorldOk ls)(x1:Sl):∀ (i:Nat),i < ls.length→∀ (n:Nat) (acc:List D),i + 1 < n→acc.length + i < 100→
  qCb (qAd (qAm qC3 (var 3) #[16]) W.bool) (qBb (qI2 2 (qBc (var 3))) (qCk 3 (qAm ixW (qAm ixW #[2] (var 3)) #[11]))) n [.im #[1],x1,.own acc,.im #[29]]=.ok (.nx [.im #[1],x1,.own (acc++(qDu ls i).map fun (j:Nat)=>D.int (j:Int)),.im .non]):=by
 intro i
 induction i using Nat.strongRecOn with
 | _ i ih=>
  intro hi n acc hn ha
  obtain ⟨l,hl,hp⟩:=qT7 hi
  obtain ⟨n,rfl⟩:∃ m,n=m + 1 + 1:=⟨n - 2,by omega⟩
  have hb:qBb (qI2 2 (qBc (var 3))) (qCk 3 (qAm ixW (qAm ixW #[2] (var 3)) #[11])) [.im #[1],x1,.own acc,.im #[29]]=.ok (.nx [.im #[1],x1,.own (acc++[.int (i:Int)]),.im (qLj l.1)]):=by
   have e1:=qF2 (δ:=[.im #[1],x1,.own acc,.im #[29]]) (i:=2) (gd:=qBc (var 3)) (d:=.int i) rfl rfl (by omega:acc.length < 1000)
   have:=ix_w hl
   simp only [qBb,e1]
   push_cast [this,ld0]
  refine qI6 #[18] hb ?_
  cases e:l.1 with
  | none=>
   rw [e] at hp
   rw [qFp hp]
   exact qI7 (by push_cast only [qLj])
  | some p=>
   rw [e] at hp
   have hlt:=qLi h hp
   rw [qEd h hp]
   show qCb _ _ (n + 1) [.im #[1],x1,.own (acc++[.int (i:Int)]),.im (.int (p:Int))]=_
   rw [ih p hlt #[0] (n + 1) _ #[0] (by rw [List.length_append];show acc.length + 1 + p < 100;omega),List.append_assoc]
   rfl
def qEu (ls:List Ld)(i:Nat):List D:=(qDu ls i).reverse.map fun (j:Nat)=>D.int (j:Int)
theorem qRb {ls:List Ld}(h:WorldOk ls){i:Nat}(hi:i < ls.length):qGv [.im #[1],.im #[29]]=.ok (.li true (qEu ls i)):=by
 have hl:=h.le
 refine qAx ?_
 refine qAq (δ:=[.im #[1],.im #[29],.un,.un]) #[18] ?_
 refine qAq #[18] ?_
 refine qAq (qT6 h (.im #[29]) i hi 1000 [] #[0] (by show 0 + i < 100;omega)) ?_
 refine qAv (w:=.li true (qEu ls i)) ?_ rfl
 unfold qEu
 push_cast [revL,List.map_reverse,List.nil_append]
theorem qRa {ls:List Ld}(h:WorldOk ls)(x1:Sl):∀ (i:Nat),i < ls.length→∀ (n:Nat) (acc:List D),i < n→acc.length + i < 100→
  qCb (qAd (qAm qC3 (qAm ixW (qAm ixW #[2] (qAm ixW (var 2) #[11])) #[11]) #[16]) W.bool) (qCk 2 (qAm qCr (qAd (qAw (qBc (qAm ixW (qAm ixW #[2] (qAm ixW (var 2) #[11])) #[11])) qB9) qBt) (var 2))) n [.im #[1],x1,.own (.int (i:Int)::acc)]=.ok (.nx [.im #[1],x1,.own (qEu ls i++acc)]):=by
 intro i
 induction i using Nat.strongRecOn with
 | _ i ih=>
  intro hi n acc hn ha
  obtain ⟨l,hl,hp⟩:=qT7 hi
  obtain ⟨n,rfl⟩:∃ m,n=m + 1:=⟨n - 1,by omega⟩
  have e0:ixW (.li false (.int (i:Int)::acc)) (.im (.int 0))=.ok (.im #[29]):=qG2 rfl #[0] rfl
  have ew:=ix_w hl
  cases e:l.1 with
  | none=>
   rw [e] at hp
   have:qEu ls i=[.int (i:Int)]:=by unfold qEu;rw [qFp hp];rfl
   rw [this]
   exact qI7 (by push_cast only [e0,ew,ld0,e,qLj])
  | some p=>
   rw [e] at hp
   have hlt:=qLi h hp
   have hal:[D.int (p:Int)].length + (D.int (i:Int)::acc).length≤16777216:=by show 1 + (acc.length + 1)≤16777216;omega
   refine qI6 (δ2:=[.im #[1],x1,.own (.int (p:Int)::.int (i:Int)::acc)]) (by push_cast only [e0,ew,ld0,e,qLj]) (by push_cast only [e0,ew,ld0,e,qLj,qEr hal]) ?_
   rw [ih p hlt #[0] n _ #[0] (by show acc.length + 1 + p < 100;omega)]
   have:qEu ls i=qEu ls p++[.int (i:Int)]:=by
    unfold qEu;rw [qEd h hp,List.reverse_cons,List.map_append];rfl
   rw [this,List.append_assoc];rfl
theorem qWs {ls:List Ld}(h:WorldOk ls){i:Nat}(hi:i < ls.length):qIy [.im #[1],.im #[29]]=.ok (.li true (qEu ls i)):=by
 have hl:=h.le
 refine qAx ?_
 refine qAq (δ:=[.im #[1],.im #[29],.un]) #[18] ?_
 refine qAq (qRa h (.im #[29]) i hi 1000 [] #[0] (by show 0 + i < 100;omega)) ?_
 refine qAv (w:=.li true (qEu ls i)) ?_ rfl
 push_cast [List.append_nil]
def nmAt (ls:List Ld)(j:Nat):List Str:=match ls[j]? with | some l=>nmS l.2 | none=>[]
def has (ls:List Ld)(nm:Str)(j:Nat):Bool:=(nmAt ls j).any (· == nm)
def qCs (ls:List Ld)(i:Nat)(nm:Str):Option Nat:=(qDu ls i).reverse.find? (has ls nm)
def qI3 (nm:Str):Option Nat→D
 | none=>.non
 | some j=>.tup [.int (j:Int),.str nm]
theorem qPr {t:D→qAi→Rs qAi}{b:qAi→Rs Fl}(p:Nat→Bool)(r:Nat→W)(J:qAi→Prop):∀ (xs:List Nat) (δ:qAi),J δ→
  (∀ x∈xs,∀ δ,J δ→∃ δ1,t (.int (x:Int)) δ=.ok δ1∧(p x=true→b δ1=.ok (.rt (r x)))∧(p x=false→∃ δ2,b δ1=.ok (.nx δ2)∧J δ2))→
  match xs.find? p with
  | some x=>qEv t b (xs.map fun (j:Nat)=>D.int (j:Int)) δ=.ok (.rt (r x))
  | none=>∃ δ',qEv t b (xs.map fun (j:Nat)=>D.int (j:Int)) δ=.ok (.nx δ')∧J δ'
 | [],δ,h0,_=>⟨δ,rfl,h0⟩
 | x::xs,δ,h0,hs=>by
  obtain ⟨δ1,e1,ht,hf⟩:=hs x #[51] δ h0
  rw [List.find?_cons]
  cases e:p x with
  | true=>simp only [List.map_cons,qEv,e1,ht e]
  | false=>
   obtain ⟨δ2,e2,j2⟩:=hf e
   have ih:=qPr p r J xs δ2 j2 fun y hy=>hs y (List.mem_cons_of_mem _ hy)
   simp only [List.map_cons,qEv,e1,e2]
   exact ih
theorem qaf {f:Bool}{nm:Str}{ss:List Str}:inW (.im #[21]) (.li f #[17])=.ok (.im (.bl (ss.any (· == nm)))):=by
 have h:fineDs 50 #[17]=true:=qFe 50 ss
 have e:qNs #[21] #[17]=ss.any (· == nm):=by
  unfold qNs;rw [List.any_map];rfl
 show (if qA3 50 (D.str nm)=true∧fineDs 50 #[17]=true then Rs.ok (W.im (D.bl (qNs (D.str nm) #[17]))) else Rs.no)=_
 rw [if_pos ⟨rfl,h⟩,e]
theorem qSr {ls:List Ld}{j:Nat}{l:Ld}(h:ls[j]?=some l)(nm:Str):has ls nm j=(nmS l.2).any (· == nm):=by
 unfold has nmAt;rw [h]
theorem qPq {ls:List Ld}(h:WorldOk ls){i:Nat}(hi:i < ls.length)(nm:Str):qE7 [.im #[1],.im #[29],.im #[21]]=.ok (.im (qI3 nm (qCs ls i nm))):=by
 refine qAx ?_
 have el:=qRb h hi
 have hf:=qPr (t:=qD6 3) (b:=ifF (qAd (qAm inW (var 2) (qAo qCn 1 (qAc (qAm ixW (qAm ixW #[2] (var 3)) #[9]) qAz))) W.bool) (qBw (toW (qAd (qAw (qBc (var 3)) (qAw (qBc (var 2)) qB9)) qB0))) qCw)
  (has ls nm) (fun j=>.im (.tup [.int (j:Int),.str nm])) (fun δ=>∃ x,δ=[.im #[1],.im #[29],.im #[21],x]) (qDu ls i).reverse [.im #[1],.im #[29],.im #[21],.un] ⟨_,rfl⟩ (by
  rintro j hj _ ⟨x,rfl⟩
  have hj:=qKr h i hi j (List.mem_reverse.mp hj)
  obtain ⟨l,hl,_⟩:=qT7 hj
  have en:=qFl (h.ok j l hl).sh
  have ew:=ix_w hl
  have et:qAd (qAm inW (var 2) (qAo qCn 1 (qAc (qAm ixW (qAm ixW #[2] (var 3)) #[9]) qAz))) W.bool [.im #[1],.im #[29],.im #[21],.im (.int (j:Int))]=.ok (has ls nm j):=by
   rw [qSr hl]
   push_cast only [ew,ld1,en,qaf]
  refine ⟨_,rfl,fun e=>?_,fun e=>⟨[.im #[1],.im #[29],.im #[21],.im (.int (j:Int))],?_,⟨_,rfl⟩⟩⟩
  ·rw [e] at et
   show ifF _ _ _ [.im #[1],.im #[29],.im #[21],.im (.int (j:Int))]=_
   simp only [ifF,et,okb,qDm]
   push_cast only [okb]
  ·rw [e] at et
   show ifF _ _ _ [.im #[1],.im #[29],.im #[21],.im (.int (j:Int))]=_
   simp only [ifF,et,okb,Bool.false_eq_true,qDs,qCw])
 have eg:qAd (qAo qGv 2 #[42]) W.walkN [.im #[1],.im #[29],.im #[21],.un]=.ok (qEu ls i):=by
  push_cast only [el]
 unfold qCs
 cases e:(qDu ls i).reverse.find? (has ls nm) with
 | some j=>
  rw [e] at hf
  refine qMr (δ:=[.im #[1],.im #[29],.im #[21],.un]) (w:=.im (qI3 nm (some j))) ?_ rfl
  simp only [qGi,eg,okb]
  exact hf
 | none=>
  rw [e] at hf
  obtain ⟨δ',e',x,rfl⟩:=hf
  refine qAq (δ:=[.im #[1],.im #[29],.im #[21],.un]) (δ':=[.im #[1],.im #[29],.im #[21],x]) ?_ (qAv #[18] rfl)
  simp only [qGi,eg,okb]
  exact e'
theorem qWr {fl:List (Str×D)}(h:ShelfOk fl)(nm:Str):qO2 [.im (shD fl),.im #[21]]=.ok (.li true ((fl.filter fun p=>p.1 == nm).map (·.2))):=by
 have hle:=h.le
 let q:D→Bool:=fun d=>match d with | .tup (_::.str n::_)=>n == nm | _=>false
 have hc:=qKm (δ:=[.im (shD fl),.im #[21]]) (t:=qAd (qAm eqW (qAm ixW #[2] #[9]) (var 2)) W.bool) (el:=qBc #[2]) (ds:=fl.map (·.2)) q id (by rw [List.length_map];omega) (by
  intro d hd
  obtain ⟨p,hp,rfl⟩:=List.mem_map.mp hd
  obtain ⟨k,r,e⟩:=(h.ok p hp).sh
  rw [e]
  exact ⟨by push_cast only [ix1],fun _=>rfl⟩)
 have e:((fl.map (·.2)).filter q).map id=(fl.filter fun p=>p.1 == nm).map (·.2):=by
  rw [List.map_id,List.filter_map]
  congr 1
  refine List.filter_congr fun p hp=>?_
  obtain ⟨k,r,e⟩:=(h.ok p hp).sh
  show q p.2=_
  rw [e]
 rw [e] at hc
 refine qAx (qAv (δ:=[.im (shD fl),.im #[21]]) ?_ rfl)
 simp only [qB4,qAd,var,List.getElem?_cons_zero,okb,W.walk,W.items,shD]
 exact hc
theorem ne_nil {ds:List D}(h:∀ d∈ds,qA3 49 d=true):neW (.li true ds) (.li true [])=.ok (.im (.bl (!ds.isEmpty))):=by
 have f:qA3 50 (D.lst ds)=true:=qD2 49 ds h
 show (if qA3 50 (D.lst ds)=true∧qA3 50 (D.lst [])=true then Rs.ok (W.im (D.bl (!eqD (.lst ds) (.lst [])))) else Rs.no)=_
 rw [if_pos ⟨f,rfl⟩]
 cases ds <;> rfl
theorem qee {f:Bool}{ds:List D}(h:∀ d∈ds,qA3 49 d=true):eqW (.li f ds) (.li true [])=.ok (.im (.bl ds.isEmpty)):=by
 have f:qA3 50 (D.lst ds)=true:=qD2 49 ds h
 show (if qA3 50 (D.lst ds)=true∧qA3 50 (D.lst [])=true then Rs.ok (W.im (D.bl (eqD (.lst ds) (.lst [])))) else Rs.no)=_
 rw [if_pos ⟨f,rfl⟩]
 cases ds <;> rfl
theorem qUd {fl:List (Str×D)}{nm:Str}:(!((fl.filter fun p=>p.1 == nm).map (·.2)).isEmpty)=(nmS fl).any (· == nm):=by
 unfold nmS
 induction fl with
 | nil=>rfl
 | cons p fl ih=>
  rw [List.filter_cons,List.map_cons,List.any_cons]
  cases e:(p.1 == nm) with
  | true=>rfl
  | false=>exact ih
theorem qO4 {ls:List Ld}(h:WorldOk ls){i:Nat}(hi:i < ls.length)(nm:Str):qD1 [.im #[1],.im #[29],.im #[21]]=.ok (.im (qI3 nm (qCs ls i nm))):=by
 refine qAx ?_
 have hle:=h.le
 have el:=qWs h hi
 have hll:(qEu ls i).length < 16777216:=by
  unfold qEu
  rw [List.length_map,List.length_reverse]
  have:∀ n k,(up ls n k).length≤n:=by
   intro n
   induction n with
   | zero=>intro k;exact Nat.le_refl _
   | succ n ih=>
    intro k;unfold up
    rw [List.length_cons]
    cases qJx ls k with
    | none=>exact Nat.succ_le_succ #[50]
    | some p=>exact Nat.succ_le_succ (ih p)
  have:=this (i + 1) i
  show (up ls (i + 1) i).length < _
  omega
 let q:D→Bool:=fun d=>match d with | .int j=>has ls nm j.toNat | _=>false
 have hc:=qKm (δ:=[.im #[1],.im #[29],.im #[21],.un]) (t:=qAd (qAm neW (qAo qO2 2 (qAc (qAm ixW (qAm ixW (var 1) #[2]) #[9]) (qAc (var 3) qAz))) (qAd qB9 qBt)) W.bool) (el:=qBc #[2]) (ds:=qEu ls i) q id hll (by
  intro d hd
  obtain ⟨j,hj,rfl⟩:=List.mem_map.mp hd
  have hj:=qKr h i hi j (List.mem_reverse.mp hj)
  obtain ⟨l,hl,_⟩:=qT7 hj
  have hs:=(h.ok j l hl).sh
  have en:=qWr hs nm
  have ew:=ix_w hl
  have hn:=ne_nil (ds:=(l.2.filter fun p=>p.1 == nm).map (·.2)) (by
   intro d hd
   obtain ⟨p,hp,rfl⟩:=List.mem_map.mp hd
   exact (hs.ok p (List.mem_filter.mp hp).1).fine)
  have hq:q (.int (j:Int)) = !((l.2.filter fun p=>p.1 == nm).map (·.2)).isEmpty:=by
   show has ls nm (j:Int).toNat=_
   rw [Int.toNat_natCast,qSr hl,qUd]
  rw [hq]
  exact ⟨by push_cast only [ew,ld1,en,hn],fun _=>rfl⟩)
 have ef:((qEu ls i).filter q).map id=((qDu ls i).reverse.filter (has ls nm)).map fun (j:Nat)=>D.int (j:Int):=by
  unfold qEu
  rw [List.map_id,List.filter_map]
  congr 1
 rw [ef] at hc
 refine qAq (δ:=[.im #[1],.im #[29],.im #[21],.un]) (δ':=[.im #[1],.im #[29],.im #[21],.own (((qDu ls i).reverse.filter (has ls nm)).map fun (j:Nat)=>D.int (j:Int))]) ?_ ?_
 ·simp only [qCk,qB4]
  have:qAd (qAo qIy 2 #[42]) W.walk [.im #[1],.im #[29],.im #[21],.un]=.ok (qEu ls i):=by push_cast only [el]
  rw [this,okb,hc]
  push_cast only [okb]
 have hh:qCs ls i nm=((qDu ls i).reverse.filter (has ls nm)).head?:=by
  unfold qCs;rw [List.head?_filter]
 rw [hh]
 generalize (qDu ls i).reverse.filter (has ls nm)=xs
 have he:=qee (f:=false) (ds:=xs.map fun (j:Nat)=>D.int (j:Int)) (by
  intro d hd;obtain ⟨j,_,rfl⟩:=List.mem_map.mp hd;rfl)
 refine qAs (b:=(xs.map fun (j:Nat)=>D.int (j:Int)).isEmpty) (by push_cast only [he]) (fun e=>?_) (fun e=>qBg ?_)
 ·cases xs with
  | nil=>exact qBq #[18] rfl
  | cons x xs=>cases e
 ·cases xs with
  | nil=>cases e
  | cons x xs=>
   have e0:ixW (.li false ((x::xs).map fun (j:Nat)=>D.int (j:Int))) (.im (.int 0))=.ok (.im (.int (x:Int))):=qG2 rfl #[0] rfl
   exact qAv (by push_cast only [e0]) rfl
theorem qP0 {α:Type}{t:qAi→Rs Bool}{el:qAi→Rs D}{δ:qAi}{u:α→D}{p:α→Bool}{f:α→D}:∀ (xs:List α),(∀ x∈xs,t (.im (u x)::δ)=.ok (p x)∧(p x=true→el (.im (u x)::δ)=.ok (f x)))→qGm t el (xs.map u) δ=.ok ((xs.filter p).map f)
 | [],_=>rfl
 | x::xs,h=>by
  have ih:=qP0 xs fun y hy=>h y (List.mem_cons_of_mem _ hy)
  obtain ⟨h1,h2⟩:=h x #[51]
  rw [List.filter_cons,List.map_cons]
  unfold qGm
  rw [h1,PD.ok_bind]
  by_cases e:p x=true
  ·rw [if_pos e,if_pos e,h2 e,ih];rfl
  ·rw [if_neg e,if_neg e,ih]
theorem qDt {α:Type}{t:qAi→Rs Bool}{el:qAi→Rs D}{δ:qAi}{xs:List α}(u:α→D)(p:α→Bool)(f:α→D)(hl:xs.length < 16777216)(h:∀ x∈xs,t (.im (u x)::δ)=.ok (p x)∧(p x=true→el (.im (u x)::δ)=.ok (f x))) :
  qKn t el (xs.map u) δ=.ok (.li true ((xs.filter p).map f)):=by
 unfold qKn;rw [if_pos (show _ < lim by rw [List.length_map];exact hl),qP0 xs h];rfl
theorem qXu {i:Nat}{g:qAi→Rs W}{δ:qAi}{ds zs:List D}(h:δ[i]?=some (.own ds))(hg:g δ=.ok (.li true zs))(hl:ds.length + zs.length≤1000):qYk i g δ=.ok (.nx (δ.set i (.own (ds++zs)))):=by
 simp only [qYk,h,hg,okb]
 exact if_pos (by show _≤16777216;omega)
abbrev Pa:=Int×Str
def prL (i:Nat)(l:Ld):List Pa:=l.2.map fun p=>((i:Int),p.1)
def prs (ls:List Ld):Nat→List Pa
 | 0=>[]
 | k + 1=>prs ls k++(match ls[k]? with | some l=>prL k l | none=>[])
theorem prs_s {ls:List Ld}{k:Nat}{l:Ld}(h:ls[k]?=some l):prs ls (k + 1)=prs ls k++prL k l:=by
 rw [prs,h]
theorem qEh {ls:List Ld}(h:WorldOk ls):∀ k,(prs ls k).length≤4 * k
 | 0=>Nat.le_refl _
 | k + 1=>by
  have ih:=qEh h k
  rw [prs,List.length_append]
  cases e:ls[k]? with
  | none=>show _ + 0≤_;omega
  | some l=>
   have:=(h.ok k l e).sh.le
   show _ + (prL k l).length≤_
   unfold prL;rw [List.length_map];omega
theorem qQ2 {ls:List Ld}:∀ (k:Nat) (x:Pa),x∈prs ls k→∃ i:Nat,i < ls.length∧x.1=(i:Int)
 | 0,x,h=>nomatch h
 | k + 1,x,h=>by
  rw [prs] at h
  rcases List.mem_append.mp h with g | g
  ·exact qQ2 k x g
  ·cases e:ls[k]? with
   | none=>rw [e] at g;cases g
   | some l=>
    rw [e] at g
    obtain ⟨p,_,rfl⟩:=List.mem_map.mp g
    refine ⟨k,?_,rfl⟩
    rcases Nat.lt_or_ge k ls.length with z | z
    ·exact z
    ·rw [List.getElem?_eq_none z] at e;cases e
def isF (ls:List Ld)(x:Pa):Bool:=decide (qCs ls x.1.toNat x.2=some x.1.toNat)
theorem qb2 {nm:Str}{o:Option Nat}{i:Nat}:eqW (.im (qI3 nm o)) (.im (.tup [.int (i:Int),.str nm]))=.ok (.im (.bl (decide (o=some i)))):=by
 have f:qA3 50 (W.im (qI3 nm o)).dat=true:=by cases o <;> rfl
 have e:eqD (qI3 nm o) (.tup [.int (i:Int),.str nm])=decide (o=some i):=by
  cases o with
  | none=>rfl
  | some j=>
   simp only [qI3,eqD,eqDs,Bool.and_true,beq_self_eq_true]
   by_cases z:j=i
   ·subst z;simp
   ·have z1:¬ ((j:Int)=(i:Int)):=by omega
    have z2:¬ (some j=some i):=fun h=>z (Option.some.inj h)
    rw [decide_eq_false z2]
    exact beq_eq_false_iff_ne.mpr z1
 unfold eqW
 rw [if_pos ⟨f,rfl⟩]
 show Rs.ok (W.im (D.bl (eqD (qI3 nm o) (.tup [.int (i:Int),.str nm]))))=_
 rw [e]
theorem qRk (x y:Pa):eqD #[3] (unP y)=decide (x=y):=by
 obtain ⟨a,s⟩:=x
 obtain ⟨b,t⟩:=y
 simp only [unP,eqD,eqDs,Bool.and_true]
 by_cases z:a=b
 ·subst z
  by_cases w:s=t
  ·subst w;simp
  ·have:¬ ((a,s)=(a,t)):=fun h=>w (Prod.mk.inj h).2
   rw [decide_eq_false this,beq_self_eq_true,Bool.true_and]
   exact beq_eq_false_iff_ne.mpr w
 ·have:¬ ((a,s)=(b,t)):=fun h=>z (Prod.mk.inj h).1
  rw [decide_eq_false this,beq_eq_false_iff_ne.mpr z,Bool.false_and]
theorem qI1 (n:Nat)(S:List Pa):fineDs (n + 1) #[24]=true:=qD2 _ _ fun d hd=>by
 obtain ⟨x,_,rfl⟩:=List.mem_map.mp hd
 rfl
theorem qJ1 {f:Bool}(S:List Pa)(x:Pa):qE4 (.im #[3]) (.li f #[24])=.ok (.im (.bl (!decide (x∈S)))):=by
 have h:fineDs 50 #[24]=true:=qI1 49 S
 have e:qNs #[3] #[24]=decide (x∈S):=by
  unfold qNs
  rw [List.any_map]
  induction S with
  | nil=>rfl
  | cons y S ih=>
   rw [List.any_cons,ih (qI1 49 S)]
   show (eqD (unP y) #[3] || _)=_
   rw [qRk]
   by_cases z:y=x
   ·subst z;simp
   ·simp [z,Ne.symm z]
 show (if qA3 50 #[3]=true∧fineDs 50 #[24]=true then Rs.ok (W.im (D.bl (!qNs #[3] #[24]))) else Rs.no)=_
 rw [if_pos ⟨rfl,h⟩,e]
theorem qR0 {f:Bool}{S:List Pa}(h:S.length < 64):qTg [.li f #[24]]=.ok (.li true ((qC2 S).map unP)):=by
 simp only [qTg,W.items,qLk]
 rw [if_pos h]
theorem qXh {ls:List Ld}(h:WorldOk ls):qM5 [.im #[1]]=.ok (.li true ((qC2 (prs ls ls.length)).map unP)):=by
 refine qAx ?_
 have hle:=h.le
 refine qAq (δ:=[.im #[57],.un,.un,.un]) #[18] ?_
 let J:Nat→qAi→Prop:=fun k δ=>∃ x y,δ=[.im #[57],.own ((prs ls k).map unP),x,y]
 refine qCl (Q1:=fun δ=>J ls.length δ) ?_ ?_
 ·refine qEy (ds:=qFt (ls.map ldD)) J #[18] ⟨_,_,rfl⟩ ?_ (fun δ' hj=>⟨_,rfl,by rw [qNi,List.length_map] at hj;exact hj⟩)
  rintro k d _ hd ⟨x,y,rfl⟩
  obtain ⟨z,hz,rfl⟩:=qNj hd
  rw [List.getElem?_map] at hz
  obtain ⟨l,hl,rfl⟩:=Option.map_eq_some_iff.mp hz
  have hs:=(h.ok k l hl).sh
  have hsl:=hs.le
  have hk:k < ls.length:=by
   rcases Nat.lt_or_ge k ls.length with g | g
   ·exact g
   ·rw [List.getElem?_eq_none g] at hl;cases hl
  have hpl:=qEh h k
  have en:=qFl hs
  have hc:=qDt (δ:=[.im #[57],.own ((prs ls k).map unP),.im (.int (k:Int)),.im (ldD l)]) (t:=fun _=>.ok true) (el:=qAd (qAw (qBc (var 3)) (qAw (qBc #[2]) qB9)) qB0) (xs:=nmS l.2) D.str (fun _=>true) (fun n=>unP ((k:Int),n)) (by unfold nmS;rw [List.length_map];omega) (fun n _=>⟨rfl,fun _=>by push_cast only [okb]⟩)
  have e:((nmS l.2).filter fun _=>true).map (fun n=>unP ((k:Int),n))=(prL k l).map unP:=by
   rw [List.filter_eq_self.mpr #[15]]
   unfold nmS prL
   rw [List.map_map,List.map_map];rfl
  rw [e] at hc
  refine ⟨[.im #[57],.own ((prs ls k).map unP),.im (.int (k:Int)),.im (ldD l)],rfl,?_⟩
  refine ⟨_,qXu (ds:=(prs ls k).map unP) (zs:=(prL k l).map unP) rfl ?_ ?_,_,rfl,.im (.int (k:Int)),.im (ldD l),?_⟩
  ·simp only [qB4]
   have:qAd (qAo qCn 1 (qAc (qAm ixW (var 3) #[9]) qAz)) W.walk [.im #[57],.own ((prs ls k).map unP),.im (.int (k:Int)),.im (ldD l)]=.ok ((nmS l.2).map D.str):=by
    push_cast only [ld1,en]
   rw [this,okb,hc]
  ·unfold prL;rw [List.length_map,List.length_map,List.length_map];omega
  ·rw [prs_s hl,List.map_append];rfl
 ·rintro _ ⟨x,y,rfl⟩
  have hpl:=qEh h ls.length
  exact qAv (by push_cast only [qR0 (f:=false) (show (prs ls ls.length).length < 64 by omega)]) rfl
theorem qIi {ls:List Ld}(h:WorldOk ls){x:Pa}(hx:∃ i:Nat,i < ls.length∧x.1=(i:Int)):qD9 [.im #[1],.im #[3]]=.ok (.im (.bl (isF ls x))):=by
 obtain ⟨i,hi,e⟩:=hx
 obtain ⟨a,nm⟩:=x
 have e:a=(i:Int):=e
 subst e
 have ef:=qPq h hi nm
 refine qAx (qAv (δ:=[.im #[1],.im (.tup [.int (i:Int),.str nm])]) ?_ rfl)
 unfold isF
 push_cast [ix0,ix1,ef,qb2,Int.toNat_natCast]
theorem qXg {P:List Pa}(q:Pa→Bool):(qC2 P).filter q=qC2 (P.filter q):=
 qIu ((qCt P).filter q) ((qMl P).sublist List.filter_sublist)
theorem qRq {ls:List Ld}(h:WorldOk ls):qGx [.im #[1]]=.ok (.li true ((qC2 #[92]).map unP)):=by
 refine qAx (qAv (δ:=[.im #[1]]) ?_ rfl)
 have hle:=h.le
 have hpl:=qEh h ls.length
 have e1:=qKq h
 have e2:=qXh h
 have hg:qAd (qAo qM5 1 (qAc (qAo qE9 1 #[23]) qAz)) W.walk [.im #[1]]=.ok ((qC2 (prs ls ls.length)).map unP):=by push_cast only [e1,e2]
 simp only [qB4,hg,okb]
 rw [qDt (xs:=qC2 (prs ls ls.length)) unP (isF ls) unP (by rw [(qCt _).length_eq];omega),qXg]
 intro x hx
 have ei:=qIi h (qQ2 _ x ((qCt _).mem_iff.mp hx))
 exact ⟨by push_cast only [ei],fun _=>rfl⟩
theorem qdx {fl:List (Str×D)}(h:ShelfOk fl){p:Str×D}(hp:p∈fl):ixW (.im p.2) (.im (.int 1))=.ok (.im (.str p.1)):=by
 obtain ⟨k,r,e⟩:=(h.ok p hp).sh
 rw [e];exact ix1
theorem qTh {t:qAi→Rs Bool}{el:qAi→Rs D}{δ:qAi}{k:Nat}{l:Ld}(h:ShelfOk l.2)(q:Pa→Bool)(H:∀ p∈l.2,t (.im p.2::δ)=.ok (q ((k:Int),p.1))∧el (.im p.2::δ)=.ok (unP ((k:Int),p.1))) :
  qKn t el (l.2.map (·.2)) δ=.ok (.li true (((prL k l).filter q).map unP)):=by
 have hle:=h.le
 rw [qDt (xs:=l.2) (·.2) (fun p=>q ((k:Int),p.1)) (fun p=>unP ((k:Int),p.1)) #[0] fun p hp=>⟨(H p hp).1,fun _=>(H p hp).2⟩]
 unfold prL
 rw [List.filter_map,List.map_map];rfl
theorem qO6 {ls:List Ld}(h:WorldOk ls):qGe [.im #[1]]=.ok (.li true ((qC2 #[92]).map unP)):=by
 refine qAx ?_
 have hle:=h.le
 refine qAq (δ:=[.im #[57],.un,.un,.un]) #[18] ?_
 let J:Nat→qAi→Prop:=fun k δ=>∃ x y,δ=[.im #[57],.own (((prs ls k).filter (isF ls)).map unP),x,y]
 refine qCl (Q1:=fun δ=>J ls.length δ) ?_ ?_
 ·refine qEy (ds:=qFt (ls.map ldD)) J #[18] ⟨_,_,rfl⟩ ?_ (fun δ' hj=>⟨_,rfl,by rw [qNi,List.length_map] at hj;exact hj⟩)
  rintro k d _ hd ⟨x,y,rfl⟩
  obtain ⟨z,hz,rfl⟩:=qNj hd
  rw [List.getElem?_map] at hz
  obtain ⟨l,hl,rfl⟩:=Option.map_eq_some_iff.mp hz
  have hs:=(h.ok k l hl).sh
  have hsl:=hs.le
  have hk:k < ls.length:=by
   rcases Nat.lt_or_ge k ls.length with g | g
   ·exact g
   ·rw [List.getElem?_eq_none g] at hl;cases hl
  have hpl:=qEh h k
  have hfl:((prs ls k).filter (isF ls)).length≤(prs ls k).length:=List.length_filter_le ..
  have hfl2:((prL k l).filter (isF ls)).length≤4:=by
   have:((prL k l).filter (isF ls)).length≤(prL k l).length:=List.length_filter_le ..
   unfold prL at this ⊢;rw [List.length_map] at this;omega
  refine ⟨[.im #[57],.own (((prs ls k).filter (isF ls)).map unP),.im (.int (k:Int)),.im (ldD l)],rfl,?_⟩
  refine ⟨_,qXu (ds:=((prs ls k).filter (isF ls)).map unP) (zs:=((prL k l).filter (isF ls)).map unP) rfl ?_ ?_,_,rfl,.im (.int (k:Int)),.im (ldD l),?_⟩
  ·simp only [qB4]
   have:qAd (qAm ixW (var 3) #[9]) W.walk [.im #[57],.own (((prs ls k).filter (isF ls)).map unP),.im (.int (k:Int)),.im (ldD l)]=.ok (l.2.map (·.2)):=by
    push_cast only [ld1,shD]
   rw [this,okb]
   refine qTh hs (isF ls) fun p hp=>?_
   have ei:=qdx hs hp
   have ef:=qO4 h hk p.1
   unfold wdD at ef
   refine ⟨?_,by push_cast only [ei]⟩
   unfold isF
   push_cast [ei,ef,qb2,Int.toNat_natCast]
  ·rw [List.length_map,List.length_map];omega
  ·rw [prs_s hl,List.filter_append,List.map_append];rfl
 ·rintro _ ⟨x,y,rfl⟩
  have hpl:=qEh h ls.length
  have hfl:#[92].length≤(prs ls ls.length).length:=List.length_filter_le ..
  exact qAv (by push_cast only [qR0 (f:=false) (show #[92].length < 64 by omega)]) rfl
theorem qU2 {ls:List Ld}{k:Nat}{l:Ld}(hl:ls[k]?=some l){x:Pa}(hx:x∈prL k l):∀ n,k < n→x∈prs ls n
 | 0,h=>absurd h (Nat.not_lt_zero _)
 | n + 1,h=>by
  rw [prs]
  rcases Nat.lt_or_ge k n with g | g
  ·exact List.mem_append.mpr (.inl (qU2 hl hx n g))
  ·have:n=k:=by omega
   subst this
   rw [hl];exact List.mem_append.mpr (.inr hx)
theorem qUn (ls:List Ld)(i:Nat):i∈qDu ls i:=by
 unfold qDu up;exact List.mem_cons_self ..
theorem qX6 {ls:List Ld}(h:WorldOk ls):∀ (i j:Nat),j∈qDu ls i→∃ pre,qDu ls i=pre++qDu ls j:=by
 intro i
 induction i using Nat.strongRecOn with
 | _ i ih=>
  intro j hj
  cases e:qJx ls i with
  | none=>
   rw [qFp e] at hj
   have:j=i:=by simpa using hj
   subst this;exact ⟨[],rfl⟩
  | some p=>
   have hp:=qLi h e
   rw [qEd h e] at hj ⊢
   rcases List.mem_cons.mp hj with z | z
   ·subst z;exact ⟨[],by rw [qEd h e];rfl⟩
   ·obtain ⟨pre,q⟩:=ih p hp j z
    exact ⟨i::pre,by rw [q];rfl⟩
theorem qKi {ls:List Ld}{i j:Nat}{nm:Str}(e:qCs ls i nm=some j):j∈qDu ls i∧has ls nm j=true:=by
 unfold qCs at e
 exact ⟨List.mem_reverse.mp (List.mem_of_find?_eq_some e),List.find?_some e⟩
theorem qUc {ls:List Ld}(h:WorldOk ls){i j:Nat}{nm:Str}(e:qCs ls i nm=some j):qCs ls j nm=some j:=by
 obtain ⟨m,hh⟩:=qKi e
 obtain ⟨pre,q⟩:=qX6 h i j m
 unfold qCs at e ⊢
 rw [q,List.reverse_append,List.find?_append] at e
 cases z:(qDu ls j).reverse.find? (has ls nm) with
 | some x=>rw [z] at e;exact e
 | none=>
  have:=List.find?_eq_none.mp z j (List.mem_reverse.mpr (qUn ls j))
  exact absurd hh this
theorem qd4 {ls:List Ld}{j:Nat}{nm:Str}(hj:j < ls.length)(e:has ls nm j=true):((j:Int),nm)∈prs ls ls.length:=by
 obtain ⟨l,hl,_⟩:=qT7 hj
 rw [qSr hl] at e
 obtain ⟨x,hx,q⟩:=List.any_eq_true.mp e
 have q:x=nm:=by simpa using q
 subst q
 obtain ⟨p,hp,rfl⟩:=List.mem_map.mp hx
 exact qU2 hl (List.mem_map.mpr ⟨p,hp,rfl⟩) _ hj
def fK:D→Str
 | .tup (.str k::_)=>k
 | _=>Str.empty
def fA:D→Option Str
 | .tup [_,_,.str a,_,_]=>some a
 | _=>none
def fF:D→List Str
 | .tup [_,_,_,.tup fs,_]=>(qN0 fs).getD []
 | _=>[]
def qbz (fl:List (Str×D))(nm:Str):D:=match fl.find? (fun p=>p.1 == nm) with
 | some p=>p.2
 | none=>.non
def qA8 (ls:List Ld)(x:Pa):D:=match ls[x.1.toNat]? with
 | some l=>qbz l.2 x.2
 | none=>.non
abbrev cC:Str:=Str.ofString "class"
abbrev cF:Str:=Str.ofString "face"
def ups (d:D):List (Str×Str):=(match fA d with | some a=>[(a,cC)] | none=>[])++(fF d).map fun s=>(s,cF)
def upD (p:Str×Str):D:=.tup [.str p.1,.str p.2]
theorem qS0 {nm:Str}:∀ {fl:List (Str×D)} {p:Str×D},fl.find? (fun p=>p.1 == nm)=some p→∃ k,((nmS fl).map D.str).findIdx? (fun d'=>eqD d' #[21])=some k∧fl[k]?=some p∧k < fl.length
 | [],p,h=>by cases h
 | q::fl,p,h=>by
  rw [List.find?_cons] at h
  show ∃ k,(D.str q.1::(nmS fl).map D.str).findIdx? _=some k∧_
  rw [List.findIdx?_cons]
  have e:eqD (D.str q.1) (D.str nm)=(q.1 == nm):=by simp only [eqD]
  rw [e]
  cases z:(q.1 == nm) with
  | true=>rw [z] at h;cases h;exact ⟨0,rfl,rfl,Nat.succ_pos _⟩
  | false=>
   rw [z] at h
   obtain ⟨k,h1,h2,h3⟩:=qS0 h
   exact ⟨k + 1,by rw [if_neg Bool.false_ne_true,h1];rfl,h2,Nat.succ_lt_succ h3⟩
theorem qah {fl:List (Str×D)}{nm:Str}(h:(nmS fl).any (· == nm)=true):∃ p,fl.find? (fun p=>p.1 == nm)=some p∧p.1=nm∧p∈fl:=by
 cases z:fl.find? (fun p=>p.1 == nm) with
 | some p=>exact ⟨p,rfl,by simpa using List.find?_some z,List.mem_of_find?_eq_some z⟩
 | none=>
  obtain ⟨y,hy,e⟩:=List.any_eq_true.mp h
  obtain ⟨p,hp,rfl⟩:=List.mem_map.mp hy
  exact absurd e (List.find?_eq_none.mp z p hp)
structure Cls (ls:List Ld) (x:Pa):Prop where
 nat:x.1=((x.1.toNat:Nat):Int)
 lt:x.1.toNat < ls.length
 own:qCs ls x.1.toNat x.2=some x.1.toNat
theorem Cls.has {ls:List Ld}{x:Pa}(c:Cls ls x):has ls x.2 x.1.toNat=true:=(qKi c.own).2
theorem qP4 {ls:List Ld}(h:WorldOk ls){i j:Nat}(hi:i < ls.length){nm:Str}(e:qCs ls i nm=some j):Cls ls ((j:Int),nm):=
 ⟨by rw [Int.toNat_natCast],by rw [Int.toNat_natCast];exact qKr h i hi j (qKi e).1,by rw [Int.toNat_natCast];exact qUc h e⟩
theorem Cls.file {ls:List Ld}(h:WorldOk ls){x:Pa}(c:Cls ls x):∃ (l:Ld) (p:Str×D),ls[x.1.toNat]?=some l∧l.2.find? (fun p=>p.1 == x.2)=some p∧qA8 ls x=p.2∧FileOk p.2 x.2:=by
 obtain ⟨l,hl,_⟩:=qT7 c.lt
 have hh:=c.has
 rw [qSr hl] at hh
 obtain ⟨p,h1,h2,h3⟩:=qah hh
 refine ⟨l,p,hl,h1,?_,h2 ▸ (h.ok _ l hl).sh.ok p h3⟩
 unfold qA8 qbz
 rw [hl];simp only [h1]
theorem qbb {x:Pa}:ixW (.im #[3]) (.im (.int 0))=.ok (.im (.int x.1)):=ix0
theorem unP1 {x:Pa}:ixW (.im #[3]) (.im (.int 1))=.ok (.im (.str x.2)):=ix1
theorem ix_wc {ls:List Ld}{x:Pa}(c:Cls ls x){l:Ld}(hl:ls[x.1.toNat]?=some l):ixW (.im #[1]) (.im (.int x.1))=.ok (.im (ldD l)):=by
 have:=ix_w hl
 rw [←c.nat] at this;exact this
theorem qEl {ls:List Ld}(h:WorldOk ls){x:Pa}(c:Cls ls x):qEb [.im #[1],.im #[3]]=.ok (.im #[20]):=by
 obtain ⟨l,p,hl,hf,hp,_⟩:=c.file h
 have hs:=(h.ok _ l hl).sh
 have hsl:=hs.le
 obtain ⟨k,k1,k2,k3⟩:=qS0 hf
 refine qAx ?_
 refine qAq (δ:=[.im #[1],.im #[3],.un]) (by push_cast only [ix_wc c hl,qbb,ld1]) ?_
 have hn:=qFl hs
 have hi:idxW ((nmS l.2).map D.str) (.str x.2)=.ok (.im (.int (k:Nat))):=by
  unfold idxW
  rw [if_pos ⟨rfl,qFe _ _,by rw [List.length_map];unfold nmS;rw [List.length_map];omega⟩,k1]
 have hx:ixW (.im (shD l.2)) (.im (.int (k:Nat)))=.ok (.im p.2):=qG2 rfl #[0] (by rw [Int.toNat_natCast,List.getElem?_map,k2];rfl)
 refine qAv (w:=.im p.2) ?_ (by rw [hp])
 push_cast only [qW5,hn,unP1,hi,hx]
theorem qJ2 {d:D}{n:Str}(h:FileOk d n):qDk [.im d]=.ok (.li true ((ups d).map upD)):=by
 obtain ⟨k,a,fs,rs,rfl,ha,hl,_,_,_⟩:=h.full
 refine qAx ?_
 have e1:fF #[73]=fs:=by
  simp only [fF,qGn,Option.getD_some]
 have hc:=fun δ=>qFg (δ:=.im #[73]::δ) (el:=qAd (qAw (qBc #[2]) (qAw (cst (.str "face")) qB9)) qB0) (ds:=fs.map D.str) (fun d=>.tup [d,.str "face"]) (by rw [List.length_map];omega) (by
  intro d hd
  obtain ⟨s,hs,rfl⟩:=List.mem_map.mp hd
  push_cast only [okb])
 have e2:(fs.map D.str).map (fun d=>D.tup [d,.str "face"])=fs.map fun s=>upD (s,cF):=by rw [List.map_map];rfl
 refine qAq (δ:=[.im #[73],.un]) (δ':=[.im #[73],.own (fs.map fun s=>upD (s,cF))]) (by
  simp only [qCk,qB4]
  push_cast only [ix3,hc,e2]) ?_
 have eu:∀ L:List (Str×Str),(match fA #[73] with | some a=>[(a,cC)] | none=>[])=L→(ups #[73]).map upD=L.map upD++fs.map fun s=>upD (s,cF):=by
  intro L e
  unfold ups
  rw [e1,e,List.map_append,List.map_map];rfl
 have go:∀ w,ifW (qAd (qAm isW (qAm ixW #[2] #[27]) #[16]) W.bool) (qNx 1) #[114] [.im #[73],.own (fs.map fun s=>upD (s,cF))]=.ok w→w=.li true ((ups #[73]).map upD)→Run (qBw (ifW (qAd (qAm isW (qAm ixW #[2] #[27]) #[16]) W.bool) (qNx 1) #[114])) [.im #[73],.own (fs.map fun s=>upD (s,cF))] (fun f=>f=.rt (.li true ((ups #[73]).map upD))):=fun w e1 e2=>qAv e1 (by rw [e2])
 cases ha with
 | cls=>exact go _ (by push_cast only [ix2]) (by rw [eu [] rfl];rfl)
 | face=>exact go _ (by push_cast only [ix2]) (by rw [eu [] rfl];rfl)
 | @above s hs=>
  have hal:[D.tup [.str s,.str "class"]].length + (fs.map fun s=>upD (s,cF)).length≤16777216:=by rw [List.length_map];show 1 + _≤_;omega
  exact go _ (by push_cast only [ix2,qEr hal]) (by rw [eu [(s,cC)] rfl];rfl)
theorem fA_str {d:D}{n:Str}(h:FileOk d n):ixW (.im d) (.im (.int 2))=.ok (.im (match fA d with | some a=>.str a | none=>.non)):=by
 obtain ⟨k,a,fs,rs,rfl,ha,hl,_,_,_⟩:=h.full
 cases ha <;> exact ix2
theorem qXt {d:D}{n:Str}(h:FileOk d n):ixW (.im d) (.im (.int 0))=.ok (.im (.str (fK d))):=by
 obtain ⟨k,a,fs,rs,rfl,ha,hl,_,_,_⟩:=h.full
 exact ix0
def opD:Option Pa→D
 | some x=>unP x
 | none=>.non
theorem qNa {ls:List Ld}(h:WorldOk ls){x:Pa}(c:Cls ls x)(nm:Str):qE7 [.im #[1],.im (.int x.1),.im #[21]]=.ok (.im (opD (Option.map (fun (j:Nat)=>((j:Int),nm)) (qCs ls x.1.toNat nm)))):=by
 have:=qPq h c.lt nm
 rw [←c.nat] at this
 rw [this]
 cases qCs ls x.1.toNat nm <;> rfl
theorem qW4 {ls:List Ld}(h:WorldOk ls){x:Pa}(c:Cls ls x):WordS x.2:=by
 obtain ⟨l,p,hl,hf,hp,hok⟩:=c.file h
 exact hok.wd
theorem qH7 {ls:List Ld}(h:WorldOk ls){x:Pa}(c:Cls ls x):qCi [.im #[1],.im #[3]]=.ok (.im #[3]):=by
 have it:=qCa (ds:=[.int x.1,.str x.2]) (lo:=2) (hi:=2) (by show (2:Int)≤((2:Nat):Int);omega) (by show ((2:Nat):Int)≤2;omega)
 have ln:qIs [.im #[1]]=.ok (.im (.int ls.length)):=by
  show Rs.ok (W.im (D.int ((ls.map ldD).length)))=_
  rw [List.length_map]
 have h0:=c.nat
 have h1:=c.lt
 have nu:=qEk (i:=x.1) (lo:=0) (hi:=(ls.length:Int) - 1) #[0] #[0]
 have fo:=qIi h (x:=x) ⟨x.1.toNat,c.lt,c.nat⟩
 have ef:isF ls x=true:=by unfold isF;exact decide_eq_true c.own
 rw [ef] at fo
 have fo':qD9 [.im #[57],.im #[3]]=.ok Tr:=fo
 have it':qBz [.im #[3],.im (.int 2),.im (.int 2)]=.ok Tr:=it
 have ic:qHy [.im #[1],.im #[3]]=.ok Tr:=by
  refine qAx ?_
  refine qAs (b:=false) (δ:=[.im #[57],.im #[3]]) ?_ #[14] (fun _=>qBg (qAv (w:=Tr) ?_ rfl))
  ·push_cast [it',qbb,List.length_map,nu,Bool.false_eq_true]
  ·push_cast [unP1,qDr (qW4 h c),fo']
 have ci:qHz [.im #[1],.im #[3]]=.ok (.im #[3]):=by
  refine qAx ?_
  refine qAs (b:=false) (δ:=[.im #[1],.im #[3]]) (by push_cast [ic]) #[14] (fun _=>qBg (qAv #[18] rfl))
 refine qAx (qAv (δ:=[.im #[1],.im #[3]]) (w:=.im #[3]) ?_ rfl)
 push_cast [qKq h,ci]
def St (ls:List Ld)(x z:Pa):Prop:=∃ p∈ups #[20],∃ j:Nat,qCs ls x.1.toNat p.1=some j∧z=((j:Int),p.1)
inductive Good (ls:List Ld):Pa→Prop
 | mk (x:Pa) (h1:∀ p∈ups (qA8 ls x),∃ j:Nat,qCs ls x.1.toNat p.1=some j∧fK (qA8 ls ((j:Int),p.1))=p.2) (h2:∀ z,St ls x z→Good ls z):Good ls x
inductive Ab (ls:List Ld):Pa→Pa→Prop
 | one {x z:Pa} (h:St ls x z):Ab ls x z
 | more {x y z:Pa} (h:St ls x y) (r:Ab ls y z):Ab ls x z
theorem Ab.snoc {ls:List Ld}{x y z:Pa}(h:Ab ls x y)(s:St ls y z):Ab ls x z:=by
 induction h with
 | one h=>exact .more h (.one s)
 | more h _ ih=>exact .more h (ih s)
theorem qG8 {ls:List Ld}{x:Pa}(g:Good ls x):¬ Ab ls x x:=by
 induction g with
 | mk x h1 h2 ih=>
  intro a
  cases a with
  | one s=>exact ih x s (.one s)
  | more s r=>exact ih _ s (r.snoc s)
theorem Good.up {ls:List Ld}{x z:Pa}(g:Good ls x)(s:St ls x z):Good ls z:=by cases g with | mk _ h1 h2=>exact h2 z s
theorem Good.ab {ls:List Ld}{x z:Pa}(a:Ab ls x z):Good ls x→Good ls z:=by
 induction a with
 | one s=>exact fun g=>g.up s
 | more s _ ih=>exact fun g=>ih (g.up s)
theorem st_cls {ls:List Ld}(h:WorldOk ls){x z:Pa}(c:Cls ls x)(s:St ls x z):Cls ls z:=by
 obtain ⟨p,hp,j,hj,rfl⟩:=s
 exact qP4 h c.lt hj
theorem qM3 {α:Type}[DecidableEq α]:∀ {l m:List α},l.Nodup→(∀ x∈l,x∈m)→l.length≤m.length
 | [],m,_,_=>Nat.zero_le _
 | x::l,m,hn,hs=>by
  have hx:=hs x #[51]
  have hn':=List.nodup_cons.mp hn
  have:l.length≤(m.erase x).length:=qM3 hn'.2 fun y hy=>by
   have hne:y≠x:=fun e=>hn'.1 (e ▸ hy)
   exact (List.mem_erase_of_ne hne).mpr (hs y (List.mem_cons_of_mem _ hy))
  rw [List.length_erase_of_mem hx] at this
  have:0 < m.length:=List.length_pos_of_mem hx
  simp only [List.length_cons];omega
theorem qX3 {ls:List Ld}{x:Pa}(c:Cls ls x):x∈prs ls ls.length:=by
 have:=qd4 c.lt c.has
 rw [←c.nat] at this;exact this
theorem few {ls:List Ld}(h:WorldOk ls){bl:List Pa}(hn:bl.Nodup)(hc:∀ b∈bl,Cls ls b):bl.length≤16:=by
 have:=qM3 hn fun x hx=>qX3 (hc x hx)
 have:=qEh h ls.length
 have:=h.le
 omega
def kC (x:Pa):List Key:=[.inl x.1,.inr x.2]
theorem qRc (x:Pa):qdt #[3]=some (kC x):=rfl
theorem qbt {x y:Pa}(e:kC x=kC y):x=y:=by
 unfold kC at e
 simp only [List.cons.injEq,Sum.inl.injEq,Sum.inr.injEq,and_true] at e
 exact Prod.ext e.1 e.2
structure Snd (ls:List Ld) (ks:KsT):Prop where
 ok:∀ kv∈ks,∃ x,kv.1=kC x∧Cls ls x∧Good ls x
 nd:(ks.map (·.1)).Nodup
theorem Snd.good {ls:List Ld}{ks:KsT}(s:Snd ls ks){x:Pa}(h:(qF3 ks (kC x)).isSome=true):Good ls x:=by
 unfold qF3 at h
 rw [Option.isSome_map] at h
 obtain ⟨kv,hkv⟩:=Option.isSome_iff_exists.mp h
 have e0:=List.find?_some hkv
 have e:kv.1=kC x:=of_decide_eq_true e0
 obtain ⟨y,h1,_,h2⟩:=s.ok kv (List.mem_of_find?_eq_some hkv)
 rw [qbt (e.symm.trans h1)];exact h2
theorem Snd.len {ls:List Ld}(h:WorldOk ls){ks:KsT}(s:Snd ls ks):ks.length≤16:=by
 have h1:(ks.map (·.1)).length≤((prs ls ls.length).map kC).length:=qM3 s.nd fun k hk=>by
  obtain ⟨kv,hkv,rfl⟩:=List.mem_map.mp hk
  obtain ⟨x,e,c,_⟩:=s.ok kv hkv
  rw [e];exact List.mem_map.mpr ⟨x,qX3 c,rfl⟩
 rw [List.length_map,List.length_map] at h1
 have:=qEh h ls.length
 have:=h.le
 omega
theorem Snd.put {ls:List Ld}{ks:KsT}(s:Snd ls ks){x:Pa}(c:Cls ls x)(g:Good ls x)(d:D):Snd ls (qGt ks (kC x) d):=by
 unfold qGt
 split
 ·refine ⟨fun kv hkv=>?_,?_⟩
  ·obtain ⟨q,hq,rfl⟩:=List.mem_map.mp hkv
   obtain ⟨y,e,r⟩:=s.ok q hq
   by_cases z:q.1=kC x
   ·rw [if_pos z];exact ⟨y,e,r⟩
   ·rw [if_neg z];exact ⟨y,e,r⟩
  ·have:(ks.map fun kv=>if kv.1=kC x then (kv.1,d) else kv).map (·.1)=ks.map (·.1):=by
    rw [List.map_map]
    refine List.map_congr_left fun q _=>?_
    show (if q.1=kC x then (q.1,d) else q).1=q.1
    split <;> rfl
   rw [this];exact s.nd
 ·rename_i ha
  refine ⟨fun kv hkv=>?_,?_⟩
  ·rcases List.mem_append.mp hkv with z | z
   ·exact s.ok kv z
   ·have:kv=(kC x,d):=by simpa using z
    subst this;exact ⟨x,rfl,c,g⟩
  ·rw [List.map_append]
   refine List.nodup_append.mpr ⟨s.nd,by simp,fun k hk k' hk' e=>?_⟩
   have:k'=kC x:=by simpa using hk'
   subst this;subst e
   obtain ⟨kv,hkv,e2⟩:=List.mem_map.mp hk
   exact ha (List.any_eq_true.mpr ⟨kv,hkv,decide_eq_true e2⟩)
theorem qFj {N:List Str}{h:qAi→Rs Fl}{ws:List W}{ks ks':KsT}{d:D}{n:Nat}(r:Run h (qEq N ws ks) fun f=>∃ δ,f=.rl d δ∧δ[n]?=some (.dtt ks')):qbr N h n ws ks=.ok (d,ks'):=by
 obtain ⟨f,hf,δ,rfl,e⟩:=r
 show (h _>>=qea n)=_
 rw [hf]
 show qea n (.rl d δ)=_
 simp only [qea,e]
theorem qR7 {g:qAi→Rs D}{δ:qAi}{Q:Fl→Prop}{d:D}(e:g δ=.ok d)(q:Q (.rl d δ)):Run (qTy g) δ Q:=⟨_,by simp only [qTy,e,PD.ok_bind],q⟩
theorem qR6 {g:qAi→Rs (D×KsT)}{δ:qAi}{Q:Fl→Prop}{j:Nat}{r:D×KsT}(e:g δ=.ok r)(q:Q (.rl r.1 (δ.set j (.dtt r.2)))):Run (retJ j g) δ Q:=⟨_,by simp only [retJ,e,PD.ok_bind],q⟩
theorem qF8 {g:qAi→Rs D}{k:qAi→Rs Fl}{δ:qAi}{Q:Fl→Prop}{d:D}(e:g δ=.ok d)(q:Q (.rl d δ)):Run (qBb (qTy g) k) δ Q:=⟨_,by simp only [qBb,qTy,e,PD.ok_bind],q⟩
abbrev mF (M:List W→KsT→Rs (D×KsT)):List W→KsT→Rs (D×KsT):=qbr ["world","loader","name","kind","below","sound","thing"] (qCj M) 5
theorem qLu {f:Bool}(S:List Pa)(x:Pa):inW (.im #[3]) (.li f #[24])=.ok (.im (.bl (decide (x∈S)))):=by
 have h:fineDs 50 #[24]=true:=qI1 49 S
 have e:qNs #[3] #[24]=decide (x∈S):=by
  unfold qNs
  rw [List.any_map]
  clear h
  induction S with
  | nil=>rfl
  | cons y S ih=>
   rw [List.any_cons,ih]
   show (eqD (unP y) #[3] || _)=_
   rw [qRk]
   by_cases z:y=x
   ·subst z;simp
   ·simp [z,Ne.symm z]
 show (if qA3 50 #[3]=true∧fineDs 50 #[24]=true then Rs.ok (W.im (D.bl (qNs #[3] #[24]))) else Rs.no)=_
 rw [if_pos ⟨rfl,h⟩,e]
section
variable {ls:List Ld}{M:List W→KsT→Rs (D×KsT)}{x:Pa}{nm kd:Str}{bl:List Pa}{ks:KsT}{f:Bool}
theorem qd7 (h:WorldOk ls)(c:Cls ls x)(e:qCs ls x.1.toNat nm=none):mF M [.im #[1],.im (.int x.1),.im #[21],.im (.str kd),.li f (bl.map unP)] ks=.ok (.tup [.str "lacks",.str nm],ks):=by
 refine qFj ?_
 have ef:=qNa h c nm
 rw [e] at ef
 refine qAq (δ:=[.im #[1],.im (.int x.1),.im #[21],.im (.str kd),.rd (bl.map unP),.dtt ks,.un]) (by push_cast only [ef]) ?_
 refine qAs (b:=true) #[18] (fun _=>qF8 #[18] ⟨_,rfl,rfl⟩) #[14]
theorem qd8 (h:WorldOk ls)(c:Cls ls x){j:Nat}(e:qCs ls x.1.toNat nm=some j)(ek:fK (qA8 ls ((j:Int),nm))≠kd):mF M [.im #[1],.im (.int x.1),.im #[21],.im (.str kd),.li f (bl.map unP)] ks=.ok (.tup [.str "kind",.str nm],ks):=by
 refine qFj ?_
 have ef:=qNa h c nm
 rw [e] at ef
 have c2:=qP4 h c.lt e
 obtain ⟨l,p,hl,hf,hp,hok⟩:=c2.file h
 have e0:=qXt hok
 rw [←hp] at e0
 refine qAq (δ:=[.im #[1],.im (.int x.1),.im #[21],.im (.str kd),.rd (bl.map unP),.dtt ks,.un]) (δ':=[.im #[1],.im (.int x.1),.im #[21],.im (.str kd),.rd (bl.map unP),.dtt ks,.im (unP ((j:Int),nm))]) (by push_cast only [ef]) ?_
 refine qAs (b:=false) #[18] #[14] #[47]
 refine qAs (b:=true) (by push_cast only [qEl h c2,e0,decide_eq_false ek]) (fun _=>qF8 #[18] ⟨_,rfl,rfl⟩) #[14]
theorem qd9 (h:WorldOk ls)(c:Cls ls x){j:Nat}(e:qCs ls x.1.toNat nm=some j)(ek:fK (qA8 ls ((j:Int),nm))=kd):Run (qBb (ifF (qAd (qAm inW (var 6) (var 4)) W.bool) (qTy (qAd (qAw (cst (.str "ring")) (qAw (qBc (var 2)) qB9)) qB0)) qCw)
  (retJ 5 (ifJ (inJ 5 (qBc (var 6))) 5 (cst .non) (qK4 M 3 5 (qAc #[2] (qAc (var 6) (qAc (var 4) qAz)))))))
  [.im #[1],.im (.int x.1),.im #[21],.im (.str kd),.rd (bl.map unP),.dtt ks,.im (unP ((j:Int),nm))] Q→Run (qCj M) (qEq ["world","loader","name","kind","below","sound","thing"] [.im #[1],.im (.int x.1),.im #[21],.im (.str kd),.li f (bl.map unP)] ks) Q:=by
 intro r
 have ef:=qNa h c nm
 rw [e] at ef
 have c2:=qP4 h c.lt e
 obtain ⟨l,p,hl,hf,hp,hok⟩:=c2.file h
 have e0:=qXt hok
 rw [←hp,ek] at e0
 refine qAq (δ:=[.im #[1],.im (.int x.1),.im #[21],.im (.str kd),.rd (bl.map unP),.dtt ks,.un]) (δ':=[.im #[1],.im (.int x.1),.im #[21],.im (.str kd),.rd (bl.map unP),.dtt ks,.im (unP ((j:Int),nm))]) (by push_cast only [ef]) ?_
 refine qAs (b:=false) #[18] #[14] #[47]
 refine qAs (b:=false) (by push_cast only [qEl h c2,e0,decide_true]) #[14] (fun _=>qBg r)
theorem qd6 (h:WorldOk ls)(c:Cls ls x){j:Nat}(e:qCs ls x.1.toNat nm=some j)(ek:fK (qA8 ls ((j:Int),nm))=kd)(hm:((j:Int),nm)∈bl):mF M [.im #[1],.im (.int x.1),.im #[21],.im (.str kd),.li f (bl.map unP)] ks=.ok (.tup [.str "ring",.str nm],ks):=by
 refine qFj (qd9 h c e ek ?_)
 refine qAs (b:=true) (by push_cast only [qLu,decide_eq_true hm]) (fun _=>qF8 #[18] ⟨_,rfl,rfl⟩) #[14]
theorem qaj (h:WorldOk ls)(c:Cls ls x){j:Nat}(e:qCs ls x.1.toNat nm=some j)(ek:fK (qA8 ls ((j:Int),nm))=kd)(hm:((j:Int),nm)∉bl)(hs:(qF3 ks (kC ((j:Int),nm))).isSome=true):mF M [.im #[1],.im (.int x.1),.im #[21],.im (.str kd),.li f (bl.map unP)] ks=.ok (.non,ks):=by
 refine qFj (qd9 h c e ek ?_)
 refine qAs (b:=false) (by push_cast only [qLu,decide_eq_false hm]) #[14] #[47]
 refine qR6 (r:=(.non,ks)) ?_ ⟨_,rfl,rfl⟩
 simp only [ifJ,List.getElem?_cons_succ,List.getElem?_cons_zero,inJ,qBc,var,PD.ok_bind,W.toD,qRc,hs,qDm,cst]
theorem fn_go (h:WorldOk ls)(c:Cls ls x){j:Nat}(e:qCs ls x.1.toNat nm=some j)(ek:fK (qA8 ls ((j:Int),nm))=kd)(hm:((j:Int),nm)∉bl)(hs:(qF3 ks (kC ((j:Int),nm))).isSome=false){r:D×KsT}
  (hM:M [.im #[1],.im (unP ((j:Int),nm)),.li false (bl.map unP)] ks=.ok r):mF M [.im #[1],.im (.int x.1),.im #[21],.im (.str kd),.li f (bl.map unP)] ks=.ok r:=by
 refine qFj (qd9 h c e ek ?_)
 refine qAs (b:=false) (by push_cast only [qLu,decide_eq_false hm]) #[14] #[47]
 refine qR6 (r:=r) ?_ ⟨_,rfl,rfl⟩
 simp only [ifJ,List.getElem?_cons_succ,List.getElem?_cons_zero,inJ,qBc,var,PD.ok_bind,W.toD,qRc,hs,qDs,Bool.false_eq_true,qK4,qAc,qAz,List.length_cons,List.length_nil,qDm,hM]
end
theorem qSy {t:D→qAi→Rs qAi}{b:qAi→Rs Fl}{Qr:Fl→Prop}(hq:∀ f,Qr f→(∃ d δ,f=.rl d δ)∨∃ w,f=.rt w):∀ (ds:List D) (J:Nat→qAi→Prop) (δ:qAi),J 0 δ→
  (∀ (i:Nat) (d:D) (δ:qAi),ds[i]?=some d→J i δ→∃ δ1,t d δ=.ok δ1∧Run b δ1 fun f=>(∃ δ2,f=.nx δ2∧J (i + 1) δ2)∨Qr f)→∃ f,qEv t b ds δ=.ok f∧((∃ δ',f=.nx δ'∧J ds.length δ')∨Qr f)
 | [],J,δ,h0,_=>⟨_,rfl,.inl ⟨δ,rfl,h0⟩⟩
 | d::ds,J,δ,h0,hs=>by
  obtain ⟨δ1,e1,f,e2,r⟩:=hs 0 d δ rfl h0
  rcases r with ⟨δ2,rfl,j⟩ | r
  ·obtain ⟨f,e3,j'⟩:=qSy hq ds (fun i=>J (i + 1)) δ2 j fun i d' δ h hj=>hs (i + 1) d' δ h hj
   exact ⟨f,by simp only [qEv,e1,e2,e3],j'⟩
  ·rcases hq f r with ⟨d',δ',rfl⟩ | ⟨w,rfl⟩
   ·exact ⟨_,by simp only [qEv,e1,e2],.inr r⟩
   ·exact ⟨_,by simp only [qEv,e1,e2],.inr r⟩
theorem qHq {gi:qAi→Rs (List D)}{t:D→qAi→Rs qAi}{b k:qAi→Rs Fl}{δ:qAi}{ds:List D}{Q:Fl→Prop}(Qr:Fl→Prop)(J:Nat→qAi→Prop)(hq:∀ f,Qr f→(∃ d δ,f=.rl d δ)∨∃ w,f=.rt w)(e:gi δ=.ok ds)(h0:J 0 δ)
  (hs:∀ (i:Nat) (d:D) (δ:qAi),ds[i]?=some d→J i δ→∃ δ1,t d δ=.ok δ1∧Run b δ1 fun f=>(∃ δ2,f=.nx δ2∧J (i + 1) δ2)∨Qr f) (h1:∀ f,Qr f→Q f) (h2:∀ δ',J ds.length δ'→Run k δ' Q):Run (qBb (qGi gi t b) k) δ Q:=by
 obtain ⟨f,e1,r⟩:=qSy hq ds J δ h0 hs
 have ef:qGi gi t b δ=.ok f:=by simp only [qGi,e,PD.ok_bind,e1]
 rcases r with ⟨δ',rfl,j⟩ | r
 ·exact qAq ef (h2 δ' j)
 ·rcases hq f r with ⟨d',δ',rfl⟩ | ⟨w,rfl⟩
  ·exact ⟨_,by simp only [qBb,ef],h1 _ r⟩
  ·exact ⟨_,by simp only [qBb,ef],h1 _ r⟩
abbrev Two (d:D):Prop:=∃ a b:Str,d=.tup [.str a,.str b]
theorem qS3 {ls:List Ld}(h:WorldOk ls):∀ (n:Nat) (x:Pa) (bl:List Pa) (ks:KsT) (f:Bool),Cls ls x→bl.Nodup→(∀ b∈bl,Cls ls b)→x∉bl→17≤n + bl.length→Snd ls ks→
  ∃ d ks',qBj n [.im #[1],.im #[3],.li f (bl.map unP)] ks=.ok (d,ks')∧Snd ls ks'∧(d=.non→Good ls x)∧(d=.non∨Two d)∧((∀ b∈bl,Ab ls b x)→Good ls x→d=.non)
 | 0,x,bl,ks,f,c,hn,hc,hx,hl,hs=>by
  have:=few h hn hc
  omega
 | n + 1,x,bl,ks,f,c,hn,hc,hx,hl,hs=>by
  have hfew:=few h hn hc
  have ih:=qS3 h n
  obtain ⟨l,p,hl',hf,hp,hok⟩:=c.file h
  rw [←hp] at hok
  suffices H:Run (qDn (mF (qBj n))) (qEq ["world","thing","below","sound","name","kind","why"] [.im #[1],.im #[3],.li f (bl.map unP)] ks) fun fl=>∃ d ks' δ,fl=.rl d δ∧δ[3]?=some (.dtt ks')∧Snd ls ks'∧(d=.non→Good ls x)∧(d=.non∨Two d)∧((∀ b∈bl,Ab ls b x)→Good ls x→d=.non) by
   obtain ⟨fl,e,d,ks',δ,rfl,e3,r⟩:=H
   exact ⟨d,ks',qFj ⟨_,e,δ,rfl,e3⟩,r⟩
  let E:KsT→Sl→Sl→Sl→qAi:=fun k s4 s5 s6=>[.im #[1],.im #[3],.rd (bl.map unP),.dtt k,s4,s5,s6]
  let Qr:Fl→Prop:=fun fl=>∃ d ks' δ,fl=.rl d δ∧δ[3]?=some (.dtt ks')∧Snd ls ks'∧Two d∧¬ ((∀ b∈bl,Ab ls b x)∧Good ls x)
  let J:Nat→qAi→Prop:=fun i δ=>∃ k s4 s5 s6,δ=E k s4 s5 s6∧Snd ls k∧∀ q∈(ups #[20]).take i,∃ j:Nat,qCs ls x.1.toNat q.1=some j∧fK (qA8 ls #[46])=q.2∧Good ls #[46]
  refine qHq (ds:=(ups #[20]).map upD) Qr J (fun fl ⟨d,k,δ,e,_⟩=>.inl ⟨d,δ,e⟩) ?_ ⟨ks,_,_,_,rfl,hs,fun q hq=>by cases hq⟩ ?_ ?_ ?_
  ·have e0:qAd (qAo qDk 1 (qAc (qAo qEb 2 #[42]) qAz)) W.walkN (E ks .un .un .un)=.ok ((ups #[20]).map upD):=by
    push_cast only [E,qEl h c,qJ2 hok]
   exact e0
  ·rintro i d _ hd ⟨k,s4,s5,s6,rfl,hk,hall⟩
   rw [List.getElem?_map] at hd
   obtain ⟨q,hq,rfl⟩:=Option.map_eq_some_iff.mp hd
   have hqm:q∈ups #[20]:=List.mem_of_getElem? hq
   refine ⟨E k (.im (.str q.1)) (.im (.str q.2)) s6,rfl,?_⟩
   have hal:(bl.map unP).length + [unP x].length≤16777216:=by rw [List.length_map];show _ + 1≤_;omega
   have eb:bl.map unP++[unP x]=(bl++[x]).map unP:=by rw [List.map_append];rfl
   have go:∀ (r:D×KsT),mF (qBj n) [.im #[1],.im (.int x.1),.im (.str q.1),.im (.str q.2),.li true ((bl++[x]).map unP)] k=.ok r→qcr 6 3 (qK4 (mF (qBj n)) 5 3 #[100]) (E k (.im (.str q.1)) (.im (.str q.2)) s6)=.ok (.nx (E r.2 (.im (.str q.1)) (.im (.str q.2)) (.im r.1))):=by
    intro r hr
    rw [←eb] at hr
    simp only [qcr,qK4]
    push_cast only [E,qbb,qEr hal,hr]
   have bad:∀ (r:D×KsT),mF (qBj n) [.im #[1],.im (.int x.1),.im (.str q.1),.im (.str q.2),.li true ((bl++[x]).map unP)] k=.ok r→Snd ls r.2→Two r.1→¬ ((∀ b∈bl,Ab ls b x)∧Good ls x)→
     Run (qBb (qcr 6 3 (qK4 (mF (qBj n)) 5 3 #[100]))
      (ifF (qAd (qAm qC3 (var 6) #[16]) W.bool) (qTy (qBc (var 6))) qCw)) (E k (.im (.str q.1)) (.im (.str q.2)) s6) fun f=>(∃ δ2,f=.nx δ2∧J (i + 1) δ2)∨Qr f:=by
    intro r hr h1 h2 h3
    obtain ⟨a,b,e⟩:=h2
    refine qAq (go r hr) (qDb (b:=true) (by rw [e];push_cast only [E]) (fun _=>qR7 (d:=r.1) #[36] (.inr ⟨r.1,r.2,_,rfl,rfl,h1,⟨a,b,e⟩,h3⟩)) #[14])
   have good:∀ (r:D×KsT),mF (qBj n) [.im #[1],.im (.int x.1),.im (.str q.1),.im (.str q.2),.li true ((bl++[x]).map unP)] k=.ok r→Snd ls r.2→r.1=.non→(∃ j:Nat,qCs ls x.1.toNat q.1=some j∧fK (qA8 ls #[46])=q.2∧Good ls #[46])→
     Run (qBb (qcr 6 3 (qK4 (mF (qBj n)) 5 3 #[100]))
      (ifF (qAd (qAm qC3 (var 6) #[16]) W.bool) (qTy (qBc (var 6))) qCw)) (E k (.im (.str q.1)) (.im (.str q.2)) s6) fun f=>(∃ δ2,f=.nx δ2∧J (i + 1) δ2)∨Qr f:=by
    intro r hr h1 h2 h3
    refine qAq (go r hr) (qDb (b:=false) (by rw [h2];push_cast only [E]) #[14] (fun _=>⟨_,rfl,.inl ⟨_,rfl,r.2,_,_,_,rfl,h1,fun q' hq'=>?_⟩⟩))
    rw [List.take_succ,hq] at hq'
    rcases List.mem_append.mp hq' with z | z
    ·exact hall q' z
    ·have:q'=q:=by simpa using z
     subst this;exact h3
   cases e:qCs ls x.1.toNat q.1 with
   | none=>
    refine bad _ (qd7 h c e) hk ⟨_,_,rfl⟩ fun ⟨_,g⟩=>?_
    cases g with
    | mk _ g1 g2=>obtain ⟨j,hj,_⟩:=g1 q hqm;rw [e] at hj;cases hj
   | some j=>
    have sz:St ls x #[46]:=⟨q,hqm,j,e,rfl⟩
    have c2:=st_cls h c sz
    by_cases ek:fK (qA8 ls #[46])=q.2
    ·by_cases hm:#[46]∈bl++[x]
     ·refine bad _ (qd6 h c e ek hm) hk ⟨_,_,rfl⟩ fun ⟨ga,g⟩=>?_
      rcases List.mem_append.mp hm with z | z
      ·exact qG8 (g.up sz) ((ga _ z).snoc sz)
      ·have z:#[46]=x:=by simpa using z
       rw [z] at sz
       exact qG8 g (.one sz)
     ·cases hv:(qF3 k (kC #[46])).isSome with
      | true=>exact good _ (qaj h c e ek hm hv) hk rfl ⟨j,e,ek,hk.good hv⟩
      | false=>
       have hn2:(bl++[x]).Nodup:=List.nodup_append.mpr ⟨hn,by simp,fun a ha b hb e9=>by
        have:b=x:=by simpa using hb
        exact hx (this ▸ e9 ▸ ha)⟩
       obtain ⟨d,ks',e1,e2,e3,e4,e5⟩:=ih #[46] (bl++[x]) k false c2 hn2 (fun b hb=>by
        rcases List.mem_append.mp hb with z | z
        ·exact hc b z
        ·have:b=x:=by simpa using z
         subst this;exact c) hm (by rw [List.length_append];show 17≤n + (bl.length + 1);omega) hk
       have em:=fn_go (f:=true) h c e ek hm hv e1
       rcases e4 with z | z
       ·exact good _ em e2 z ⟨j,e,ek,e3 z⟩
       ·refine bad _ em e2 z fun ⟨ga,g⟩=>?_
        have:=e5 (fun b hb=>by
         rcases List.mem_append.mp hb with y | y
         ·exact (ga b y).snoc sz
         ·have:b=x:=by simpa using y
          subst this;exact .one sz) (g.up sz)
        obtain ⟨a,b,w⟩:=z
        have w:d=_:=w
        rw [this] at w;cases w
    ·refine bad _ (qd8 h c e ek) hk ⟨_,_,rfl⟩ fun ⟨_,g⟩=>?_
     cases g with
     | mk _ g1 g2=>
      obtain ⟨j',hj,hk'⟩:=g1 q hqm
      rw [e] at hj;cases hj;exact ek hk'
  ·rintro fl ⟨d,k,δ,e1,e2,e3,e4,e5⟩
   refine ⟨d,k,δ,e1,e2,e3,fun z=>?_,.inr e4,fun ga g=>(e5 ⟨ga,g⟩).elim⟩
   obtain ⟨a,b,w⟩:=e4
   rw [z] at w;cases w
  ·rintro _ ⟨k,s4,s5,s6,rfl,hk,hall⟩
   rw [List.length_map,List.take_length] at hall
   have g:Good ls x:=.mk x (fun q hq=>let ⟨j,a,b,_⟩:=hall q hq;⟨j,a,b⟩) fun z ⟨q,hq,j,e,ez⟩=>by
    obtain ⟨j',a,b,g⟩:=hall q hq
    rw [e] at a;cases a;rw [ez];exact g
   have hkl:=hk.len h
   refine qAq (δ':=E (qGt k (kC x) (.bl true)) s4 s5 s6) ?_ (qR7 (d:=.non) #[18] ⟨.non,_,_,rfl,rfl,hk.put c g _,fun _=>g,.inl rfl,fun _ _=>rfl⟩)
   simp only [qT0,E,List.getElem?_cons_succ,List.getElem?_cons_zero,cst,qBc,var,PD.ok_bind,W.toD,qRc]
   rw [if_pos (show k.length < lim from (show k.length < 16777216 by omega))];rfl
def kv (z:Pa):List Key×D:=(kC z,.bl true)
theorem qYb (S:List Pa)(z:Pa):((S.map kv).any fun q=>decide (q.1=kC z))=decide (z∈S):=by
 induction S with
 | nil=>rfl
 | cons s S ih=>
  rw [List.map_cons,List.any_cons,ih]
  by_cases e:z=s
  ·subst e;simp [kv]
  ·have:kC s≠kC z:=fun q=>e (qbt q).symm
   simp [kv,this,e]
theorem qba (S:List Pa)(z:Pa):(qF3 (S.map kv) (kC z)).isSome=decide (z∈S):=by
 rw [←qYb]
 unfold qF3
 rw [Option.isSome_map]
 induction S.map kv with
 | nil=>rfl
 | cons q r ih=>
  rw [List.find?_cons,List.any_cons]
  cases decide (q.1=kC z) with
  | true=>rfl
  | false=>exact ih
theorem qV1 {S:List Pa}{z:Pa}(h:z∉S):qGt (S.map kv) (kC z) (.bl true)=(S++[z]).map kv:=by
 unfold qGt
 rw [qYb,decide_eq_false h,if_neg Bool.false_ne_true,List.map_append]
 rfl
theorem qc6 {S:List Pa}{z:Pa}(h:z∈S):qGt (S.map kv) (kC z) (.bl true)=S.map kv:=by
 unfold qGt
 rw [qYb,decide_eq_true h,if_pos rfl,List.map_map]
 apply List.map_congr_left
 intro s _
 show (if (kv s).1=kC z then ((kv s).1,D.bl true) else kv s)=kv s
 split <;> rfl
inductive Rch (nx:Pa→List Pa) (x:Pa):Pa→Prop
 | here:Rch nx x x
 | on {y z:Pa} (r:Rch nx x y) (h:z∈nx y):Rch nx x z
section
variable {f:Addr}{vw:V}{gl:qAi→Rs W}{dw:D}{x0:Pa}{nx:Pa→List Pa}{P:Pa→Prop}
abbrev FR (x0:Pa)(f:Addr)(vw:V)(dw:D)(S Wt:List Pa)(a b:Sl):qAi:=[.im (unP x0),.im (.clo f vw dw),.dtt (S.map kv),.own (Wt.map unP),a,b]
abbrev bI:qAi→Rs Fl:=ifF (qGb (inJ 2 #[34])) (qBb (qT0 2 (cst (.bl true)) #[34]) (qI2 3 #[34])) qCw
theorem qd0 (few:∀ l:List Pa,l.Nodup→(∀ z∈l,P z)→l.length≤16)(a:Sl):∀ (zs S Wt:List Pa) (b:Sl),S.Nodup→(∀ z∈S,P z)→(∀ z∈zs,P z)→Wt.length≤S.length→
  ∃ (N:List Pa) (b':Sl),qEv (qD6 5) bI (zs.map unP) (FR x0 f vw dw S Wt a b)=.ok (.nx (FR x0 f vw dw (S++N) (Wt++N) a b'))∧(S++N).Nodup∧(∀ z∈N,z∈zs)∧∀ z∈zs,z∈S++N
 | [],S,Wt,b,hn,_,_,_=>⟨[],b,by simp [qEv],by simpa using hn,by simp,by simp⟩
 | z::zs,S,Wt,b,hn,hS,hz,hW=>by
  have l1:=few S hn hS
  have e1:qD6 5 (unP z) (FR x0 f vw dw S Wt a b)=.ok (FR x0 f vw dw S Wt a #[30]):=rfl
  have e2:inJ 2 #[34] (FR x0 f vw dw S Wt a #[30])=.ok (decide (z∈S)):=by
   show Rs.ok (qF3 (S.map kv) (kC z)).isSome=_
   rw [qba]
  by_cases h:z∈S
  ·obtain ⟨N,b',q1,q2,q3,q4⟩:=qd0 few a zs S Wt #[30] hn hS (fun y hy=>hz y (List.mem_cons_of_mem _ hy)) hW
   refine ⟨N,b',?_,q2,fun y hy=>List.mem_cons_of_mem _ (q3 y hy),fun y hy=>?_⟩
   ·have e3:bI (FR x0 f vw dw S Wt a #[30])=.ok (.nx (FR x0 f vw dw S Wt a #[30])):=by
     simp only [ifF,qGb,e2,decide_eq_true h,okb]
     exact rfl
    rw [List.map_cons]
    unfold qEv
    simp only [e1,e3]
    exact q1
   ·rcases List.mem_cons.mp hy with rfl | hy
    ·exact List.mem_append_left _ h
    ·exact q4 y hy
  ·have hn':(S++[z]).Nodup:=by
    rw [List.nodup_append]
    exact ⟨hn,by simp,fun y hy w hw e=>by rw [List.mem_singleton.mp hw] at e;subst e;exact h hy⟩
   obtain ⟨N,b',q1,q2,q3,q4⟩:=qd0 few a zs (S++[z]) (Wt++[z]) #[30] hn' (fun y hy=>by
    rcases List.mem_append.mp hy with hy | hy
    ·exact hS y hy
    ·rw [List.mem_singleton.mp hy];exact hz z #[51]) (fun y hy=>hz y (List.mem_cons_of_mem _ hy)) (by simp only [List.length_append,List.length_singleton];omega)
   refine ⟨z::N,b',?_,by rw [List.append_cons];exact q2,fun y hy=>?_,fun y hy=>?_⟩
   ·have e3:qT0 2 (cst (.bl true)) #[34] (FR x0 f vw dw S Wt a #[30])=.ok (.nx (FR x0 f vw dw (S++[z]) Wt a #[30])):=by
     show (if (S.map kv).length < lim then Rs.ok (Fl.nx ((FR x0 f vw dw S Wt a #[30]).set 2 (.dtt (qGt (S.map kv) (kC z) (.bl true))))) else Rs.no)=_
     rw [if_pos (show (S.map kv).length < lim by show _ < 16777216;rw [List.length_map];omega),qV1 h]
     rfl
    have e4:qI2 3 #[34] (FR x0 f vw dw (S++[z]) Wt a #[30])=.ok (.nx (FR x0 f vw dw (S++[z]) (Wt++[z]) a #[30])):=by
     have:=qF2 (i:=3) (gd:=qBc (var 5)) (δ:=FR x0 f vw dw (S++[z]) Wt a #[30]) (ds:=Wt.map unP) (d:=unP z) rfl rfl (by rw [List.length_map];omega)
     rw [this]
     simp only [FR,List.map_append,List.map_cons,List.map_nil]
     rfl
    have e5:bI (FR x0 f vw dw S Wt a #[30])=.ok (.nx (FR x0 f vw dw (S++[z]) (Wt++[z]) a #[30])):=by
     simp only [ifF,qGb,e2,decide_eq_false h,okb,qBb,e3,Bool.not_false,if_true]
     exact e4
    rw [List.map_cons]
    unfold qEv
    simp only [e1,e5]
    show qEv (qD6 5) bI (zs.map unP) (FR x0 f vw dw (S++[z]) (Wt++[z]) a #[30])=_
    rw [q1,←List.append_cons,←List.append_cons]
   ·rcases List.mem_cons.mp hy with rfl | hy
    ·exact List.mem_cons_self ..
    ·exact List.mem_cons_of_mem _ (q3 y hy)
   ·rw [List.append_cons]
    rcases List.mem_cons.mp hy with rfl | hy
    ·exact List.mem_append_left _ (List.mem_append_right _ #[51])
    ·exact q4 y hy
abbrev bW (f:Addr)(vw:V)(gl:qAi→Rs W):qAi→Rs Fl:=qBb (popF 4 3) (qGi (qAd (qX4 1 f vw gl (var 4)) W.walkN) (qD6 5) bI)
theorem qJr (few:∀ l:List Pa,l.Nodup→(∀ z∈l,P z)→l.length≤16)(hgl:∀ y,P y→gl [.im (unP y),.im dw]=.ok (.li true ((nx y).map unP)))(hnx:∀ y,P y→∀ z∈nx y,P z) :
  ∀ (n:Nat) (S Wt:List Pa) (a b:Sl),S.Nodup→(∀ z∈S,P z)→(∀ z∈Wt,z∈S)→Wt.length≤S.length→(∀ z∈S,Rch nx x0 z)→(∀ y∈S,y∉Wt→∀ z∈nx y,z∈S)→(16 - S.length) + Wt.length < n→
  ∃ (S':List Pa) (a' b':Sl),qCb (qAd (var 3) W.tru) (bW f vw gl) n (FR x0 f vw dw S Wt a b)=.ok (.nx (FR x0 f vw dw S' [] a' b'))∧S'.Nodup∧(∀ z∈S',P z)∧(∀ z∈S,z∈S')∧(∀ z∈S',Rch nx x0 z)∧∀ y∈S',∀ z∈nx y,z∈S'
 | 0,_,_,_,_,_,_,_,_,_,_,h=>absurd h #[0]
 | n + 1,S,Wt,a,b,hn,hS,hW,hl,hr,hc,hm=>by
  rcases List.eq_nil_or_concat Wt with e | ⟨W1,y,e⟩
  ·subst e
   exact ⟨S,a,b,qI7 (by rfl),hn,hS,fun _ h=>h,hr,fun y hy=>hc y hy #[7]⟩
  ·rw [List.concat_eq_append] at e
   subst e
   have l1:=few S hn hS
   have yS:y∈S:=hW y #[7]
   have l2:(W1++[y]).length=W1.length + 1:=by simp
   obtain ⟨N,b',q1,q2,q3,q4⟩:=qd0 (x0:=x0) (f:=f) (vw:=vw) (dw:=dw) few (.im (unP y)) (nx y) S W1 b hn hS (hnx y (hS y yS)) #[0]
   have P2:∀ z∈S++N,P z:=fun z hz=>by
    rcases List.mem_append.mp hz with h | h
    ·exact hS z h
    ·exact hnx y (hS y yS) z (q3 z h)
   obtain ⟨S',a',b'',w1,w2,w3,w4,w5,w6⟩:=qJr few hgl hnx n (S++N) (W1++N) (.im (unP y)) b' q2 P2 (fun z hz=>by
    rcases List.mem_append.mp hz with h | h
    ·exact List.mem_append_left _ (hW z (List.mem_append_left _ h))
    ·exact List.mem_append_right _ h) (by simp only [List.length_append];omega) (fun z hz=>by
    rcases List.mem_append.mp hz with h | h
    ·exact hr z h
    ·exact .on (hr y yS) (q3 z h)) (fun u hu hnu z hz=>by
    by_cases e:u=y
    ·subst e;exact q4 z hz
    ·have uS:u∈S:=by
      rcases List.mem_append.mp hu with h | h
      ·exact h
      ·exact absurd (List.mem_append_right _ h) hnu
     refine List.mem_append_left _ (hc u uS (fun h=>?_) z hz)
     rcases List.mem_append.mp h with h | h
     ·exact hnu (List.mem_append_left _ h)
     ·exact e (List.mem_singleton.mp h)) (by
    have l3:=few _ q2 P2
    simp only [List.length_append] at l3 ⊢
    omega)
   refine ⟨S',a',b'',?_,w2,w3,fun z hz=>w4 z (List.mem_append_left _ hz),w5,w6⟩
   have t1:qAd (var 3) W.tru (FR x0 f vw dw S (W1++[y]) a b)=.ok true:=by
    show Rs.ok (!((W1++[y]).map unP).isEmpty)=_
    rw [List.map_append]
    cases W1 <;> rfl
   refine qI6 t1 (δ2:=FR x0 f vw dw (S++N) (W1++N) (.im (unP y)) b') ?_ w1
   have p1:popF 4 3 (FR x0 f vw dw S (W1++[y]) a b)=.ok (.nx (FR x0 f vw dw S W1 (.im (unP y)) b)):=by
    show (match ((W1++[y]).map unP).getLast? with
     | some d=>Rs.ok (Fl.nx (((FR x0 f vw dw S (W1++[y]) a b).set 3 (.own ((W1++[y]).map unP).dropLast)).set 4 (.im d)))
     | none=>Rs.no)=_
    rw [List.map_append,List.map_cons,List.map_nil,List.getLast?_concat,List.dropLast_concat]
    rfl
   have c1:qAd (qX4 1 f vw gl (var 4)) W.walkN (FR x0 f vw dw S W1 (.im (unP y)) b)=.ok ((nx y).map unP):=by
    have:qX4 1 f vw gl (var 4) (FR x0 f vw dw S W1 (.im (unP y)) b)=.ok (.li true ((nx y).map unP)):=by
     show (if f=f∧vw=vw then (Rs.ok (W.im (unP y))>>=fun w=>gl [w.slot,.im dw]) else Rs.no)=_
     rw [if_pos ⟨rfl,rfl⟩,PD.ok_bind]
     exact hgl y (hS y yS)
    simp only [qAd,this,okb]
    exact rfl
   show qBb (popF 4 3) (qGi (qAd (qX4 1 f vw gl (var 4)) W.walkN) (qD6 5) bI) (FR x0 f vw dw S (W1++[y]) a b)=_
   simp only [qBb,p1,qGi,c1,okb]
   exact q1
end
theorem qQ1 {gl:qAi→Rs W}{dw:D}{x0:Pa}{nx:Pa→List Pa}{P:Pa→Prop}(few:∀ l:List Pa,l.Nodup→(∀ z∈l,P z)→l.length≤16)(hgl:∀ y,P y→gl [.im (unP y),.im dw]=.ok (.li true ((nx y).map unP)))(hnx:∀ y,P y→∀ z∈nx y,P z)(h0:P x0) :
  ∃ R:List Pa,R.Nodup∧(∀ z∈R,P z)∧(∀ z,z∈R ↔ Rch nx x0 z)∧qP6 (fun f vw=>qE6 f vw gl [.im (unP x0),.im (.clo f vw dw)])=.ok (.li true ((qC2 R).map unP)):=by
 have one:∀ f vw,∃ R:List Pa,R.Nodup∧(∀ z∈R,P z)∧(∀ z,z∈R ↔ Rch nx x0 z)∧qE6 f vw gl [.im (unP x0),.im (.clo f vw dw)]=.ok (.li true ((qC2 R).map unP)):=by
  intro f vw
  obtain ⟨S',a',b',w1,w2,w3,w4,w5,w6⟩:=qJr (f:=f) (vw:=vw) (dw:=dw) (x0:=x0) (nx:=nx) (gl:=gl) few hgl hnx 1000 [x0] [x0] .un .un #[7] (fun z hz=>by rw [List.mem_singleton.mp hz];exact h0) (fun z hz=>hz) #[8] (fun z hz=>by rw [List.mem_singleton.mp hz];exact .here) (fun y hy hn=>absurd hy hn) #[7]
  refine ⟨S',w2,w3,fun z=>⟨w5 z,fun r=>?_⟩,?_⟩
  ·induction r with
   | here=>exact w4 _ #[7]
   | on _ h ih=>exact w6 _ ih _ h
  ·refine qAx ?_
   refine qAq (δ:=[.im (unP x0),.im (.clo f vw dw),.un,.un,.un,.un]) (δ':=[.im (unP x0),.im (.clo f vw dw),.dtt ([x0].map kv),.un,.un,.un]) rfl ?_
   refine qAq (δ':=FR x0 f vw dw [x0] [x0] .un .un) #[18] ?_
   refine qAq w1 ?_
   refine qAv (w:=.li true ((qC2 S').map unP)) ?_ rfl
   have e:qDx ((S'.map kv).map (·.1))=some S':=by
    rw [List.map_map]
    exact qHu S'
   have l:=few S' w2 w3
   show (match qDx ((S'.map kv).map (·.1)) with
    | some ps=>if ps.length < 64 then Rs.ok (W.li true ((qC2 ps).map unP)) else Rs.no
    | none=>Rs.no)=_
   rw [e]
   exact if_pos #[0]
 obtain ⟨R,r1,r2,r3,r4⟩:=one 0 .non
 refine ⟨R,r1,r2,r3,qTa fun f vw=>?_⟩
 obtain ⟨R',s1,s2,s3,s4⟩:=one f vw
 rw [s4]
 have hp:R'.Perm R:=(List.perm_ext_iff_of_nodup s1 r1).mpr fun z=>(s3 z).trans (r3 z).symm
 rw [qIu ((qCt R').trans hp) (qMl R')]
theorem qO0 {l:List Pa}{z:Pa}:z∈qC2 l ↔ z∈l:=(qCt l).mem_iff
theorem qG0 {ls:List Ld}(h:WorldOk ls){x:Pa}(c:Cls ls x):qDq [.im #[1],.im #[3]]=.ok (.im #[20]):=by
 obtain ⟨l,p,hl,hf,hp,_⟩:=c.file h
 have hs:=(h.ok _ l hl).sh
 have ho:=qWr hs x.2
 have hx:ixW (.li true ((l.2.filter fun p=>p.1 == x.2).map (·.2))) (.im (.int 0))=.ok (.im p.2):=by
  refine qG2 rfl #[0] ?_
  show ((l.2.filter fun p=>p.1 == x.2).map (·.2))[0]?=some p.2
  rw [List.getElem?_map,←List.head?_eq_getElem?,List.head?_filter,hf]
  rfl
 exact qAx (qAv (δ:=[.im #[1],.im #[3]]) (w:=.im #[20]) (by rw [hp];push_cast only [ix_wc c hl,qbb,unP1,ld1,ho,hx]) rfl)
theorem qT8 {ls:List Ld}(h:WorldOk ls){x:Pa}(c:Cls ls x):qJ5 [.im #[1],.im #[3]]=.ok (.li true ((ups #[20]).map upD)):=by
 obtain ⟨l,p,hl,hf,hp,hok⟩:=c.file h
 have hfile:=qG0 h c
 rw [←hp] at hok
 obtain ⟨k,a,fs,rs,e0,ha,hlf,_,_,_⟩:=hok.full
 rw [e0] at hfile ⊢
 have e1:fF #[98]=fs:=by
  simp only [fF,qGn,Option.getD_some]
 have hc:=fun δ=>qFg (δ:=δ) (el:=qAd (qAw (qBc #[2]) (qAw (cst (.str "face")) qB9)) qB0) (ds:=fs.map D.str) (fun d=>.tup [d,.str "face"]) (by rw [List.length_map];omega) (by
  intro d hd
  obtain ⟨s,hs,rfl⟩:=List.mem_map.mp hd
  push_cast only [okb])
 have e2:(fs.map D.str).map (fun d=>D.tup [d,.str "face"])=fs.map fun s=>upD (s,cF):=by rw [List.map_map];rfl
 refine qAx ?_
 refine qAq (δ:=[.im #[1],.im #[3],.un,.un]) (δ':=[.im #[1],.im #[3],.im #[98],.un]) (by push_cast only [hfile]) ?_
 refine qAq (δ':=[.im #[1],.im #[3],.im #[98],.own (fs.map fun s=>upD (s,cF))]) (by
  simp only [qCk,qB4]
  push_cast only [ix3,hc,e2]) ?_
 have s0:slW (.li true [D.tup [a,.str "class"]]) none (some 0)=.ok (.li true []):=rfl
 have s1:slW (.li true [D.tup [a,.str "class"]]) none (some 1)=.ok (.li true [D.tup [a,.str "class"]]):=rfl
 have hal0:([]:List D).length + (fs.map fun s=>upD (s,cF)).length≤16777216:=by rw [List.length_map];show 0 + _≤_;omega
 have hal:[D.tup [a,.str "class"]].length + (fs.map fun s=>upD (s,cF)).length≤16777216:=by rw [List.length_map];show 1 + _≤_;omega
 cases ha with
 | cls=>
  refine qAv (w:=.li true ([]++fs.map fun s=>upD (s,cF))) (by push_cast only [ix2,s0,qEr hal0]) ?_
  have eu:ups (.tup [.str cC,.str x.2,.non,.tup (fs.map D.str),.tup rs])=[]++fs.map (fun s=>(s,cF)):=by unfold ups;rw [e1];rfl
  rw [eu,List.map_append,List.map_map];rfl
 | face=>
  refine qAv (w:=.li true ([]++fs.map fun s=>upD (s,cF))) (by push_cast only [ix2,s0,qEr hal0]) ?_
  have eu:ups (.tup [.str cF,.str x.2,.non,.tup (fs.map D.str),.tup rs])=[]++fs.map (fun s=>(s,cF)):=by unfold ups;rw [e1];rfl
  rw [eu,List.map_append,List.map_map];rfl
 | @above s hs=>
  refine qAv (w:=.li true ([D.tup [.str s,.str "class"]]++fs.map fun s=>upD (s,cF))) (by push_cast only [ix2,s1,qEr hal]) ?_
  have eu:ups (.tup [.str cC,.str x.2,.str s,.tup (fs.map D.str),.tup rs])=[(s,cC)]++fs.map (fun s=>(s,cF)):=by unfold ups;rw [e1];rfl
  rw [eu,List.map_append,List.map_map];rfl
theorem qWv {ls:List Ld}(h:WorldOk ls){x:Pa}(c:Cls ls x)(nm:Str):qD1 [.im #[1],.im (.int x.1),.im #[21]]=.ok (.im (opD (Option.map (fun (j:Nat)=>((j:Int),nm)) (qCs ls x.1.toNat nm)))):=by
 have:=qO4 h c.lt nm
 rw [←c.nat] at this
 rw [this]
 cases qCs ls x.1.toNat nm <;> rfl
theorem qXf {ls:List Ld}(h:WorldOk ls):∀ (n:Nat) (x:Pa) (bl:List Pa) (f:Bool),Cls ls x→bl.Nodup→(∀ b∈bl,Cls ls b)→x∉bl→17≤n + bl.length→
  ∃ d,qD0 n [.im #[1],.im #[3],.li f (bl.map unP)]=.ok (.im d)∧(d=.non→Good ls x)∧(d=.non∨Two d)∧((∀ b∈bl,Ab ls b x)→Good ls x→d=.non)
 | 0,x,bl,f,c,hn,hc,hx,hl=>by
  have:=few h hn hc
  omega
 | n + 1,x,bl,f,c,hn,hc,hx,hl=>by
  have hfew:=few h hn hc
  have ih:=qXf h n
  suffices H:Run (qG7 (qD0 n)) [.im #[1],.im #[3],.rd (bl.map unP),.un,.un,.un,.un] fun fl=>∃ d,fl=.rt (.im d)∧(d=.non→Good ls x)∧(d=.non∨Two d)∧((∀ b∈bl,Ab ls b x)→Good ls x→d=.non) by
   obtain ⟨fl,e,d,rfl,r⟩:=H
   refine ⟨d,?_,r⟩
   show mir _ (qG7 (qD0 n)) _=_
   unfold mir
   rw [show frame ["_law_world_here","_law_thing","_law_path","_law_name","_law_kind","_law_other","_law_why"] [.im #[1],.im #[3],.li f (bl.map unP)]=[.im #[1],.im #[3],.rd (bl.map unP),.un,.un,.un,.un] from rfl,e]
   rfl
  let E:Sl→Sl→Sl→Sl→qAi:=fun a b c d=>[.im #[1],.im #[3],.rd (bl.map unP),a,b,c,d]
  let Qr:Fl→Prop:=fun fl=>∃ d,fl=.rt (.im d)∧Two d∧¬ ((∀ b∈bl,Ab ls b x)∧Good ls x)
  let J:Nat→qAi→Prop:=fun i δ=>∃ a b c d,δ=E a b c d∧∀ q∈(ups #[20]).take i,∃ j:Nat,qCs ls x.1.toNat q.1=some j∧fK (qA8 ls #[46])=q.2∧Good ls #[46]
  refine qHq (ds:=(ups #[20]).map upD) Qr J (fun fl ⟨d,e,_⟩=>.inr ⟨_,e⟩) (by push_cast only [qT8 h c]) ⟨_,_,_,_,rfl,fun q hq=>by cases hq⟩ ?_ ?_ ?_
  ·rintro i d _ hd ⟨a,b,c',d',rfl,hall⟩
   rw [List.getElem?_map] at hd
   obtain ⟨q,hq,rfl⟩:=Option.map_eq_some_iff.mp hd
   have hqm:q∈ups #[20]:=List.mem_of_getElem? hq
   refine ⟨E (.im (.str q.1)) (.im (.str q.2)) c' d',rfl,?_⟩
   have hal:(bl.map unP).length + [unP x].length≤16777216:=by rw [List.length_map];show _ + 1≤_;omega
   have eb:bl.map unP++[unP x]=(bl++[x]).map unP:=by rw [List.map_append];rfl
   have fl:=qWv h c q.1
   cases e:qCs ls x.1.toNat q.1 with
   | none=>
    rw [e] at fl
    refine qAq (δ':=E (.im (.str q.1)) (.im (.str q.2)) (.im .non) d') (by push_cast only [E,qbb,fl,opD,Option.map_none]) ?_
    refine qAs (b:=true) #[36] (fun _=>qBq (w:=.im (.tup [.str "lacks",.str q.1])) #[36] (.inr ⟨_,rfl,⟨_,_,rfl⟩,fun ⟨_,g⟩=>?_⟩)) #[14]
    cases g with
    | mk _ g1 g2=>
     obtain ⟨j',hj,_⟩:=g1 q hqm
     rw [e] at hj;cases hj
   | some j=>
    rw [e] at fl
    have cz:Cls ls #[46]:=qP4 h c.lt e
    have sz:St ls x #[46]:=⟨q,hqm,j,e,rfl⟩
    refine qAq (δ':=E (.im (.str q.1)) (.im (.str q.2)) (.im (unP #[46])) d') (by push_cast only [E,qbb,fl,opD,Option.map_some]) ?_
    refine qAs (b:=false) (by push_cast only [E,unP]) #[14] #[47]
    obtain ⟨l2,p2,_,_,hp2,hok2⟩:=cz.file h
    rw [←hp2] at hok2
    have fk:=qXt hok2
    by_cases ek:fK (qA8 ls #[46])=q.2
    ·refine qAs (b:=false) (by push_cast only [E,qG0 h cz,fk,ek,decide_true]) #[14] #[47]
     have hin:=qLu (f:=true) (bl++[x]) #[46]
     rw [←eb] at hin
     by_cases hm:#[46]∈bl++[x]
     ·refine qAs (b:=true) (by push_cast only [E,qEr hal,hin,decide_eq_true hm]) (fun _=>qBq (w:=.im (.tup [.str "ring",.str q.1])) #[36] (.inr ⟨_,rfl,⟨_,_,rfl⟩,fun ⟨ga,g⟩=>?_⟩)) #[14]
      rcases List.mem_append.mp hm with z | z
      ·exact qG8 (g.up sz) ((ga _ z).snoc sz)
      ·have:#[46]=x:=by simpa using z
       rw [this] at sz
       exact qG8 g (.one sz)
     ·refine qAs (b:=false) (by push_cast only [E,qEr hal,hin,decide_eq_false hm]) #[14] #[47]
      have hx2:x∉bl:=hx
      have nd2:(bl++[x]).Nodup:=by
       rw [List.nodup_append]
       exact ⟨hn,by simp,fun y hy w hw e=>by rw [List.mem_singleton.mp hw] at e;subst e;exact hx hy⟩
      obtain ⟨d2,e1,e3,e4,e5⟩:=ih #[46] (bl++[x]) true cz nd2 (fun b hb=>by
       rcases List.mem_append.mp hb with z | z
       ·exact hc b z
       ·have:b=x:=by simpa using z
        subst this;exact c) hm (by rw [List.length_append];show 17≤n + (bl.length + 1);omega)
      rw [←eb] at e1
      refine qAq (δ':=E (.im (.str q.1)) (.im (.str q.2)) (.im (unP #[46])) (.im d2)) (by push_cast only [E,qEr hal,e1]) ?_
      rcases e4 with z | ⟨z1,z2,z⟩
      ·subst z
       refine qDb (b:=false) #[36] #[14] (fun _=>⟨_,rfl,.inl ⟨_,rfl,_,_,_,_,rfl,fun q' hq'=>?_⟩⟩)
       rw [List.take_succ,hq] at hq'
       rcases List.mem_append.mp hq' with w | w
       ·exact hall q' w
       ·have:q'=q:=by simpa using w
        subst this
        exact ⟨j,e,ek,e3 rfl⟩
      ·subst z
       refine qDb (b:=true) #[36] (fun _=>qAv (w:=.im (.tup [.str z1,.str z2])) #[36] (.inr ⟨_,rfl,⟨_,_,rfl⟩,fun ⟨ga,g⟩=>?_⟩)) #[14]
       have:=e5 (fun b hb=>by
        rcases List.mem_append.mp hb with y | y
        ·exact (ga b y).snoc sz
        ·have:b=x:=by simpa using y
         subst this;exact .one sz) (g.up sz)
       cases this
    ·refine qAs (b:=true) (by push_cast only [E,qG0 h cz,fk,decide_eq_false ek]) (fun _=>qBq (w:=.im (.tup [.str "kind",.str q.1])) #[36] (.inr ⟨_,rfl,⟨_,_,rfl⟩,fun ⟨_,g⟩=>?_⟩)) #[14]
     cases g with
     | mk _ g1 g2=>
      obtain ⟨j',hj,hk'⟩:=g1 q hqm
      rw [e] at hj;cases hj;exact ek hk'
  ·rintro fl ⟨d,e1,e4,e5⟩
   refine ⟨d,e1,fun z=>?_,.inr e4,fun ga g=>(e5 ⟨ga,g⟩).elim⟩
   obtain ⟨a,b,w⟩:=e4
   rw [z] at w;cases w
  ·rintro _ ⟨a,b,c',d',rfl,hall⟩
   rw [List.length_map,List.take_length] at hall
   have g:Good ls x:=.mk x (fun q hq=>let ⟨j,a,b,_⟩:=hall q hq;⟨j,a,b⟩) fun z ⟨q,hq,j,e,ez⟩=>by
    obtain ⟨j',a,b,g⟩:=hall q hq
    rw [e] at a;cases a;rw [ez];exact g
   exact qAv (w:=.im .non) #[36] ⟨.non,rfl,fun _=>g,.inl rfl,fun _ _=>rfl⟩
theorem qak {ls:List Ld}(h:WorldOk ls){x:Pa}(c:Cls ls x):∃ d,qD0 20 [.im #[1],.im #[3],.li true []]=.ok (.im d)∧(d=.non ↔ Good ls x)∧(d=.non∨Two d):=by
 obtain ⟨d,e1,e2,e3,e4⟩:=qXf h 20 x [] true c List.nodup_nil (fun b hb=>nomatch hb) (fun hb=>nomatch hb) #[5]
 exact ⟨d,e1,⟨e2,fun g=>e4 (fun b hb=>nomatch hb) g⟩,e3⟩
theorem qIa {h k:qAi→Rs Fl}{δ δ':qAi}(e:h δ=.ok (.nx δ')):qBb h k δ=k δ':=by simp only [qBb,e]
def qBk:D→Option Str
 | .tup [.str k,.str n]=>if k=Str.ofString "need" then some n else none
 | .tup [.str k,_,.str n,_]=>if k=Str.ofString "read" then some n else none
 | _=>none
def nmD:Option Str→D
 | some n=>.str n
 | none=>.non
theorem qbh {f:Str}{n:Int}:qBk (.tup [.str "put",.str f,.int n])=none:=rfl
theorem qVn {f n o:Str}:qBk (.tup [.str "read",.str f,.str n,.str o])=some n:=by unfold qBk;exact if_pos rfl
theorem qQ0 {n:Str}:qBk (.tup [.str "need",.str n])=some n:=by unfold qBk;exact if_pos rfl
theorem qVo {n:Str}:qBk (.tup [.str "note",.str n])=none:=by unfold qBk;exact if_neg #[19]
theorem qVp {n:Str}:qBk (.tup [.str "fail",.str n])=none:=by unfold qBk;exact if_neg #[19]
theorem k1:decide (Str.ofString "put"=Str.ofString "need")=false:=by decide +kernel
theorem k2:decide (Str.ofString "put"=Str.ofString "read")=false:=by decide +kernel
theorem k3:decide (Str.ofString "read"=Str.ofString "need")=false:=by decide +kernel
theorem k4:decide (Str.ofString "read"=Str.ofString "read")=true:=by decide +kernel
theorem k5:decide (Str.ofString "need"=Str.ofString "need")=true:=by decide +kernel
theorem k6:decide (Str.ofString "note"=Str.ofString "need")=false:=by decide +kernel
theorem k7:decide (Str.ofString "note"=Str.ofString "read")=false:=by decide +kernel
theorem k8:decide (Str.ofString "fail"=Str.ofString "need")=false:=by decide +kernel
theorem k9:decide (Str.ofString "fail"=Str.ofString "read")=false:=by decide +kernel
theorem k10:decide (Str.ofString "need"=Str.ofString "read")=false:=by decide +kernel
theorem qJ3 {r:D}(h:RowF r):qC1 [.im r]=.ok (.im (nmD (qBk r))):=by
 refine qAx ?_
 cases h with
 | put _ _ _=>
  rw [qbh]
  exact qAs (b:=false) (by push_cast only [ix0,k1]) #[14] (fun _=>qBg (qAv (w:=.im .non) (by push_cast only [ix0,k2,Bool.false_eq_true]) rfl))
 | read _ _ _=>
  rw [qVn]
  exact qAs (b:=false) (by push_cast only [ix0,k3]) #[14] (fun _=>qBg (qAv (by push_cast only [ix0,ix2,k4]) rfl))
 | need _=>
  rw [qQ0]
  exact qAs (b:=true) (by push_cast only [ix0,k5]) (fun _=>qBq (by push_cast only [ix1]) rfl) #[14]
 | note _=>
  rw [qVo]
  exact qAs (b:=false) (by push_cast only [ix0,k6]) #[14] (fun _=>qBg (qAv (w:=.im .non) (by push_cast only [ix0,k7,Bool.false_eq_true]) rfl))
 | fail _=>
  rw [qVp]
  exact qAs (b:=false) (by push_cast only [ix0,k8]) #[14] (fun _=>qBg (qAv (w:=.im .non) (by push_cast only [ix0,k9,Bool.false_eq_true]) rfl))
def fR:D→List D
 | .tup [_,_,_,_,.tup rs]=>rs
 | _=>[]
def qDv (d:D):List D:=(match fA d with | some a=>[D.tup [.str "need",.str a]] | none=>[])++fR d
theorem qPu {d:D}{n:Str}(h:FileOk d n):(fR d).length≤5∧(∀ r∈fR d,RowF r)∧∀ a,fA d=some a→WordS a:=by
 obtain ⟨k,a,fs,rs,rfl,ha,_,_,hl,hr⟩:=h.full
 refine ⟨hl,fun r hm=>(hr r hm).fm,fun s e=>?_⟩
 cases ha with
 | cls=>cases e
 | face=>cases e
 | above hs=>cases e;exact hs
theorem qYs {d:D}{n:Str}(h:FileOk d n):(qDv d).length≤6∧∀ r∈qDv d,RowF r:=by
 obtain ⟨h1,h2,h3⟩:=qPu h
 unfold qDv
 cases e:fA d with
 | none=>exact ⟨by rw [List.nil_append];omega,fun r hr=>h2 r hr⟩
 | some a=>
  refine ⟨by rw [List.length_append];show 1 + _≤_;omega,fun r hr=>?_⟩
  rcases List.mem_append.mp hr with z | z
  ·have:r=D.tup [.str "need",.str a]:=by simpa using z
   subst this;exact .need (h3 a e)
  ·exact h2 r z
theorem qN2 {ls:List Ld}(h:WorldOk ls){x:Pa}(c:Cls ls x):qFn [.im #[1],.im #[3]]=.ok (.li true (qDv #[20])):=by
 obtain ⟨l,p,hl,hf,hp,hok⟩:=c.file h
 have hfile:=qEl h c
 rw [←hp] at hok
 obtain ⟨k,a,fs,rs,e0,ha,hlf,_,hlr,_⟩:=hok.full
 rw [e0] at hfile ⊢
 refine qAx ?_
 refine qAq (δ:=[.im #[1],.im #[3],.un,.un]) (δ':=[.im #[1],.im #[3],.im #[98],.un]) (by push_cast only [hfile]) ?_
 have el:lstA [.im (.tup rs)]=.ok (.li true rs):=rfl
 refine qAq (δ':=[.im #[1],.im #[3],.im #[98],.own rs]) (by push_cast only [ix4,el]) ?_
 cases ha with
 | cls=>exact qAv (w:=.li true rs) (by push_cast only [ix2]) rfl
 | face=>exact qAv (w:=.li true rs) (by push_cast only [ix2]) rfl
 | @above s hs=>
  have hal:[D.tup [.str "need",.str s]].length + rs.length≤16777216:=by show 1 + _≤_;omega
  exact qAv (w:=.li true ([D.tup [.str "need",.str s]]++rs)) (by push_cast only [ix2,qEr hal]) rfl
def qYl (S:List Pa)(z:Pa):List Pa:=if z∈S then S else S++[z]
theorem qet {S:List Pa}{z:Pa}(h:S.Nodup):(qYl S z).Nodup:=by
 unfold qYl
 split
 ·exact h
 ·rename_i hm
  rw [List.nodup_append]
  exact ⟨h,by simp,fun y hy w hw e=>by rw [List.mem_singleton.mp hw] at e;subst e;exact hm hy⟩
theorem qZ2 {S:List Pa}{z y:Pa}:y∈qYl S z ↔ y∈S∨y=z:=by
 unfold qYl
 split
 ·rename_i hm
  exact ⟨.inl,fun h=>h.elim id fun e=>e ▸ hm⟩
 ·rw [List.mem_append,List.mem_singleton]
def toN (ls:List Ld)(x:Pa)(n:Str):Option Pa:=Option.map (fun (j:Nat)=>((j:Int),n)) (qCs ls x.1.toNat n)
def qMj (ls:List Ld)(x:Pa)(S:List Pa)(n:Str):List Pa:=match toN ls x n with
 | some z=>qYl S z
 | none=>S
def qKx (ls:List Ld)(x:Pa)(S:List Pa)(r:D):List Pa:=match qBk r with
 | some n=>qMj ls x S n
 | none=>S
def qeo (ls:List Ld)(x:Pa):List Pa:=(qDv #[20]).foldl (qKx ls x) []
theorem qcj {ls:List Ld}(h:WorldOk ls){x z:Pa}(c:Cls ls x){n:Str}(e:toN ls x n=some z):Cls ls z:=by
 obtain ⟨j,hj,rfl⟩:=Option.map_eq_some_iff.mp e
 exact qP4 h c.lt hj
structure SOk (ls:List Ld) (S:List Pa):Prop where
 nd:S.Nodup
 ok:∀ z∈S,Cls ls z
theorem SOk.n {ls:List Ld}(h:WorldOk ls){x:Pa}(c:Cls ls x){S:List Pa}(s:SOk ls S)(n:Str):SOk ls (qMj ls x S n):=by
 unfold qMj
 cases e:toN ls x n with
 | none=>exact s
 | some z=>exact ⟨qet s.nd,fun y hy=>(qZ2.mp hy).elim (s.ok y) fun q=>q ▸ qcj h c e⟩
theorem SOk.r {ls:List Ld}(h:WorldOk ls){x:Pa}(c:Cls ls x){S:List Pa}(s:SOk ls S)(r:D):SOk ls (qKx ls x S r):=by
 unfold qKx
 cases qBk r with
 | none=>exact s
 | some n=>exact s.n h c n
theorem SOk.fold {ls:List Ld}(h:WorldOk ls){x:Pa}(c:Cls ls x):∀ (rs:List D) {S:List Pa},SOk ls S→SOk ls (rs.foldl (qKx ls x) S)
 | [],_,s=>s
 | r::rs,_,s=>SOk.fold h c rs (s.r h c r)
theorem qen {ls:List Ld}(h:WorldOk ls){x:Pa}(c:Cls ls x):SOk ls (qeo ls x):=SOk.fold h c _ ⟨List.nodup_nil,fun z hz=>nomatch hz⟩
theorem qZe {ls:List Ld}(h:WorldOk ls){S:List Pa}(s:SOk ls S)(z:Pa){a b c d:Sl}{w0 w1:Sl}:qT0 2 (cst (.bl true)) #[34] [w0,w1,.dtt (S.map kv),a,b,.im (unP z)]=.ok (.nx [w0,w1,.dtt ((qYl S z).map kv),a,b,.im (unP z)]):=by
 have l1:=few h s.nd s.ok
 show (if (S.map kv).length < lim then Rs.ok (Fl.nx [w0,w1,.dtt (qGt (S.map kv) (kC z) (.bl true)),a,b,.im (unP z)]) else Rs.no)=_
 rw [if_pos (show (S.map kv).length < lim by show _ < 16777216;rw [List.length_map];omega)]
 unfold qYl
 split
 ·rename_i hm;rw [qc6 hm]
 ·rename_i hm;rw [qV1 hm]
theorem qd5 {ls:List Ld}(h:WorldOk ls){x:Pa}(c:Cls ls x)(n:Str):qE7 [.im #[1],.im (.int x.1),.im (.str n)]=.ok (.im (opD (toN ls x n))):=qNa h c n
abbrev bA:qAi→Rs Fl:=qBb (qCk 4 (qAo qC1 1 (qAc (var 3) qAz)))
  (qBb (qCk 5 (ifW (qAd (qAm isW (var 4) #[16]) W.bool) #[16] (qAo qE7 3 (qAc #[2] (qAc (qAm ixW (var 1) #[11]) (qAc (var 4) qAz))))))
  (ifF (qAd (qAm qC3 (var 5) #[16]) W.bool) (qT0 2 (cst (.bl true)) #[34]) qCw))
theorem qYa {ls:List Ld}(h:WorldOk ls){x:Pa}(c:Cls ls x):∀ (rs:List D) (S:List Pa) (a b e:Sl),(∀ r∈rs,RowF r)→SOk ls S→
  ∃ a' b' e',qEv (qD6 3) bA rs [.im #[1],.im #[3],.dtt (S.map kv),a,b,e]=.ok (.nx [.im #[1],.im #[3],.dtt ((rs.foldl (qKx ls x) S).map kv),a',b',e'])
 | [],S,a,b,e,_,_=>⟨a,b,e,rfl⟩
 | r::rs,S,a,b,e,hr,s=>by
  have hn:=qJ3 (hr r #[51])
  obtain ⟨a',b',e',q⟩:=qYa h c rs (qKx ls x S r) (.im r) (.im (nmD (qBk r))) (.im (match qBk r with | some n=>opD (toN ls x n) | none=>.non)) (fun r' h'=>hr r' (List.mem_cons_of_mem _ h')) (s.r h c r)
  refine ⟨a',b',e',?_⟩
  have e0:qD6 3 r [.im #[1],.im #[3],.dtt (S.map kv),a,b,e]=.ok [.im #[1],.im #[3],.dtt (S.map kv),.im r,b,e]:=rfl
  have e1:qCk 4 (qAo qC1 1 (qAc (var 3) qAz)) [.im #[1],.im #[3],.dtt (S.map kv),.im r,b,e]=.ok (.nx [.im #[1],.im #[3],.dtt (S.map kv),.im r,.im (nmD (qBk r)),e]):=by push_cast only [hn]
  have e2:bA [.im #[1],.im #[3],.dtt (S.map kv),.im r,b,e]=.ok (.nx [.im #[1],.im #[3],.dtt ((qKx ls x S r).map kv),.im r,.im (nmD (qBk r)),.im (match qBk r with | some n=>opD (toN ls x n) | none=>.non)]):=by
   unfold bA
   rw [qIa e1]
   unfold qKx
   cases qBk r with
   | none=>
    rw [qIa (δ':=[.im #[1],.im #[3],.dtt (S.map kv),.im r,.im .non,.im .non]) (by push_cast only [nmD])]
    simp only [ifF]
    push_cast only [nmD]
   | some n=>
    have hf:=qd5 h c n
    rw [qIa (δ':=[.im #[1],.im #[3],.dtt (S.map kv),.im r,.im (.str n),.im (opD (toN ls x n))]) (by push_cast only [nmD,qbb,hf])]
    unfold qMj
    simp only [ifF]
    cases toN ls x n with
    | none=>push_cast only [opD]
    | some z=>
     have hz:=qZe h s z (a:=.im r) (b:=.im (.str n)) (c:=.un) (d:=.un) (w0:=.im #[1]) (w1:=.im #[3])
     have hb:qAd (qAm qC3 (var 5) #[16]) W.bool [.im #[1],.im #[3],.dtt (S.map kv),.im r,.im (.str n),.im (unP z)]=.ok true:=by push_cast only [unP]
     show (qAd (qAm qC3 (var 5) #[16]) W.bool [.im #[1],.im #[3],.dtt (S.map kv),.im r,.im (.str n),.im (unP z)]>>=_)=_
     rw [hb,PD.ok_bind,if_pos rfl]
     exact hz
  unfold qEv
  simp only [e0,e2]
  exact q
theorem qXj {ls:List Ld}(h:WorldOk ls){x:Pa}(c:Cls ls x):∃ d,qQ9 [.im #[1],.im #[3]]=.ok (.im d)∧(d=.non ↔ Good ls x)∧(d=.non∨Two d):=by
 obtain ⟨d,ks',e1,e2,e3,e4,e5⟩:=qS3 h 20 x [] [] true c List.nodup_nil (fun b hb=>nomatch hb) (fun hb=>nomatch hb) #[5] ⟨fun kv hkv=>(nomatch hkv),List.nodup_nil⟩
 have e1':qBj 20 [.im #[1],.im #[3],.li true []] []=.ok (d,ks'):=e1
 refine ⟨d,?_,⟨e3,fun g=>e5 (fun b hb=>nomatch hb) g⟩,e4⟩
 refine qAx (qAv (δ:=[.im #[1],.im #[3]]) (w:=.im d) ?_ rfl)
 simp only [toW,qem]
 push_cast only [e1']
open Classical in
def arr (ls:List Ld)(x:Pa):List Pa:=if Good ls x then qeo ls x else []
theorem qQg {ls:List Ld}(h:WorldOk ls){x:Pa}(c:Cls ls x):SOk ls (arr ls x):=by
 unfold arr
 split
 ·exact qen h c
 ·exact ⟨List.nodup_nil,fun z hz=>nomatch hz⟩
theorem qFi {ls:List Ld}(h:WorldOk ls){x:Pa}(c:Cls ls x):qDl [.im #[1],.im #[3]]=.ok (.li true ((arr ls x).map unP)):=by
 obtain ⟨d,e1,e2,e3⟩:=qXj h c
 obtain ⟨l,p,hl,hf,hp,hok⟩:=c.file h
 rw [←hp] at hok
 obtain ⟨s1,s2⟩:=qYs hok
 refine qAx ?_
 rcases e3 with rfl | ⟨a,b,rfl⟩
 ·refine qAs (b:=false) (δ:=[.im #[1],.im #[3],.un,.un,.un,.un]) (by push_cast only [e1]) #[14] #[47]
  refine qAq (δ':=[.im #[1],.im #[3],.dtt (([]:List Pa).map kv),.un,.un,.un]) rfl ?_
  obtain ⟨a',b',e',q⟩:=qYa h c (qDv #[20]) [] .un .un .un s2 ⟨List.nodup_nil,fun z hz=>nomatch hz⟩
  refine qAq (δ':=[.im #[1],.im #[3],.dtt ((qeo ls x).map kv),a',b',e']) ?_ ?_
  ·have eg:qAd (qAo qFn 2 #[42]) W.walkN [.im #[1],.im #[3],.dtt (([]:List Pa).map kv),.un,.un,.un]=.ok (qDv #[20]):=by push_cast only [qN2 h c]
   simp only [qGi,eg,okb]
   exact q
  ·refine qAv (w:=.li true ((arr ls x).map unP)) ?_ rfl
   unfold arr
   rw [if_pos (e2.mp rfl)]
   show (match qDx (((qeo ls x).map kv).map (·.1)) with
    | some ps=>Rs.ok (W.li true (ps.map unP))
    | none=>Rs.no)=_
   rw [show qDx (((qeo ls x).map kv).map (·.1))=some (qeo ls x) by rw [List.map_map];exact qHu _]
 ·refine qAs (b:=true) (δ:=[.im #[1],.im #[3],.un,.un,.un,.un]) (by push_cast only [e1]) (fun _=>qBq (w:=.li true []) #[18] ?_) #[14]
  unfold arr
  rw [if_neg fun g=>by have:=e2.mpr g;cases this];rfl
theorem qH3 {ls:List Ld}{x:Pa}:∀ (rs:List D) (S:List Pa),rs.foldl (qKx ls x) S=(rs.filterMap qBk).foldl (qMj ls x) S
 | [],S=>rfl
 | r::rs,S=>by
  rw [List.foldl_cons,List.filterMap_cons]
  unfold qKx
  cases qBk r with
  | none=>exact qH3 rs S
  | some n=>rw [List.foldl_cons];exact qH3 rs _
theorem fR_str {d:D}{n:Str}(h:FileOk d n):ixW (.im d) (.im (.int 4))=.ok (.im (.tup (fR d))):=by
 obtain ⟨k,a,fs,rs,rfl,ha,_,_,hl,hr⟩:=h.full
 exact ix4
theorem qW7 {k:Str}:inW (.im (.str k)) (.im (.tup [.str "need",.str "read"]))=.ok (.im (.bl (decide (Str.ofString "need"=k) || decide (Str.ofString "read"=k)))):=qW6
abbrev bR:qAi→Rs Fl:=ifF (qAd (qAm inW (qAm ixW (var 4) #[11]) (toW (qAd (qAw (cst (.str "need")) (qAw (cst (.str "read")) qB9)) qB0))) W.bool) (qI2 3 (qBc #[102])) qCw
theorem q1:(decide (Str.ofString "need"=Str.ofString "put") || decide (Str.ofString "read"=Str.ofString "put"))=false:=by decide +kernel
theorem q2:(decide (Str.ofString "need"=Str.ofString "read") || decide (Str.ofString "read"=Str.ofString "read"))=true:=by decide +kernel
theorem q3:(decide (Str.ofString "need"=Str.ofString "need") || decide (Str.ofString "read"=Str.ofString "need"))=true:=by decide +kernel
theorem q4:(decide (Str.ofString "need"=Str.ofString "note") || decide (Str.ofString "read"=Str.ofString "note"))=false:=by decide +kernel
theorem q5:(decide (Str.ofString "need"=Str.ofString "fail") || decide (Str.ofString "read"=Str.ofString "fail"))=false:=by decide +kernel
theorem qZ4 {r:D}(hr:RowF r){w0 w1 w2 a b c:Sl}{acc:List Str}(hl:acc.length≤100):bR [w0,w1,w2,.own (acc.map D.str),.im r,a,b,c]=.ok (.nx [w0,w1,w2,.own ((acc++(qBk r).toList).map D.str),.im r,a,b,c]):=by
 unfold bR
 simp only [ifF]
 have l2:(acc.map D.str).length < 1000:=by rw [List.length_map];omega
 have ap:∀ (r:D) (n:Str),qBc #[102] [w0,w1,w2,.own (acc.map D.str),.im r,a,b,c]=.ok (.str n)→
   qI2 3 (qBc #[102]) [w0,w1,w2,.own (acc.map D.str),.im r,a,b,c]=.ok (.nx [w0,w1,w2,.own ((acc++[n]).map D.str),.im r,a,b,c]):=fun r n e=>by
  rw [qF2 (i:=3) (ds:=acc.map D.str) (d:=.str n) rfl e #[0],List.map_append];rfl
 cases hr with
 | put _ _ _=>
  rw [qbh]
  push_cast only [ix0,qW7,q1,Bool.false_eq_true,Option.toList,List.append_nil]
 | @read f n o _ _ _=>
  have:=ap (.tup [.str "read",.str f,.str n,.str o]) n (by push_cast only [ix0,k4,ix2])
  rw [qVn]
  push_cast [ix0,qW7,q2]
  exact this
 | @need n _=>
  have:=ap (.tup [.str "need",.str n]) n (by push_cast only [ix0,k10,ix1])
  rw [qQ0]
  push_cast [ix0,qW7,q3]
  exact this
 | note _=>
  rw [qVo]
  push_cast only [ix0,qW7,q4,Bool.false_eq_true,Option.toList,List.append_nil]
 | fail _=>
  rw [qVp]
  push_cast only [ix0,qW7,q5,Bool.false_eq_true,Option.toList,List.append_nil]
theorem qO3 {w0 w1 w2 a b c:Sl}:∀ (rs:List D) (acc:List Str) (s4:Sl),(∀ r∈rs,RowF r)→acc.length + rs.length≤100→
  ∃ s4',qEv (qD6 4) bR rs [w0,w1,w2,.own (acc.map D.str),s4,a,b,c]=.ok (.nx [w0,w1,w2,.own ((acc++rs.filterMap qBk).map D.str),s4',a,b,c])
 | [],acc,s4,_,_=>⟨s4,by simp [qEv]⟩
 | r::rs,acc,s4,hr,hl=>by
  rw [List.length_cons] at hl
  have e0:qD6 4 r [w0,w1,w2,.own (acc.map D.str),s4,a,b,c]=.ok [w0,w1,w2,.own (acc.map D.str),.im r,a,b,c]:=rfl
  have e1:=qZ4 (hr r #[51]) (w0:=w0) (w1:=w1) (w2:=w2) (a:=a) (b:=b) (c:=c) (acc:=acc) #[0]
  have ht:(qBk r).toList.length≤1:=by cases qBk r <;> simp
  obtain ⟨s4',q⟩:=qO3 rs (acc++(qBk r).toList) (.im r) (fun r' h'=>hr r' (List.mem_cons_of_mem _ h')) (by rw [List.length_append];omega)
  refine ⟨s4',?_⟩
  unfold qEv
  simp only [e0,e1]
  rw [q,List.filterMap_cons]
  cases qBk r with
  | none=>simp only [Option.toList,List.append_nil]
  | some n=>simp only [Option.toList,List.append_assoc,List.cons_append,List.nil_append]
abbrev bN:qAi→Rs Fl:=qBb (qCk 7 (qAo qD1 3 (qAc #[2] (qAc (qAm ixW (var 1) #[11]) (qAc (var 6) qAz)))))
  (ifF (qUp (qAd (qAm qC3 (var 7) #[16]) W.bool) (qAd (qAm qE4 (var 7) (var 5)) W.bool)) (qI2 5 (qBc (var 7))) qCw)
theorem qLq {ls:List Ld}(h:WorldOk ls){x:Pa}(c:Cls ls x){w2 w3 w4:Sl}:∀ (ns:List Str) (S:List Pa) (a b:Sl),SOk ls S→
  ∃ a' b',qEv (qD6 6) bN (ns.map D.str) [.im #[1],.im #[3],w2,w3,w4,.own #[24],a,b]=.ok (.nx [.im #[1],.im #[3],w2,w3,w4,.own ((ns.foldl (qMj ls x) S).map unP),a',b'])
 | [],S,a,b,_=>⟨a,b,rfl⟩
 | n::ns,S,a,b,s=>by
  have hf:=qWv h c n
  have hf:qD1 [.im #[1],.im (.int x.1),.im (.str n)]=.ok (.im (opD (toN ls x n))):=hf
  obtain ⟨a',b',q⟩:=qLq h c (w2:=w2) (w3:=w3) (w4:=w4) ns (qMj ls x S n) (.im (.str n)) (.im (opD (toN ls x n))) (s.n h c n)
  refine ⟨a',b',?_⟩
  have e0:qD6 6 (.str n) [.im #[1],.im #[3],w2,w3,w4,.own #[24],a,b]=.ok [.im #[1],.im #[3],w2,w3,w4,.own #[24],.im (.str n),b]:=rfl
  have e2:bN [.im #[1],.im #[3],w2,w3,w4,.own #[24],.im (.str n),b]=.ok (.nx [.im #[1],.im #[3],w2,w3,w4,.own ((qMj ls x S n).map unP),.im (.str n),.im (opD (toN ls x n))]):=by
   unfold bN
   rw [qIa (δ':=[.im #[1],.im #[3],w2,w3,w4,.own #[24],.im (.str n),.im (opD (toN ls x n))]) (by push_cast only [qbb,hf])]
   unfold qMj
   simp only [ifF]
   cases toN ls x n with
   | none=>push_cast only [opD,Bool.false_eq_true]
   | some z=>
    have l1:=few h s.nd s.ok
    have hb:qAd (qAm qC3 (var 7) #[16]) W.bool [.im #[1],.im #[3],w2,w3,w4,.own #[24],.im (.str n),.im (unP z)]=.ok true:=by push_cast only [unP]
    have hn:=qJ1 (f:=false) S z
    have hb2:qAd (qAm qE4 (var 7) (var 5)) W.bool [.im #[1],.im #[3],w2,w3,w4,.own #[24],.im (.str n),.im (unP z)]=.ok (!decide (z∈S)):=by push_cast only [hn]
    show (qUp _ _ [.im #[1],.im #[3],w2,w3,w4,.own #[24],.im (.str n),.im (unP z)]>>=_)=_
    simp only [qUp,hb,hb2,okb,if_true]
    show _=Rs.ok (Fl.nx [.im #[1],.im #[3],w2,w3,w4,.own ((qYl S z).map unP),.im (.str n),.im (unP z)])
    by_cases hm:z∈S
    ·unfold qYl
     rw [if_pos hm]
     simp only [decide_eq_true hm,Bool.not_true,Bool.false_eq_true,if_false]
     exact rfl
    ·unfold qYl
     rw [if_neg hm]
     simp only [decide_eq_false hm,Bool.not_false,if_true]
     rw [qF2 (i:=5) (ds:=S.map unP) (d:=unP z) rfl rfl (by rw [List.length_map];omega),List.map_append];rfl
  rw [List.map_cons]
  unfold qEv
  simp only [e0,e2]
  exact q
theorem qGh {ls:List Ld}(h:WorldOk ls){x:Pa}(c:Cls ls x):qCe [.im #[1],.im #[3]]=.ok (.li true ((arr ls x).map unP)):=by
 obtain ⟨d,e1,e2,e3⟩:=qak h c
 obtain ⟨l,p,hl,hf,hp,hok⟩:=c.file h
 rw [←hp] at hok
 obtain ⟨r1,r2,r3⟩:=qPu hok
 have ea:=fA_str hok
 have er:=fR_str hok
 refine qAx ?_
 rcases e3 with rfl | ⟨a,b,rfl⟩
 ·refine qAs (b:=false) (δ:=[.im #[1],.im #[3],.un,.un,.un,.un,.un,.un]) (by push_cast only [e1]) #[14] #[47]
  refine qAq (δ':=[.im #[1],.im #[3],.im #[20],.un,.un,.un,.un,.un]) (by push_cast only [qG0 h c]) ?_
  refine qAq (δ':=[.im #[1],.im #[3],.im #[20],.own ((fA #[20]).toList.map D.str),.un,.un,.un,.un]) ?_ ?_
  ·cases e:fA #[20] with
   | none=>
    rw [e] at ea
    have ea:ixW (.im #[20]) (.im (.int 2))=.ok (.im .non):=ea
    have s0:slW (.li true [D.non]) none (some 0)=.ok (.li true []):=rfl
    push_cast only [ea,s0]
   | some s=>
    rw [e] at ea
    have ea:ixW (.im #[20]) (.im (.int 2))=.ok (.im (.str s)):=ea
    have s1:slW (.li true [D.str s]) none (some 1)=.ok (.li true [D.str s]):=rfl
    push_cast only [ea,s1]
  have ht:(fA #[20]).toList.length≤1:=by cases fA #[20] <;> simp
  obtain ⟨s4',q⟩:=qO3 (w0:=.im #[1]) (w1:=.im #[3]) (w2:=.im #[20]) (a:=.un) (b:=.un) (c:=.un) (fR #[20]) (fA #[20]).toList .un r2 #[0]
  have en:(fA #[20]).toList++(fR #[20]).filterMap qBk=(qDv #[20]).filterMap qBk:=by
   unfold qDv
   cases fA #[20] with
   | none=>rfl
   | some s=>rw [List.filterMap_append,List.filterMap_cons,qQ0];rfl
  rw [en] at q
  refine qAq (δ':=[.im #[1],.im #[3],.im #[20],.own (((qDv #[20]).filterMap qBk).map D.str),s4',.un,.un,.un]) ?_ ?_
  ·have eg:qAd (qAm ixW (var 2) #[53]) W.walkN [.im #[1],.im #[3],.im #[20],.own ((fA #[20]).toList.map D.str),.un,.un,.un,.un]=.ok (fR #[20]):=by push_cast only [er]
   simp only [qGi,eg,okb]
   exact q
  refine qAq (δ':=[.im #[1],.im #[3],.im #[20],.own (((qDv #[20]).filterMap qBk).map D.str),s4',.own (([]:List Pa).map unP),.un,.un]) #[18] ?_
  obtain ⟨a',b',q2⟩:=qLq h c (w2:=.im #[20]) (w3:=.im (.lst (((qDv #[20]).filterMap qBk).map D.str))) (w4:=s4') ((qDv #[20]).filterMap qBk) [] .un .un ⟨List.nodup_nil,fun z hz=>nomatch hz⟩
  rw [←qH3] at q2
  refine qAq (δ':=[.im #[1],.im #[3],.im #[20],.im (.lst (((qDv #[20]).filterMap qBk).map D.str)),s4',.own ((qeo ls x).map unP),a',b']) q2 ?_
  refine qAv (w:=.li true ((arr ls x).map unP)) ?_ rfl
  unfold arr
  rw [if_pos (e2.mp rfl)]
  push_cast only [okb]
 ·refine qAs (b:=true) (δ:=[.im #[1],.im #[3],.un,.un,.un,.un,.un,.un]) (by push_cast only [e1]) (fun _=>qBq (w:=.li true []) #[18] ?_) #[14]
  unfold arr
  rw [if_neg fun g=>by have:=e2.mpr g;cases this];rfl
abbrev tW:qAi→Rs Bool:=qAd (qAm ltW (var 3) (qAd (qAc (var 2) qAz) qIs)) W.bool
abbrev bL:qAi→Rs Fl:=qBb (qYk 2 #[113])
  (qCk 3 (qAm qCr (var 3) #[9]))
theorem qIh {ls:List Ld}(h:WorldOk ls){st:Pa→Prop}(s1:Sl)(hst:∀ y,st y→∀ z∈arr ls y,st z):∀ (n:Nat) (S:List Pa) (at_:Nat),SOk ls S→at_≤S.length→(∀ z∈S,st z)→(∀ y∈S.take at_,∀ z∈arr ls y,z∈S)→17≤n + at_→
  ∃ (S':List Pa),qCb tW bL n [.im #[1],s1,.own #[24],.im (.int (at_:Nat))]=.ok (.nx [.im #[1],s1,.own (S'.map unP),.im (.int (S'.length:Nat))])∧SOk ls S'∧(∀ z∈S,z∈S')∧(∀ z∈S',st z)∧∀ y∈S',∀ z∈arr ls y,z∈S'
 | 0,S,at_,s,hl,_,_,hn=>by
  have:=few h s.nd s.ok
  omega
 | n + 1,S,at_,s,hl,hs,hc,hn=>by
  have l1:=few h s.nd s.ok
  rcases Nat.lt_or_ge at_ S.length with g | g
  ·obtain ⟨y,hy⟩:∃ y,S[at_]?=some y:=⟨_,List.getElem?_eq_getElem g⟩
   have yS:y∈S:=List.mem_of_getElem? hy
   have hN:∀ z,z∈(arr ls y).filter (fun z=>!decide (z∈S))→z∈arr ls y∧z∉S:=fun z hz=>by
    obtain ⟨p,q⟩:=List.mem_filter.mp hz
    exact ⟨p,by simpa using q⟩
   have ao:=qQg h (s.ok y yS)
   have s':SOk ls (S++(arr ls y).filter (fun z=>!decide (z∈S))):=by
    refine ⟨?_,fun z hz=>?_⟩
    ·rw [List.nodup_append]
     exact ⟨s.nd,ao.nd.filter _,fun u hu w hw e=>(hN w hw).2 (e ▸ hu)⟩
    ·rcases List.mem_append.mp hz with z1 | z1
     ·exact s.ok z z1
     ·exact ao.ok z (hN z z1).1
   have l2:=few h s'.nd s'.ok
   obtain ⟨S',w1,w2,w3,w4,w5⟩:=qIh h s1 hst n (S++(arr ls y).filter (fun z=>!decide (z∈S))) (at_ + 1) s' (by rw [List.length_append];omega) (fun z hz=>by
    rcases List.mem_append.mp hz with z1 | z1
    ·exact hs z z1
    ·exact hst y (hs y yS) z (hN z z1).1) (fun u hu z hz=>by
    rw [List.take_append_of_le_length #[0],List.take_succ,hy] at hu
    rcases List.mem_append.mp hu with u1 | u1
    ·exact List.mem_append_left _ (hc u u1 z hz)
    ·have:u=y:=by simpa using u1
     subst this
     by_cases zS:z∈S
     ·exact List.mem_append_left _ zS
     ·exact List.mem_append_right _ (List.mem_filter.mpr ⟨hz,by simp [zS]⟩)) (by omega)
   refine ⟨S',?_,w2,fun z hz=>w3 z (List.mem_append_left _ hz),w4,w5⟩
   have t1:tW [.im #[1],s1,.own #[24],.im (.int (at_:Nat))]=.ok true:=by
    have:decide (((at_:Nat):Int) < ((S.length:Nat):Int))=true:=decide_eq_true #[0]
    push_cast [tW,List.length_map,this]
   refine qI6 t1 (δ2:=[.im #[1],s1,.own ((S++(arr ls y).filter (fun z=>!decide (z∈S))).map unP),.im (.int ((at_ + 1:Nat)))]) ?_ w1
   have hx:ixW (.li false #[24]) (.im (.int (at_:Nat)))=.ok (.im (unP y)):=qG2 rfl #[0] (by rw [Int.toNat_natCast,List.getElem?_map,hy];rfl)
   have eg:qAd (qAo qCe 2 (qAc #[2] (qAc (qAm ixW (var 2) (var 3)) qAz))) W.walk [.im #[1],s1,.own #[24],.im (.int (at_:Nat))]=.ok ((arr ls y).map unP):=by
    push_cast only [hx,qGh h (s.ok y yS)]
   have hc2:=qDt (δ:=[.im #[1],s1,.own #[24],.im (.int (at_:Nat))]) (t:=qAd (qAm qE4 #[2] (var 3)) W.bool) (el:=qBc #[2]) (xs:=arr ls y) unP (fun z=>!decide (z∈S)) unP (by have:=few h ao.nd ao.ok;omega) (fun z hz=>⟨by push_cast only [qJ1],fun _=>by push_cast only [okb]⟩)
   have ee:qYk 2 #[113] [.im #[1],s1,.own #[24],.im (.int (at_:Nat))]=.ok (.nx [.im #[1],s1,.own ((S++(arr ls y).filter (fun z=>!decide (z∈S))).map unP),.im (.int (at_:Nat))]):=by
    rw [qXu (i:=2) (ds:=S.map unP) (zs:=((arr ls y).filter (fun z=>!decide (z∈S))).map unP) rfl (by simp only [qB4,eg,okb,hc2]) (by rw [List.length_map,List.length_map];rw [List.length_append] at l2;omega),List.map_append];rfl
   unfold bL
   rw [qIa ee]
   push_cast only [okb]
  ·have e:at_=S.length:=by omega
   subst e
   rw [List.take_length] at hc
   refine ⟨S,qI7 ?_,s,fun z hz=>hz,hs,hc⟩
   have:decide (((S.length:Nat):Int) < ((S.length:Nat):Int))=false:=decide_eq_false #[0]
   push_cast [tW,List.length_map,this]
theorem qLp {ls:List Ld}(h:WorldOk ls){S:List Pa}(s:SOk ls S){f:Bool}:∃ R,SOk ls R∧(∀ z,z∈R ↔ ∃ x∈S,Rch (arr ls) x z)∧qFb [.im #[1],.li f #[24]]=.ok (.li true (R.map unP)):=by
 obtain ⟨R,w1,w2,w3,w4,w5⟩:=qIh h (st:=fun z=>∃ x∈S,Rch (arr ls) x z) (.rd #[24]) (fun y ⟨x,hx,r⟩ z hz=>⟨x,hx,.on r hz⟩) 1000 S 0 s #[50] (fun z hz=>⟨z,hz,.here⟩) (fun y hy=>nomatch hy) #[0]
 refine ⟨R,w2,fun z=>⟨w4 z,?_⟩,?_⟩
 ·rintro ⟨x,hx,r⟩
  induction r with
  | here=>exact w3 _ hx
  | on _ hz ih=>exact w5 _ ih _ hz
 ·refine qAx ?_
  refine qAq (δ:=[.im #[1],.rd #[24],.un,.un]) (δ':=[.im #[1],.rd #[24],.own #[24],.un]) rfl ?_
  refine qAq (δ':=[.im #[1],.rd #[24],.own #[24],.im (.int ((0:Nat)))]) #[18] ?_
  refine qAq w1 ?_
  exact qAv (w:=.li true (R.map unP)) #[18] rfl
theorem qT3 {ls:List Ld}(h:WorldOk ls){x:Pa}(c:Cls ls x):∃ R,R.Nodup∧(∀ z∈R,Cls ls z)∧(∀ z,z∈R ↔ Rch (arr ls) x z)∧qM4 [.im #[1],.im #[3]]=.ok (.li true ((qC2 R).map unP)):=by
 obtain ⟨R,r1,r2,r3,r4⟩:=qQ1 (gl:=qG9) (dw:=wdD ls) (x0:=x) (nx:=arr ls) (P:=Cls ls) (fun l hl hP=>few h hl hP)
  (fun y hy=>by unfold qG9;push_cast only [qFi h hy]) (fun y hy z hz=>(qQg h hy).ok z hz) c
 refine ⟨R,r1,r2,r3,qAx (qAv (w:=.li true ((qC2 R).map unP)) ?_ rfl)⟩
 have e:qAo qCi 2 #[42] [.im #[1],.im #[3]]=.ok (.im #[3]):=by push_cast only [qH7 h c]
 show (qAo qCi 2 #[42] [.im #[1],.im #[3]]>>=fun w=>qP6 fun f vw=>qE6 f vw qG9 [w,.im (.clo f vw #[1])])=_
 rw [e,PD.ok_bind,r4]
def qa9 (x0:Pa)(p:List Pa):List Pa→List Pa→List (List Pa)→Sum (List Pa) (List Pa×List (List Pa))
 | [],S,ws=>.inr (S,ws)
 | z::zs,S,ws=>if z=x0 then .inl (p++[z]) else if z∈S then qa9 x0 p zs S ws else qa9 x0 p zs (S++[z]) (ws++[p++[z]])
def wb (nx:Pa→List Pa)(x0:Pa):Nat→List Pa→List (List Pa)→Option (Option (List Pa))
 | 0,_,_=>none
 | _ + 1,_,[]=>some none
 | n + 1,S,p::ws=>match qa9 x0 p (nx (p.getLast?.getD x0)) S ws with
  | .inl L=>some (some L)
  | .inr q=>wb nx x0 n q.1 q.2
inductive Pt (nx:Pa→List Pa) (x0:Pa):List Pa→Pa→Prop
 | one:Pt nx x0 [x0] x0
 | on {p:List Pa} {y z:Pa} (h:Pt nx x0 p y) (hz:z∈nx y):Pt nx x0 (p++[z]) z
section
variable {nx:Pa→List Pa}{x0:Pa}
theorem Pt.last {p:List Pa}{y:Pa}(h:Pt nx x0 p y):p.getLast?=some y:=by
 cases h with
 | one=>rfl
 | on _ _=>exact List.getLast?_concat ..
theorem Pt.head {p:List Pa}{y:Pa}(h:Pt nx x0 p y):∃ r,p=x0::r:=by
 induction h with
 | one=>exact ⟨[],rfl⟩
 | on _ _ ih=>obtain ⟨r,rfl⟩:=ih;exact ⟨_,rfl⟩
theorem Pt.rch {p:List Pa}{y:Pa}(h:Pt nx x0 p y):Rch nx x0 y:=by
 induction h with
 | one=>exact .here
 | on _ hz ih=>exact .on ih hz
theorem Pt.zip {p:List Pa}{y:Pa}(h:Pt nx x0 p y):∀ q∈p.zip p.tail,q.2∈nx q.1:=by
 have key:∀ {p:List Pa} {y:Pa},Pt nx x0 p y→∃ r,p=r++[y]:=by
  intro p y h
  cases h with
  | one=>exact ⟨[],rfl⟩
  | on _ _=>exact ⟨_,rfl⟩
 have zz:∀ (r:List Pa) (y z:Pa),(r++[y]++[z]).zip (r++[y]++[z]).tail=(r++[y]).zip (r++[y]).tail++[(y,z)]:=by
  intro r
  induction r with
  | nil=>intro y z;rfl
  | cons a r ih=>
   intro y z
   cases r with
   | nil=>rfl
   | cons b r=>
    have:=ih y z
    simp only [List.cons_append,List.tail_cons,List.zip_cons_cons] at this ⊢
    rw [this]
 induction h with
 | one=>intro q hq;cases hq
 | on h hz ih=>
  obtain ⟨r,rfl⟩:=key h
  rw [zz]
  intro q hq
  rcases List.mem_append.mp hq with w | w
  ·exact ih q w
  ·rw [List.mem_singleton.mp w];exact hz
theorem qI8 {p:List Pa}:∀ (zs S:List Pa) (ws:List (List Pa)),S.Nodup→match qa9 x0 p zs S ws with
  | .inl L=>L=p++[x0]∧x0∈zs
  | .inr q=>x0∉zs∧∃ N,q=(S++N,ws++N.map fun z=>p++[z])∧(S++N).Nodup∧(∀ z∈N,z∈zs)∧∀ z∈zs,z∈S++N
 | [],S,ws,hn=>⟨by simp,[],by simp,by simpa using hn,by simp,by simp⟩
 | z::zs,S,ws,hn=>by
  unfold qa9
  by_cases h1:z=x0
  ·subst h1
   rw [if_pos rfl]
   exact ⟨rfl,List.mem_cons_self ..⟩
  ·rw [if_neg h1]
   by_cases h2:z∈S
   ·rw [if_pos h2]
    have:=qI8 (p:=p) zs S ws hn
    split at this
    ·rename_i L e;(try rw [e]);exact ⟨this.1,List.mem_cons_of_mem _ this.2⟩
    ·rename_i q e
     (try rw [e])
     obtain ⟨a1,N,a2,a3,a4,a5⟩:=this
     refine ⟨fun hm=>(List.mem_cons.mp hm).elim (fun q=>h1 q.symm) a1,N,a2,a3,fun y hy=>List.mem_cons_of_mem _ (a4 y hy),fun y hy=>?_⟩
     rcases List.mem_cons.mp hy with rfl | hy
     ·exact List.mem_append_left _ h2
     ·exact a5 y hy
   ·rw [if_neg h2]
    have hn':(S++[z]).Nodup:=by
     rw [List.nodup_append]
     exact ⟨hn,by simp,fun y hy w hw e=>by rw [List.mem_singleton.mp hw] at e;subst e;exact h2 hy⟩
    have:=qI8 (p:=p) zs (S++[z]) (ws++[p++[z]]) hn'
    split at this
    ·rename_i L e;(try rw [e]);exact ⟨this.1,List.mem_cons_of_mem _ this.2⟩
    ·rename_i q e
     (try rw [e])
     obtain ⟨a1,N,a2,a3,a4,a5⟩:=this
     refine ⟨fun hm=>(List.mem_cons.mp hm).elim (fun q=>h1 q.symm) a1,z::N,by rw [a2];simp,by rw [List.append_cons];exact a3,fun y hy=>?_,fun y hy=>?_⟩
     ·rcases List.mem_cons.mp hy with rfl | hy
      ·exact List.mem_cons_self ..
      ·exact List.mem_cons_of_mem _ (a4 y hy)
     ·rw [List.append_cons]
      rcases List.mem_cons.mp hy with rfl | hy
      ·exact List.mem_append_left _ (List.mem_append_right _ #[51])
      ·exact a5 y hy
structure WInv (nx:Pa→List Pa) (x0:Pa) (S:List Pa) (ws:List (List Pa)):Prop where
 nd:S.Nodup
 pt:∀ p∈ws,∃ y,Pt nx x0 p y∧(y=x0∨y∈S)
 rc:∀ z∈S,Rch nx x0 z
 cl:∀ y,(y=x0∨y∈S)→(∀ p∈ws,¬ Pt nx x0 p y)→x0∉nx y∧∀ z∈nx y,z∈S
theorem Pt.inj {p:List Pa}{y z:Pa}(h:Pt nx x0 p y)(h':Pt nx x0 p z):y=z:=by
 have:=h.last
 rw [h'.last] at this
 exact (Option.some.inj this).symm
theorem WInv.step {S:List Pa}{p:List Pa}{y:Pa}{ws:List (List Pa)}(i:WInv nx x0 S (p::ws))(hp:Pt nx x0 p y){N:List Pa}(h0:x0∉nx y)(hn:(S++N).Nodup)(h1:∀ z∈N,z∈nx y)(h2:∀ z∈nx y,z∈S++N):WInv nx x0 (S++N) (ws++N.map fun z=>p++[z]) where
 nd:=hn
 pt:=fun q hq=>by
  rcases List.mem_append.mp hq with w | w
  ·obtain ⟨v,a,b⟩:=i.pt q (List.mem_cons_of_mem _ w)
   exact ⟨v,a,b.imp id (List.mem_append_left _)⟩
  ·obtain ⟨z,hz,rfl⟩:=List.mem_map.mp w
   exact ⟨z,.on hp (h1 z hz),.inr (List.mem_append_right _ hz)⟩
 rc:=fun z hz=>by
  rcases List.mem_append.mp hz with w | w
  ·exact i.rc z w
  ·exact .on hp.rch (h1 z w)
 cl:=fun v hv hno=>by
  by_cases e:v=y
  ·subst e
   exact ⟨h0,h2⟩
  ·have hv':v=x0∨v∈S:=by
    rcases hv with w | w
    ·exact .inl w
    ·rcases List.mem_append.mp w with w | w
     ·exact .inr w
     ·exact absurd (.on hp (h1 v w)) (hno (p++[v]) (List.mem_append_right _ (List.mem_map.mpr ⟨v,w,rfl⟩)))
   obtain ⟨a,b⟩:=i.cl v hv' fun q hq=>by
    rcases List.mem_cons.mp hq with rfl | hq
    ·exact fun g=>e (g.inj hp)
    ·exact hno q (List.mem_append_left _ hq)
   exact ⟨a,fun z hz=>List.mem_append_left _ (b z hz)⟩
theorem wb_ok (few:∀ l:List Pa,l.Nodup→(∀ z∈l,Rch nx x0 z)→l.length≤16):∀ (n:Nat) (S:List Pa) (ws:List (List Pa)),WInv nx x0 S ws→(16 - S.length) + ws.length < n→
  (∃ L y,wb nx x0 n S ws=some (some (L++[x0]))∧Pt nx x0 L y∧x0∈nx y)∨(wb nx x0 n S ws=some none∧∀ y,Rch nx x0 y→x0∉nx y)
 | 0,_,_,_,h=>absurd h #[0]
 | n + 1,S,[],i,h=>by
  refine .inr ⟨rfl,fun y r=>?_⟩
  have:y=x0∨y∈S:=by
   induction r with
   | here=>exact .inl rfl
   | on _ hz ih=>exact .inr ((i.cl _ ih (fun p hp=>nomatch hp)).2 _ hz)
  exact (i.cl y this (fun p hp=>nomatch hp)).1
 | n + 1,S,p::ws,i,h=>by
  obtain ⟨y,hp,hy⟩:=i.pt p #[51]
  unfold wb
  rw [hp.last,Option.getD_some]
  have:=qI8 (x0:=x0) (p:=p) (nx y) S ws i.nd
  split at this
  ·rename_i L e
   (try rw [e])
   exact .inl ⟨p,y,by rw [this.1],hp,this.2⟩
  ·rename_i q e
   obtain ⟨a1,N,rfl,a3,a4,a5⟩:=this
   (try rw [e])
   have i2:=i.step hp a1 a3 a4 a5
   refine wb_ok few n _ _ i2 ?_
   have l1:=few _ i2.nd i2.rc
   simp only [List.length_append,List.length_map,List.length_cons] at l1 h ⊢
   omega
end
section
variable {f:Addr}{vw:V}{gl:qAi→Rs W}{dw:D}{x0:Pa}{nx:Pa→List Pa}{P:Pa→Prop}
abbrev waD (ws:List (List Pa)):List D:=ws.map fun p=>D.lst (p.map unP)
abbrev FW (x0:Pa)(f:Addr)(vw:V)(dw:D)(S:List Pa)(ws:List (List Pa))(a b:Sl):qAi:=[.im (unP x0),.im (.clo f vw dw),.dtt (S.map kv),.own (waD ws),a,b]
abbrev gA:qAi→Rs W:=qAm addL (var 4) (qAd (qAw #[34] qB9) qBt)
abbrev bV:qAi→Rs Fl:=qBb (ifF (qAd (qAm eqW (var 5) #[2]) W.bool) (qBw gA) qCw) (ifF (qGb (inJ 2 #[34])) (qBb (qT0 2 (cst (.bl true)) #[34]) (qI2 3 (qBc gA))) qCw)
theorem eq_unP (x y:Pa):eqW (.im #[3]) (.im (unP y))=.ok (.im (.bl (decide (x=y)))):=by
 show (if qA3 50 #[3]=true∧qA3 50 (unP y)=true then Rs.ok (W.im (D.bl (eqD #[3] (unP y)))) else Rs.no)=_
 rw [if_pos ⟨rfl,rfl⟩,qRk]
theorem qbw {S:List Pa}{ws:List (List Pa)}{p:List Pa}(hp:p.length≤2000)(z:Pa):gA #[64]=.ok (.li true ((p++[z]).map unP)):=by
 have:addL #[68] (.li true [unP z])=.ok (.li true ((p++[z]).map unP)):=by
  rw [List.map_append]
  exact if_pos (by rw [List.length_map];show _ + 1≤16777216;omega)
 unfold gA
 push_cast only [this]
theorem qMc (few:∀ l:List Pa,l.Nodup→(∀ z∈l,P z)→l.length≤16){p:List Pa}(hp:p.length≤2000):∀ (zs S:List Pa) (ws:List (List Pa)) (b:Sl),S.Nodup→(∀ z∈S,P z)→(∀ z∈zs,P z)→ws.length≤S.length→
  ∃ b',qEv (qD6 5) bV (zs.map unP) #[87]=match qa9 x0 p zs S ws with
   | .inl L=>.ok (.rt (.li true (L.map unP)))
   | .inr q=>.ok (.nx (FW x0 f vw dw q.1 q.2 #[68] b'))
 | [],S,ws,b,_,_,_,_=>⟨b,rfl⟩
 | z::zs,S,ws,b,hn,hS,hz,hW=>by
  have l1:=few S hn hS
  have e1:qD6 5 (unP z) #[87]=.ok #[64]:=rfl
  have e2:inJ 2 #[34] #[64]=.ok (decide (z∈S)):=by
   show Rs.ok (qF3 (S.map kv) (kC z)).isSome=_
   rw [qba]
  have e0:qAd (qAm eqW (var 5) #[2]) W.bool #[64]=.ok (decide (z=x0)):=by push_cast only [eq_unP]
  unfold qa9
  by_cases h1:z=x0
  ·rw [if_pos h1]
   refine ⟨b,?_⟩
   have e3:bV #[64]=.ok (.rt (.li true ((p++[z]).map unP))):=by
    simp only [qBb,ifF,e0,decide_eq_true h1,okb,if_true,qBw,qbw hp]
   rw [List.map_cons]
   unfold qEv
   simp only [e1,e3]
  ·rw [if_neg h1]
   have skip:∀ (k:qAi→Rs Fl),qBb (ifF (qAd (qAm eqW (var 5) #[2]) W.bool) (qBw gA) qCw) k #[64]=k #[64]:=fun k=>by
    refine qIa ?_
    simp only [ifF,e0,decide_eq_false h1,okb,Bool.false_eq_true,if_false]
   by_cases h2:z∈S
   ·rw [if_pos h2]
    obtain ⟨b',q1⟩:=qMc few hp zs S ws #[30] hn hS (fun y hy=>hz y (List.mem_cons_of_mem _ hy)) hW
    refine ⟨b',?_⟩
    have e3:bV #[64]=.ok (.nx #[64]):=by
     unfold bV
     rw [skip]
     simp only [ifF,qGb,e2,decide_eq_true h2,okb]
     exact rfl
    rw [List.map_cons]
    unfold qEv
    simp only [e1,e3]
    exact q1
   ·rw [if_neg h2]
    have hn':(S++[z]).Nodup:=by
     rw [List.nodup_append]
     exact ⟨hn,by simp,fun y hy w hw e=>by rw [List.mem_singleton.mp hw] at e;subst e;exact h2 hy⟩
    obtain ⟨b',q1⟩:=qMc few hp zs (S++[z]) (ws++[p++[z]]) #[30] hn' (fun y hy=>by
     rcases List.mem_append.mp hy with w | w
     ·exact hS y w
     ·rw [List.mem_singleton.mp w];exact hz z #[51]) (fun y hy=>hz y (List.mem_cons_of_mem _ hy)) (by simp only [List.length_append,List.length_singleton];omega)
    refine ⟨b',?_⟩
    have e3:qT0 2 (cst (.bl true)) #[34] #[64]=.ok (.nx (FW x0 f vw dw (S++[z]) ws #[68] #[30])):=by
     show (if (S.map kv).length < lim then Rs.ok (Fl.nx (#[64].set 2 (.dtt (qGt (S.map kv) (kC z) (.bl true))))) else Rs.no)=_
     rw [if_pos (show (S.map kv).length < lim by show _ < 16777216;rw [List.length_map];omega),qV1 h2]
     rfl
    have eg:qBc gA (FW x0 f vw dw (S++[z]) ws #[68] #[30])=.ok (.lst ((p++[z]).map unP)):=by
     simp only [qBc,qbw hp,okb]
     exact rfl
    have e4:qI2 3 (qBc gA) (FW x0 f vw dw (S++[z]) ws #[68] #[30])=.ok (.nx (FW x0 f vw dw (S++[z]) (ws++[p++[z]]) #[68] #[30])):=by
     have:=qF2 (i:=3) (δ:=FW x0 f vw dw (S++[z]) ws #[68] #[30]) (ds:=waD ws) (d:=.lst ((p++[z]).map unP)) rfl eg (by rw [List.length_map];omega)
     rw [this]
     simp only [FW,waD,List.map_append,List.map_cons,List.map_nil]
     rfl
    have e5:bV #[64]=.ok (.nx (FW x0 f vw dw (S++[z]) (ws++[p++[z]]) #[68] #[30])):=by
     unfold bV
     rw [skip]
     simp only [ifF,qGb,e2,decide_eq_false h2,okb,Bool.not_false,if_true]
     rw [qIa e3]
     exact e4
    rw [List.map_cons]
    unfold qEv
    simp only [e1,e5]
    exact q1
abbrev bY (f:Addr)(vw:V)(gl:qAi→Rs W):qAi→Rs Fl:=qBb (qV7 4 3) (qGi (qAd (qX4 1 f vw gl (qAm ixW (var 4) (qAd #[9] qWi))) W.walkN) (qD6 5) bV)
def wbE (x0:Pa)(f:Addr)(vw:V)(dw:D):Option (Option (List Pa))→Rs Fl→Prop
 | some (some L),r=>r=.ok (.rt (.li true (L.map unP)))
 | some none,r=>∃ S a b,r=.ok (.nx (FW x0 f vw dw S [] a b))
 | none,_=>True
theorem qce {t:qAi→Rs Bool}{b:qAi→Rs Fl}{n:Nat}{δ:qAi}{w:W}(h1:t δ=.ok true)(h2:b δ=.ok (.rt w)):qCb t b (n + 1) δ=.ok (.rt w):=by
 simp only [qCb,h1,okb,h2,if_true]
theorem qRu (few:∀ l:List Pa,l.Nodup→(∀ z∈l,P z)→l.length≤16)(hgl:∀ y,P y→gl [.im (unP y),.im dw]=.ok (.li true ((nx y).map unP)))(hnx:∀ y,P y→∀ z∈nx y,P z) :
  ∀ (n:Nat) (S:List Pa) (ws:List (List Pa)) (a b:Sl),S.Nodup→(∀ z∈S,P z)→ws.length≤S.length + 1→(∀ p∈ws,p≠[]∧P (p.getLast?.getD x0)∧p.length + n≤1001)→
  wbE x0 f vw dw (wb nx x0 n S ws) (qCb (qAd (var 3) W.tru) (bY f vw gl) n (FW x0 f vw dw S ws a b))
 | 0,_,_,_,_,_,_,_,_=>trivial
 | n + 1,S,[],a,b,_,_,_,_=>⟨S,a,b,qI7 (by rfl)⟩
 | n + 1,S,p::ws,a,b,hn,hS,hW,hp=>by
  obtain ⟨hne,hP,hl⟩:=hp p #[51]
  have l1:=few S hn hS
  generalize hy:p.getLast?.getD x0=y at hP
  have t1:qAd (var 3) W.tru (FW x0 f vw dw S (p::ws) a b)=.ok true:=rfl
  have p1:qV7 4 3 (FW x0 f vw dw S (p::ws) a b)=.ok (.nx #[87]):=rfl
  have hx:ixW #[68] (.im (.int (-1)))=.ok (.im (unP y)):=by
   rcases List.eq_nil_or_concat p with e | ⟨r,z,e⟩
   ·exact absurd e hne
   ·rw [List.concat_eq_append] at e
    subst e
    rw [List.getLast?_concat,Option.getD_some] at hy
    subst hy
    rw [List.map_append]
    exact qdu rfl #[7]
  have c1:qAd (qX4 1 f vw gl (qAm ixW (var 4) (qAd #[9] qWi))) W.walkN #[87]=.ok ((nx y).map unP):=by
   have e1:qAm ixW (var 4) (qAd #[9] qWi) #[87]=.ok (.im (unP y)):=by push_cast only [hx]
   have:qX4 1 f vw gl (qAm ixW (var 4) (qAd #[9] qWi)) #[87]=.ok (.li true ((nx y).map unP)):=by
    show (if f=f∧vw=vw then (qAm ixW (var 4) (qAd #[9] qWi) #[87]>>=fun w=>gl [w.slot,.im dw]) else Rs.no)=_
    rw [if_pos ⟨rfl,rfl⟩,e1,PD.ok_bind]
    exact hgl y hP
   simp only [qAd,this,okb]
   exact rfl
  rw [List.length_cons] at hW
  obtain ⟨b',q1⟩:=qMc (x0:=x0) (f:=f) (vw:=vw) (dw:=dw) few (p:=p) #[0] (nx y) S ws b hn hS (hnx y hP) #[0]
  have ok:=qI8 (x0:=x0) (p:=p) (nx y) S ws hn
  have body:bY f vw gl (FW x0 f vw dw S (p::ws) a b)=qEv (qD6 5) bV ((nx y).map unP) #[87]:=by
   unfold bY
   rw [qIa p1]
   simp only [qGi,c1,okb]
  rw [q1] at body
  unfold wb
  rw [hy]
  split at ok
  ·rename_i L e
   rw [e] at body
   (try rw [e])
   exact qce t1 body
  ·rename_i q e
   rw [e] at body
   (try rw [e])
   obtain ⟨a1,N,rfl,a3,a4,a5⟩:=ok
   have hr:=qRu few hgl hnx n (S++N) (ws++N.map fun z=>p++[z]) #[68] b' a3 (fun z hz=>by
    rcases List.mem_append.mp hz with w | w
    ·exact hS z w
    ·exact hnx y hP z (a4 z w)) (by simp only [List.length_append,List.length_map];omega) (fun r hr=>by
    rcases List.mem_append.mp hr with w | w
    ·obtain ⟨b1,b2,b3⟩:=hp r (List.mem_cons_of_mem _ w)
     exact ⟨b1,b2,by omega⟩
    ·obtain ⟨z,hz,rfl⟩:=List.mem_map.mp w
     refine ⟨by simp,?_,by rw [List.length_append];show _ + 1 + n≤_;omega⟩
     rw [List.getLast?_concat,Option.getD_some]
     exact hnx y hP z (a4 z hz))
   rw [qI6 t1 body rfl]
   exact hr
end
def wbR (ls:List Ld)(x:Pa):Option (List Pa):=(wb (arr ls) x 1000 [] [[x]]).getD none
def wW:Option (List Pa)→W
 | some L=>.li true (L.map unP)
 | none=>.im .non
theorem qVs {ls:List Ld}(h:WorldOk ls){x z:Pa}(c:Cls ls x)(r:Rch (arr ls) x z):Cls ls z:=by
 induction r with
 | here=>exact c
 | on _ hz ih=>exact (qQg h ih).ok _ hz
theorem qUx {ls:List Ld}(h:WorldOk ls){x:Pa}(c:Cls ls x):(∃ L y,wb (arr ls) x 1000 [] [[x]]=some (some (L++[x]))∧Pt (arr ls) x L y∧x∈arr ls y)∨(wb (arr ls) x 1000 [] [[x]]=some none∧∀ y,Rch (arr ls) x y→x∉arr ls y):=
 wb_ok (fun l hl hr=>few h hl fun z hz=>qVs h c (hr z hz)) 1000 [] [[x]] ⟨List.nodup_nil,fun p hp=>by rw [List.mem_singleton.mp hp];exact ⟨x,.one,.inl rfl⟩,(fun z hz=>nomatch hz),fun y hy hno=>by
  rcases hy with rfl | hy
  ·exact absurd .one (hno _ (List.mem_singleton.mpr rfl))
  ·cases hy⟩ (by show 16 - 0 + 1 < 1000;omega)
theorem qJq {ls:List Ld}(h:WorldOk ls){x:Pa}(c:Cls ls x):qC0 [.im #[1],.im #[3]]=.ok (wW (wbR ls x)):=by
 have one:∀ f vw,qFm f vw qEc [.im #[3],.im (.clo f vw #[1])]=.ok (wW (wbR ls x)):=by
  intro f vw
  have w:=qRu (x0:=x) (f:=f) (vw:=vw) (dw:=wdD ls) (gl:=qEc) (nx:=arr ls) (P:=Cls ls) (fun l hl hP=>few h hl hP) (fun y hy=>by unfold qEc;push_cast only [qFi h hy]) (fun y hy z hz=>(qQg h hy).ok z hz) 1000 [] [[x]] .un .un List.nodup_nil (fun z hz=>nomatch hz) #[7] (fun p hp=>by rw [List.mem_singleton.mp hp];exact ⟨by simp,c,by simp⟩)
  refine qAx ?_
  refine qAq (δ:=[.im #[3],.im (.clo f vw #[1]),.un,.un,.un,.un]) (δ':=[.im #[3],.im (.clo f vw #[1]),.dtt (([]:List Pa).map kv),.un,.un,.un]) rfl ?_
  refine qAq (δ':=FW x f vw #[1] [] [[x]] .un .un) #[18] ?_
  rcases qUx h c with ⟨L,y,e,_⟩ | ⟨e,_⟩
  ·rw [e] at w
   have er:wbR ls x=some (L++[x]):=by unfold wbR;rw [e];rfl
   rw [er]
   exact qMr w rfl
  ·rw [e] at w
   obtain ⟨S,a,b,w⟩:=w
   have er:wbR ls x=none:=by unfold wbR;rw [e];rfl
   rw [er]
   exact qAq w (qAv (w:=.im .non) #[18] rfl)
 refine qAx (qAv (w:=wW (wbR ls x)) ?_ rfl)
 show (var 1 [.im #[1],.im #[3]]>>=fun w=>qP6 fun f vw=>qFm f vw qEc [w,.im (.clo f vw #[1])])=_
 have e:var 1 [.im #[1],.im #[3]]=.ok (.im #[3]):=rfl
 rw [e,PD.ok_bind]
 exact qTa one
def Cb (ls:List Ld)(x:Pa):Prop:=∃ y,Rch (arr ls) x y∧x∈arr ls y
open Classical in
def cbB (ls:List Ld)(x:Pa):Bool:=decide (Cb ls x)
theorem Rch.tr {nx:Pa→List Pa}{x y z:Pa}(h:Rch nx x y)(h':Rch nx y z):Rch nx x z:=by
 induction h' with
 | here=>exact h
 | on _ hz ih=>exact .on ih hz
theorem Rch.first {nx:Pa→List Pa}{x y:Pa}(h:Rch nx x y):y=x∨∃ u∈nx x,Rch nx u y:=by
 induction h with
 | here=>exact .inl rfl
 | on r hz ih=>
  rcases ih with e | ⟨u,hu,q⟩
  ·rw [e] at hz;exact .inr ⟨_,hz,.here⟩
  ·exact .inr ⟨u,hu,.on q hz⟩
theorem cb_iff {ls:List Ld}{x:Pa}:Cb ls x ↔ ∃ y∈arr ls x,Rch (arr ls) y x:=by
 constructor
 ·rintro ⟨y,r,hx⟩
  rcases r.first with e | ⟨u,hu,q⟩
  ·rw [e] at hx;exact ⟨x,hx,.here⟩
  ·exact ⟨u,hu,.on q hx⟩
 ·rintro ⟨y,hy,r⟩
  cases r with
  | here=>exact ⟨x,.here,hy⟩
  | on r hz=>exact ⟨_,Rch.tr (.on .here hy) r,hz⟩
theorem qP3 {ls:List Ld}(h:WorldOk ls){x:Pa}(c:Cls ls x):qBr [.im #[1],.im #[3]]=.ok (.im (.bl (cbB ls x))):=by
 obtain ⟨R,s1,s2,s3⟩:=qLp h (qQg h c) (f:=true)
 have i:=qLu (f:=true) R x
 have e:decide (x∈R)=cbB ls x:=by
  unfold cbB
  exact decide_eq_decide.mpr ((s2 x).trans cb_iff.symm)
 rw [e] at i
 exact qAx (qAv (δ:=[.im #[1],.im #[3]]) (w:=.im (.bl (cbB ls x))) (by push_cast only [qGh h c,s3,i]) rfl)
open Classical in
theorem qMd {ls:List Ld}(h:WorldOk ls){x:Pa}(c:Cls ls x):(∃ L y,wbR ls x=some (L++[x])∧Pt (arr ls) x L y∧x∈arr ls y∧cbB ls x=true)∨(wbR ls x=none∧cbB ls x=false):=by
 rcases qUx h c with ⟨L,y,e,p,q⟩ | ⟨e,q⟩
 ·exact .inl ⟨L,y,by unfold wbR;rw [e];rfl,p,q,decide_eq_true ⟨y,p.rch,q⟩⟩
 ·exact .inr ⟨by unfold wbR;rw [e];rfl,decide_eq_false fun ⟨y,r,z⟩=>q y r z⟩
theorem qa8 {nx:Pa→List Pa}{x0:Pa}:∀ (n:Nat) (S:List Pa) (ws:List (List Pa)) (L:List Pa),S.Nodup→(∀ p∈ws,p.length + n≤1001)→wb nx x0 n S ws=some (some L)→L.length≤1001
 | 0,_,_,_,_,_,e=>by cases e
 | n + 1,S,[],L,_,_,e=>by cases (show some none=some (some L) from e)
 | n + 1,S,p::ws,L,hn,hp,e=>by
  have hl:=hp p #[51]
  unfold wb at e
  have ok:=qI8 (x0:=x0) (p:=p) (nx (p.getLast?.getD x0)) S ws hn
  cases q:qa9 x0 p (nx (p.getLast?.getD x0)) S ws with
  | inl M=>
   rw [q] at e ok
   obtain ⟨o1,_⟩:=ok
   have:M=L:=by simpa using e
   rw [←this,o1,List.length_append]
   show _ + 1≤_
   omega
  | inr r=>
   rw [q] at e ok
   obtain ⟨_,N,o1,o2,_⟩:=ok
   subst o1
   refine qa8 n _ _ L o2 (fun u hu=>?_) e
   rcases List.mem_append.mp hu with w | w
   ·have:=hp u (List.mem_cons_of_mem _ w);omega
   ·obtain ⟨z,_,rfl⟩:=List.mem_map.mp w
    rw [List.length_append]
    show _ + 1 + n≤_
    omega
theorem qcf {ls:List Ld}{x:Pa}{L:List Pa}(e:wbR ls x=some L):L.length≤1001:=by
 unfold wbR at e
 cases q:wb (arr ls) x 1000 [] [[x]] with
 | none=>rw [q] at e;cases e
 | some o=>
  rw [q] at e
  have e:o=some L:=e
  rw [e] at q
  exact qa8 1000 [] [[x]] L List.nodup_nil (fun p hp=>by rw [List.mem_singleton.mp hp];simp) q
theorem isnt_w (o:Option (List Pa)):qC3 (wW o) (.im .non)=.ok (.im (.bl o.isSome)):=by cases o <;> rfl
theorem qRv {ls:List Ld}(h:WorldOk ls){x:Pa}(c:Cls ls x):(wbR ls x).isSome=cbB ls x:=by
 rcases qMd h c with ⟨L,y,e,_,_,b⟩ | ⟨e,b⟩
 ·rw [e,b];rfl
 ·rw [e,b];rfl
theorem qNr {ls:List Ld}(h:WorldOk ls){So:List Pa}(eS:So=qC2 #[92])(hl:So.length≤16)(hcl:∀ x∈So,Cls ls x):qEj [.im #[1]]=.ok (.li true ((So.filter (cbB ls)).map unP)):=by
 have ec:=qRq h
 rw [←eS] at ec
 have hc:=qDt (δ:=[.im #[1]]) (t:=qAd (qAm qC3 (qAo qC0 2 (qAc (var 1) #[23])) #[16]) W.bool) (el:=qBc #[2]) (xs:=So) unP (cbB ls) unP #[0] (fun x hx=>by
  have r:=qJq h (hcl x hx)
  have i:=isnt_w (wbR ls x)
  rw [qRv h (hcl x hx)] at i
  refine ⟨?_,fun _=>by push_cast only [okb]⟩
  have e1:qAo qC0 2 (qAc (var 1) #[23]) [.im #[3],.im #[1]]=.ok (wW (wbR ls x)):=by push_cast only [r]
  have e2:qAm qC3 (qAo qC0 2 (qAc (var 1) #[23])) #[16] [.im #[3],.im #[1]]=.ok (.im (.bl (cbB ls x))):=by
   simp only [qAm,e1,okb,toW,cst,i]
  simp only [qAd,e2,okb,W.bool])
 have eg:qAd (qAo qGx 1 #[23]) W.walk [.im #[1]]=.ok (So.map unP):=by push_cast only [ec]
 refine qAx (qAv (δ:=[.im #[1]]) (w:=.li true ((So.filter (cbB ls)).map unP)) ?_ rfl)
 simp only [qB4,eg,okb,hc]
theorem qY5 {ls:List Ld}(h:WorldOk ls){x:Pa}(c:Cls ls x):∃ R:List Pa,(∀ z,z∈R ↔ Rch (arr ls) x z)∧qO1 [.im #[1],.im #[3]]=.ok (wW (R.findSome? (wbR ls))):=by
 obtain ⟨R,r1,r2,r3,r4⟩:=qT3 h c
 refine ⟨qC2 R,fun z=>qO0.trans (r3 z),qAx ?_⟩
 have hcl:∀ z∈qC2 R,Cls ls z:=fun z hz=>r2 z (qO0.mp hz)
 generalize qC2 R=R at r4 hcl
 let J:Nat→qAi→Prop:=fun i δ=>∃ a b,δ=[.im #[1],.im #[3],a,b]∧∀ z∈R.take i,wbR ls z=none
 refine qHq (δ:=[.im #[1],.im #[3],.un,.un]) (ds:=R.map unP) (fun f=>f=.rt (wW (R.findSome? (wbR ls)))) J (fun f e=>.inr ⟨_,e⟩) (by push_cast only [r4]) ⟨_,_,rfl,fun z hz=>by cases hz⟩ ?_ (fun f e=>e) ?_
 ·rintro i d _ hd ⟨a,b,rfl,hall⟩
  rw [List.getElem?_map] at hd
  obtain ⟨z,hz,rfl⟩:=Option.map_eq_some_iff.mp hd
  have hzR:=List.mem_of_getElem? hz
  refine ⟨[.im #[1],.im #[3],.im (unP z),b],rfl,?_⟩
  have r:=qJq h (hcl z hzR)
  rcases qMd h (hcl z hzR) with ⟨L,y,e,_⟩ | ⟨e,_⟩
  ·rw [e] at r
   have r:qC0 [.im #[1],.im (unP z)]=.ok (.li true ((L++[z]).map unP)):=r
   refine qAq (δ':=[.im #[1],.im #[3],.im (unP z),.own ((L++[z]).map unP)]) (by push_cast only [r]) ?_
   refine qDb (b:=true) #[18] (fun _=>qAv (w:=.li true ((L++[z]).map unP)) #[18] (.inr ?_)) #[14]
   have:R.findSome? (wbR ls)=some (L++[z]):=by
    have hi:i < R.length:=(List.getElem?_eq_some_iff.mp hz).1
    have e3:R=R.take i++z::R.drop (i + 1):=by
     rw [←(List.getElem?_eq_some_iff.mp hz).2,←List.drop_eq_getElem_cons hi,List.take_append_drop]
    rw [e3,List.findSome?_append,List.findSome?_cons,e]
    have:(R.take i).findSome? (wbR ls)=none:=List.findSome?_eq_none_iff.mpr hall
    rw [this];rfl
   rw [this];rfl
  ·rw [e] at r
   have r:qC0 [.im #[1],.im (unP z)]=.ok (.im .non):=r
   refine qAq (δ':=[.im #[1],.im #[3],.im (unP z),.im .non]) (by push_cast only [r]) ?_
   refine qDb (b:=false) #[18] #[14] (fun _=>⟨_,rfl,.inl ⟨_,rfl,_,_,rfl,fun w hw=>?_⟩⟩)
   rw [List.take_succ,hz] at hw
   rcases List.mem_append.mp hw with q | q
   ·exact hall w q
   ·have:w=z:=by simpa using q
    subst this;exact e
 ·rintro _ ⟨a,b,rfl,hall⟩
  rw [List.length_map,List.take_length] at hall
  rw [List.findSome?_eq_none_iff.mpr hall]
  exact qAv (w:=.im .non) #[18] rfl
theorem qQb {α:Type}(p:α→Bool):∀ (xs:List α),qHg (xs.map fun x=>D.bl (p x))=some (xs.map p)
 | []=>rfl
 | x::xs=>by
  have:=qQb p xs
  simp only [List.map_cons,qHg,this,Option.map_some]
theorem qer {α:Type}{gi:qAi→Rs (List D)}{el:qAi→Rs D}{δ:qAi}{xs:List α}(u:α→D)(p:α→Bool)(hg:gi δ=.ok (xs.map u))(hl:xs.length < 16777216)(h:∀ x∈xs,el (.im (u x)::δ)=.ok (.bl (p x))) :
  qAd (qAc (qB4 gi #[43] el) qAz) qb8 δ=.ok (.im (.bl (xs.any p))):=by
 have hc:=qDt (δ:=δ) (t:=fun _=>.ok true) (el:=el) (xs:=xs) u (fun _=>true) (fun x=>D.bl (p x)) hl (fun x hx=>⟨rfl,fun _=>h x hx⟩)
 rw [List.filter_eq_self.mpr fun _ _=>rfl] at hc
 simp only [qAd,qAc,qB4,qAz,hg,PD.ok_bind,hc,qb8,W.seq,qQb,List.any_map]
 rfl
theorem qP2 {el:qAi→Rs D}{δ:qAi}{α:Type}(u:α→D)(v:α→D×D)(r:α→D)(hu:∀ a,un2 (u a)=some (v a)):∀ (xs:List α),(∀ a∈xs,el (.im (v a).1::.im (v a).2::δ)=.ok (r a))→qDe #[43] el (xs.map u) δ=.ok (xs.map r)
 | [],_=>rfl
 | a::xs,h=>by
  rw [List.map_cons]
  unfold qDe
  rw [hu a]
  show (Rs.ok true>>=fun b=>if b=true then el (.im (v a).1::.im (v a).2::δ)>>=fun y=>qDe #[43] el (xs.map u) δ>>=fun r=>.ok (y::r) else qDe #[43] el (xs.map u) δ)=_
  rw [PD.ok_bind,if_pos rfl,h a #[51],PD.ok_bind,qP2 u v r hu xs fun b hb=>h b (List.mem_cons_of_mem _ hb)]
  rfl
theorem cut1 (d:D)(ds:List D):cut (d::ds) (some 1) none=ds:=by
 unfold cut
 show (List.drop (min 1 ds.length.succ) (d::ds)).take (ds.length.succ - min 1 ds.length.succ)=_
 have:min 1 ds.length.succ=1:=by omega
 rw [this,List.drop_one,List.tail_cons]
 exact List.take_of_length_le #[0]
theorem qcb (L M:List Pa):qa7 (L.map unP) (M.map unP)=(L.zip M).map fun q=>D.tup [unP q.1,unP q.2]:=by
 unfold qa7
 rw [List.zip_map,List.map_map]
 rfl
theorem qQ5 {w1 w2:W}(h:w1.dat=w2.dat)(f:qA3 50 w1.dat=true):neW w1 w2=.ok (.im (.bl false)):=by
 unfold neW
 rw [←h,if_pos ⟨f,f⟩,qNh 50 _ f];rfl
theorem ne_li {f g:Bool}(S:List Pa):neW (.li f #[24]) (.li g #[24])=.ok (.im (.bl false)):=qQ5 rfl (show qA3 50 (D.lst #[24])=true from qI1 48 S)
theorem ne_bl (b:Bool):neW (.im (.bl b)) (.im (.bl b))=.ok (.im (.bl false)):=qQ5 rfl rfl
theorem law_true (ns:List Int)(_:ns.length≤63):m_law [.im #[37]]=.ok (.im (.bl true)):=by
 refine qAx ?_
 obtain ⟨ss,es,hN⟩:=qWj (ns:=ns) (at_:=20) #[0]
 obtain ⟨ls,ew,h,hnm⟩:=qUw (ns:=ns) (at_:=100) (f:=false) #[0] hN (many:=3) (lg:=4) #[0] #[0] #[0] #[0]
 have hle:=h.le
 have ec:=qO6 h
 refine qAq (δ:=[.im #[37],.un,.un,.un,.un,.un,.un]) (by push_cast only [es]) ?_
 refine qAq (by push_cast only [ew]) ?_
 generalize eS:qC2 #[92]=So at ec
 have hSo:So.length≤16:=by
  have h1:=(qCt #[92]).length_eq
  have h2:=List.length_filter_le (isF ls) (prs ls ls.length)
  have h3:=qEh h ls.length
  rw [←eS]
  omega
 have hcl:∀ x∈So,Cls ls x:=fun x hx=>by
  rw [←eS] at hx
  have hx:=(qCt _).mem_iff.mp hx
  obtain ⟨h1,h2⟩:=List.mem_filter.mp hx
  obtain ⟨i,hi,e⟩:=qQ2 _ _ h1
  have e2:x.1.toNat=i:=by rw [e,Int.toNat_natCast]
  exact ⟨by rw [e2];exact e,by rw [e2];exact hi,by unfold isF at h2;exact of_decide_eq_true h2⟩
 let E:Sl→Sl→Sl→qAi:=fun a b c=>[.im #[37],.own #[17],.im #[1],.im (.lst (So.map unP)),a,b,c]
 refine qAq (δ':=E .un .un .un) (by push_cast only [E,ec]) ?_
 refine qAs (b:=false) ?_ #[14] #[47]
 ·have hc:=qDt (δ:=E .un .un .un) (t:=qAd (qAo qBr 2 (qAc (var 3) #[23])) W.tru) (el:=qBc #[2]) (xs:=So) unP (cbB ls) unP #[0] (fun x hx=>⟨by push_cast only [E,qP3 h (hcl x hx)],fun _=>by push_cast only [okb]⟩)
  have eg:qAd (var 3) W.walk (E .un .un .un)=.ok (So.map unP):=by push_cast only [E]
  have e1:qB4 (qAd (var 3) W.walk) (qAd (qAo qBr 2 (qAc (var 3) #[23])) W.tru) (qBc #[2]) (E .un .un .un)=.ok (.li true ((So.filter (cbB ls)).map unP)):=by
   simp only [qB4,eg,okb,hc]
  have e2:qAo qEj 1 (qAc (var 2) qAz) (E .un .un .un)=.ok (.li true ((So.filter (cbB ls)).map unP)):=by push_cast only [E,qNr h eS.symm hSo hcl]
  simp only [qAd,qAm,e1,e2,okb,ne_li,W.bool]
 refine qCl (Q1:=fun δ=>∃ a b c,δ=E a b c) ?_ ?_
 ·refine qEy (ds:=So.map unP) (fun _ δ=>∃ a b c,δ=E a b c) #[36] ⟨_,_,_,rfl⟩ ?_ (fun δ' hj=>⟨_,rfl,hj⟩)
  rintro i d _ hd ⟨a,b,c',rfl⟩
  obtain ⟨x,hx,rfl⟩:=List.mem_map.mp (List.mem_of_getElem? hd)
  have c:=hcl x hx
  refine ⟨E (.im #[3]) b c',rfl,?_⟩
  obtain ⟨R,r1,r2⟩:=qY5 h c
  obtain ⟨R',s1,s2,s3⟩:=qLp h (S:=[x]) (f:=true) ⟨by simp,fun z hz=>by rw [List.mem_singleton.mp hz];exact c⟩
  have s3:qFb [.im #[1],.li true [unP x]]=.ok (.li true (R'.map unP)):=s3
  have l2:=few h s1.nd s1.ok
  have mR:∀ z,z∈R ↔ z∈R':=fun z=>(r1 z).trans ⟨fun r=>(s2 z).mpr ⟨x,by simp,r⟩,fun q=>by
   obtain ⟨y,hy,r⟩:=(s2 z).mp q
   rw [List.mem_singleton.mp hy] at r;exact r⟩
  have an:∀ s5,qAd #[106] qb8 (E (.im #[3]) s5 (.own (R'.map unP)))=.ok (.im (.bl (R'.any (cbB ls)))):=fun s5=>
   qer unP (cbB ls) #[36] #[0] fun z hz=>by push_cast only [E,qP3 h (s1.ok z hz)]
  cases eT:R.findSome? (wbR ls) with
  | none=>
   rw [eT] at r2
   have r2:qO1 [.im #[1],.im #[3]]=.ok (.im .non):=r2
   have af:R'.any (cbB ls)=false:=by
    rw [List.any_eq_false]
    intro z hz
    have:=List.findSome?_eq_none_iff.mp eT z ((mR z).mpr hz)
    rw [←qRv h (s1.ok z hz),this]
    decide
   refine qAq (δ':=E (.im #[3]) (.im .non) c') (by push_cast only [E,r2]) ?_
   refine qAq (δ':=E (.im #[3]) (.im .non) (.own (R'.map unP))) (by push_cast only [E,s3]) ?_
   have an:=an (.im .non)
   rw [af] at an
   refine qAs (b:=false) ?_ #[14] #[47]
   ·have e1:qAm isW (var 5) #[16] (E (.im #[3]) (.im .non) (.own (R'.map unP)))=.ok (.im (.bl true)):=by push_cast only [E]
    have e2:notW (qAd #[106] qb8) (E (.im #[3]) (.im .non) (.own (R'.map unP)))=.ok (.im (.bl true)):=by
     simp only [notW,an,okb]
     exact rfl
    simp only [qAd,qAm] at e1 e2 ⊢
    simp only [e1,e2,okb,ne_bl,W.bool]
   ·exact qDb (b:=false) #[36] #[14] (fun _=>⟨_,rfl,_,rfl,_,_,_,rfl⟩)
  | some L=>
   rw [eT] at r2
   have r2:qO1 [.im #[1],.im #[3]]=.ok (.li true (L.map unP)):=r2
   obtain ⟨z,hz,ez⟩:=List.exists_of_findSome?_eq_some eT
   have hz':=(mR z).mp hz
   have cz:=s1.ok z hz'
   obtain ⟨L0,y,e,pt,hy,cb⟩:∃ L0 y,wbR ls z=some (L0++[z])∧Pt (arr ls) z L0 y∧z∈arr ls y∧cbB ls z=true:=by
    rcases qMd h cz with q | ⟨e,_⟩
    ·exact q
    ·rw [e] at ez;cases ez
   have hlL:=qcf ez
   rw [e] at ez
   cases ez
   have af:R'.any (cbB ls)=true:=List.any_eq_true.mpr ⟨z,hz',cb⟩
   have ptz:Pt (arr ls) z (L0++[z]) z:=.on pt hy
   obtain ⟨r0,e0⟩:=pt.head
   refine qAq (δ':=E (.im #[3]) (.own ((L0++[z]).map unP)) c') (by push_cast only [E,r2]) ?_
   refine qAq (δ':=E (.im #[3]) (.own ((L0++[z]).map unP)) (.own (R'.map unP))) (by push_cast only [E,s3]) ?_
   have an:=an (.own ((L0++[z]).map unP))
   rw [af] at an
   refine qAs (b:=false) ?_ #[14] #[47]
   ·have e1:qAm isW (var 5) #[16] #[109]=.ok (.im (.bl false)):=by push_cast only [E]
    have e2:notW (qAd #[106] qb8) #[109]=.ok (.im (.bl false)):=by
     simp only [notW,an,okb]
     exact rfl
    simp only [qAd,qAm] at e1 e2 ⊢
    simp only [e1,e2,okb,ne_bl,W.bool]
   refine qDb (b:=true) #[36] (fun _=>?_) #[14]
   have i0:ixW (.li false ((L0++[z]).map unP)) (.im (.int 0))=.ok #[30]:=qG2 rfl #[0] (by rw [e0];rfl)
   have i1:ixW (.li false ((L0++[z]).map unP)) (.im (.int (-1)))=.ok #[30]:=qdu rfl #[7]
   have nn:neW #[30] #[30]=.ok (.im (.bl false)):=qQ5 rfl rfl
   have ni:=qJ1 (f:=false) R' z
   rw [decide_eq_true hz'] at ni
   have ln:decide ((((L0++[z]).length:Nat):Int) < 2)=false:=decide_eq_false (by rw [e0];simp only [List.length_append,List.length_cons,List.length_nil];omega)
   refine qAs (b:=false) (by push_cast only [E,List.length_map,ln,i0,i1,nn,ni,Bool.false_eq_true]) #[14] #[47]
   refine qDb (b:=false) ?_ #[14] (fun _=>⟨_,rfl,_,rfl,_,_,_,rfl⟩)
   have tl:(L0++[z]).tail.map unP=cut ((L0++[z]).map unP) (some 1) none:=by
    rw [e0]
    show _=cut (unP z::(r0++[z]).map unP) (some 1) none
    rw [cut1];rfl
   have eg:qAd (qAc (var 5) (qAc (qD5 (var 5) (part #[9]) qC6) qAz)) zipA #[109]=.ok (((L0++[z]).zip (L0++[z]).tail).map fun q=>D.tup [unP q.1,unP q.2]):=by
    rw [←qcb,tl]
    push_cast only [E,slW]
   have hc:=qP2 (el:=qBc (qAm inW (var 1) (qAo qCe 2 (qAc (var 4) #[23])))) (δ:=E (.im #[3]) (.own ((L0++[z]).map unP)) (.own (R'.map unP))) (fun q:Pa×Pa=>D.tup [unP q.1,unP q.2]) (fun q=>(unP q.1,unP q.2)) (fun _=>D.bl true) (fun _=>rfl) ((L0++[z]).zip (L0++[z]).tail) fun q hq=>by
    have c1:Cls ls q.1:=by
     have hm:=(List.of_mem_zip hq).1
     have:∀ {p:List Pa} {y:Pa},Pt (arr ls) z p y→∀ u∈p,Cls ls u:=by
      intro p y hp
      induction hp with
      | one=>intro u hu;rw [List.mem_singleton.mp hu];exact cz
      | on hp hz ih=>
       intro u hu
       rcases List.mem_append.mp hu with w | w
       ·exact ih u w
       ·rw [List.mem_singleton.mp w];exact qVs h cz (.on hp.rch hz)
     exact this ptz _ hm
    have q2:=ptz.zip q hq
    have ii:=qLu (f:=true) (arr ls q.1) q.2
    rw [decide_eq_true q2] at ii
    push_cast only [E,qGh h c1,ii]
   have hlz:((L0++[z]).zip (L0++[z]).tail).length≤(L0++[z]).length:=by rw [List.length_zip];exact Nat.min_le_left _ _
   have hlim:(((L0++[z]).zip (L0++[z]).tail).map fun q:Pa×Pa=>D.tup [unP q.1,unP q.2]).length < lim:=by
    rw [List.length_map]
    show _ < 16777216
    omega
   have ea:qX1 (qAd (qAc (var 5) (qAc (qD5 (var 5) (part #[9]) qC6) qAz)) zipA) #[43] (qBc (qAm inW (var 1) (qAo qCe 2 (qAc (var 4) #[23])))) #[109]=.ok (.li true (((L0++[z]).zip (L0++[z]).tail).map fun _=>D.bl true)):=by
    simp only [qX1,eg,okb]
    unfold qPz
    rw [if_pos hlim,hc]
    rfl
   have at':qUq [.li true (((L0++[z]).zip (L0++[z]).tail).map fun _=>D.bl true)]=.ok Tr:=by
    have:=qTb (((L0++[z]).zip (L0++[z]).tail).map fun _=>D.non)
    rw [List.map_map] at this
    exact this
   simp only [qGb,qAd,qAc,qAz,ea,okb,at',W.tru]
   rfl
 ·rintro _ ⟨a,b,c,rfl⟩
  exact qAv #[36] rfl
end T09
namespace PD
open PySem PySem.Spec PyProof.Rows L2
theorem tab_mk {w:World}{K:PySem.W.Frag}{h:Heap}{mg:Str→Option Value}{x:Str}{d:Addr}{es:Array DictEntry}{n:Nat}{t:List (Str×Int)}(X:K.In h)(G:h.Ns mainGlobals mg)
  (a:PySem.W.nsIn K mainGlobals x=some (some (.ref d))) (l:K.lookup d=some ⟨.type "dict",none,.dict es n,#[]⟩) (kl:PySem.W.KeysLit w.params es.toList) (sy:(d == sysModules)=false) (tb:qa5 es.toList t):qev w K mg x t:=⟨d,es,n,PySem.W.mg_of X G a,l,kl,sy,tb⟩
theorem str_mk {K:PySem.W.Frag}{h:Heap}{mg:Str→Option Value}{x z:Str}{t:Tok}(X:K.In h)(G:h.Ns mainGlobals mg)(a:PySem.W.nsIn K mainGlobals x=some (some (.str z t))):∃ t,mg x=some (.str z t):=⟨t,PySem.W.mg_of X G a⟩
end PD
open PySem PySem.W PyProof.Rows
set_option hygiene false
local macro_rules | `(tactic| and_intros) => `(tactic| (refine' PD.has_mk KX G ?a ?l ?c ?k; (case a => k_is); (case l => k_is); (case c => k_is); (case k => k_is)))
local macro_rules | `(tactic| subst_eqs) => `(tactic| (refine PySem.W.mg_none_of KX G ?_; k_is))
local macro_rules | `(tactic| nofun) => `(tactic| exact ⟨by kernel_rfl, by kernel_rfl, by kernel_rfl, by kernel_rfl, by kernel_rfl, by kernel_rfl, by kernel_rfl, by kernel_rfl⟩)
theorem PySem.Challenge.cw_loaders_k09_whole_rings_holds : PySem.Challenge.rw_loaders_k09_whole_rings.Holds := by
 refine hd09 ?_
 k_fill
 refine PD.law_mk (l:=PySem.Challenge.rw_loaders_k09_whole_rings) (m:=T09.m_law) (k:=49) (x:="_law_script") rfl rfl ⟨rfl,by decide,by decide⟩ T09.law_true (fun w h Y=>PySem.W.km_in_of Y) (fun w=>by kernel_rfl) ?F
 case F=>
  intro w mg fa h KX G hmg
  have T:T09.Txt w (hd09.heap_39 w.params) mg:=by
   clear hmg
   constructor
   case b_all=>subst_eqs
   case b_any=>subst_eqs
   case b_bool=>subst_eqs
   case b_enumerate=>subst_eqs
   case b_int=>subst_eqs
   case b_isinstance=>subst_eqs
   case b_len=>subst_eqs
   case b_list=>subst_eqs
   case b_range=>subst_eqs
   case b_reversed=>subst_eqs
   case b_set=>subst_eqs
   case b_sorted=>subst_eqs
   case b_str=>subst_eqs
   case b_tuple=>subst_eqs
   case b_zip=>subst_eqs
   case g_LETTERS=>
    refine' PD.str_mk KX G ?a
    (case a=>k_is)
   case g_WORDS_BEHIND=>
    refine' PD.tab_mk KX G ?a ?l ?kl ?sy ?tb
    (case a=>k_is)
    (case l=>k_is)
    (case kl=>exact ⟨⟨_,_,rfl,rfl⟩,⟨_,_,rfl,rfl⟩,⟨_,_,rfl,rfl⟩,⟨_,_,rfl,rfl⟩,trivial⟩)
    (case sy=>decide)
    (case tb=>exact ⟨_,_,_,rfl,⟨_,rfl⟩,⟨_,rfl⟩,⟨_,_,_,rfl,⟨_,rfl⟩,⟨_,rfl⟩,⟨_,_,_,rfl,⟨_,rfl⟩,⟨_,rfl⟩,⟨_,_,_,rfl,⟨_,rfl⟩,⟨_,rfl⟩,rfl⟩⟩⟩⟩)
   case t_is_number=>and_intros
   case t_is_tuple=>and_intros
   case t_is_word=>and_intros
   case t_are_words=>and_intros
   case t_are_unlike=>and_intros
   case t_is_row=>and_intros
   case t_fits_above=>and_intros
   case t_are_faces=>and_intros
   case t_are_rows=>and_intros
   case t_is_file=>and_intros
   case t_names_on=>and_intros
   case t_is_shelf=>and_intros
   case t_is_loader=>and_intros
   case t_checked=>and_intros
   case t_line_to=>and_intros
   case t_found=>and_intros
   case t_filed=>and_intros
   case t_is_found=>and_intros
   case t_classes=>and_intros
   case t_is_class=>and_intros
   case t_class_in=>and_intros
   case t_checked_class=>and_intros
   case t_file_of=>and_intros
   case t_reached=>and_intros
   case t_way_back=>and_intros
   case t_names_above=>and_intros
   case t_fault_of_name=>and_intros
   case t_fault_above=>and_intros
   case t_fault=>and_intros
   case t_steps_of=>and_intros
   case t_name_needed=>and_intros
   case t_arrows_from=>and_intros
   case t_ring_at=>
    refine PD.hasL_mk KX G ?zl (by kernel_rfl)
    case zl=>
     refine' PD.has_mk KX G ?a ?l ?c ?k
     (case a=>k_is)
     (case l=>k_is)
     (case c=>k_is)
     (case k=>k_is)
   case t_needed=>
    refine PD.hasL_mk KX G ?zl (by kernel_rfl)
    case zl=>
     refine' PD.has_mk KX G ?a ?l ?c ?k
     (case a=>k_is)
     (case l=>k_is)
     (case c=>k_is)
     (case k=>k_is)
   case t_ring=>and_intros
   case t_all_rings=>and_intros
   case t_L_cell_at=>and_intros
   case t_L_mixed=>and_intros
   case t_L_word=>and_intros
   case t_L_names=>and_intros
   case t_L_row=>and_intros
   case t_L_file=>and_intros
   case t_L_world=>and_intros
   case t_L_line=>and_intros
   case t_L_on=>and_intros
   case t_L_find=>and_intros
   case t_L_file_of=>and_intros
   case t_L_classes=>and_intros
   case t_L_above=>and_intros
   case t_L_flaw=>and_intros
   case t_L_arrows=>and_intros
   case t_L_reach=>and_intros
   case t_L_comes_back=>and_intros
   case t_law=>and_intros
  exact PD.ok_of_fnD (base:=h) T.t_law hmg (fun f fd F base=>T09.ok_law T F) (fun _ _ _ _ _ _ u=>rfl)
end
