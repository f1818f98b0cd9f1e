import PyProof.Rows.All
import Wide.All
import OpenK.AllK
import Wide.FinOn
import HandS.Base
import HandS.Call
import HandS.List
import HandS.Dict
import HandS.Iter
import KE.GoesMore
import KE.GoesEnum
import HandS.ForMost
import HandS.Evl
import HandS.TupAny
import HandS.TupMul
import HandS.TupLe
import HandS.IsInst
import HandS.DictComp
import HandS.DictTup
import HandS.Conv
import KE.KDictList
import PyProof.DictMoreH
import HandS.ForExc
import PyProof.TupleOfSeq
import KE.SortData
import HandS.Deep
import HandS.ExcOwn
import HandS.ExcValue
import HandS.Style
import HandS.TupSets
import HandS.Walk
import HandS.DictSubView
import KE.KDictCopyH
import PyProof.CollectWalk
import KE.KDictZip
import PyProof.ReprRoads
import PyProof.ReprBulk
import HandS.Lambda
import HandS.EndTab
import HandS.ExcIs
import HandS.RaiseMore
import PyProof.CallFns
import KE.KDictPairs
import PyProof.ListNew
import HandS.TupLen
import KE.DataFind
import KE.KExcIs
import KE.OsGo
import HandS.ExcField
import HandS.ExcInit
import HandS.ForSpec
import PyProof.EqAt
import PyProof.EqKinds
import PyProof.TupleCall
import Open.SpecLaws
import KE.KDictOf
import HandS.TryOnly
import KE.DataEq
import HandS.Strs
import KE.DataMinMax
import PySem.Challenge.RW_movedround_k51_fair_tours_listed_and_cou
set_option Elab.async false
set_option linter.all false
set_option maxRecDepth 100000
set_option maxHeartbeats 3999999
namespace Mv
open PySem L2 PyProof.Rows PySem.Spec
def keyV : V → Bool
  | .int _ => true
  | .str _ => true
  | _ => false
def keyA (xs : List V) : Bool := !xs.isEmpty && xs.all keyV
def tupO (o : Obj) (xs : List V) : HO := if keyA xs = true then .tup xs else .frz o (.tup xs)
theorem tupO_key {o : Obj} {xs : List V} (h : keyA xs = true) : tupO o xs = .tup xs := if_pos h
theorem tupO_cases (o : Obj) (xs : List V) : tupO o xs = .tup xs ∨ tupO o xs = .frz o (.tup xs) := by
  unfold tupO
  split
  · exact .inl rfl
  · exact .inr rfl
theorem rdO {H : Hp} {a : Addr} {o : Obj} {xs : List V} (e : H a = some (tupO o xs)) : Rd H a (.tup xs) := by
  rcases tupO_cases o xs with q | q
  · exact .inl (e.trans (congrArg some q))
  · exact .inr ⟨o, e.trans (congrArg some q)⟩
theorem sqO {K : PySem.W.Frag} {H : Hp} {a : Addr} {o : Obj} {xs : List V} (e : H a = some (tupO o xs)) : SqT K H a xs := .inl (rdO e)
theorem okO {P : Program} {w : World} {H : Hp} {h : Heap} {a : Addr} {o : Obj} {xs : List V} {its : List Value} (z : xs.length ≤ sizeLine) (r : Vals xs its) (t : IsTup h a its.toArray) (e : h.get? a = some o) : ObjOk P w H h a (tupO o xs) := by
  rcases tupO_cases o xs with q | q
  · rw [q]; exact ⟨z, its, r, t⟩
  · rw [q]; exact ⟨e, z, its, r, t⟩
def TupA (G : Hp) (a : Addr) (xs : List V) : Prop := ∃ o : Obj, o.dict = none ∧ G a = some (tupO o xs)
theorem TupA.mono {G G' : Hp} {a : Addr} {xs : List V} (h : TupA G a xs) (e : ∀ a o, G a = some o → G' a = some o) : TupA G' a xs := by
  obtain ⟨o, n, h⟩ := h
  exact ⟨o, n, e _ _ h⟩
theorem TupA.sq {K : PySem.W.Frag} {G : Hp} {a : Addr} {xs : List V} (h : TupA G a xs) : SqT K G a xs := by
  obtain ⟨o, _, h⟩ := h
  exact sqO h
theorem TupA.new {H : Hp} {p : Addr} {xs : List V} {o : Obj} (n : o.dict = none) : TupA (upd H p (tupO o xs)) p xs := ⟨o, n, upd_same⟩
theorem TupA.key {G : Hp} {a : Addr} {xs : List V} (h : TupA G a xs) (k : keyA xs = true) : G a = some (.tup xs) := by
  obtain ⟨o, _, h⟩ := h
  rwa [tupO_key k] at h
theorem TupA.by {G G' : Hp} {a : Addr} {xs : List V} (h : TupA G a xs) (f : ∀ o, (o = .tup xs ∨ ∃ u, o = .frz u (.tup xs)) → G a = some o → G' a = some o) : TupA G' a xs := by
  obtain ⟨o, n, h⟩ := h
  exact ⟨o, n, f _ ((tupO_cases o xs).imp id fun e => ⟨o, e⟩) h⟩
theorem keyV_kk : ∀ (k : List L2.Key), (k.map kV).all keyV = true
  | [] => rfl
  | .inl _ :: k => keyV_kk k
  | .inr _ :: k => keyV_kk k
theorem keyV_ks {k : List L2.Key} (ne : k ≠ []) : keyA (k.map kV) = true := by
  unfold keyA
  rw [keyV_kk]
  cases k with
  | nil => exact (ne rfl).elim
  | cons _ _ => rfl
def SqK (K : PySem.W.Frag) : Bool → Hp → Addr → List V → Prop
  | true, H, a, xs => SqL K H a xs
  | false, H, a, xs => SqT K H a xs
def ItrK : Bool → Heap → Addr → Addr → Nat → Prop
  | true, h, it, a, i => h.IsListIter it a i
  | false, h, it, a, i => h.IsTupleIter it a i
def HasK : Bool → Heap → Addr → Array Value → Prop
  | true, h, a, xs => h.IsList a xs
  | false, h, a, xs => h.IsTuple a xs
def newK : Bool → Addr → Obj
  | true, a => { cls := .type "list_iterator", data := .fields #[.ref a, .int 0 0] }
  | false, a => { cls := .type "tuple_iterator", data := .fields #[.ref a, .int 0 0] }
theorem drawsK {prog : Program} {w : World} {A : Around} (k : Bool) (hh : A.handled = none) (it l : Addr) (hne : l ≠ it) (items : Array Value) :
    Draws prog w A it [it, l] items.size (fun i v => items[i]? = some v) (fun i h => ItrK k h it l i ∧ HasK k h l items) := by
  cases k with
  | true => exact Draws.list hh it l hne items
  | false => exact Draws.tuple hh it l hne items
theorem beginsK (k : Bool) (l : Addr) (items : Array Value) : Begins (.ref l) (newK k l) fun h => HasK k h l items := by
  cases k with
  | true => exact begins_list l items
  | false => exact begins_tuple l items
theorem itrK_new {k : Bool} {h : Heap} {it a : Addr} (e : h.get? it = some (newK k a)) : ItrK k h it a 0 := by
  cases k with
  | true => exact ⟨_, e, rfl, rfl⟩
  | false => exact ⟨_, e, rfl, rfl⟩
theorem ItrK.ob {k : Bool} {h : Heap} {it a : Addr} {i : Nat} (x : ItrK k h it a i) : ∃ o, h.get? it = some o ∧ ∀ v, o.data ≠ .cell v := by
  cases k with
  | true => obtain ⟨o, e, _, d⟩ := x; exact ⟨o, e, fun v q => by rw [d] at q; cases q⟩
  | false => obtain ⟨o, e, _, d⟩ := x; exact ⟨o, e, fun v q => by rw [d] at q; cases q⟩
theorem ItrK.at {k : Bool} {h h' : Heap} {it a : Addr} {i : Nat} (x : ItrK k h it a i) (e : ∀ o, h.get? it = some o → h'.get? it = some o) : ItrK k h' it a i := by
  cases k with
  | true => exact Heap.IsListIter.at x e
  | false => exact Heap.IsTupleIter.at x e
theorem HasK.lt {k : Bool} {h : Heap} {a : Addr} {xs : Array Value} (x : HasK k h a xs) : a < h.objs.size := by
  cases k with
  | true => obtain ⟨o, e, _⟩ := x; exact Heap.lt_size e
  | false => obtain ⟨o, e, _⟩ := x; exact Heap.lt_size e
section
variable {X : Cx} {pns : List (Addr × Obj)} {σ : L2.St} {H : Hp} {s : Shared} {a : Addr} {xs : List V} {k : Bool}
theorem seqK (I : Inv X pns σ H s) (h : SqK X.K k H a xs) : ∃ its : List Value, Vals xs its ∧ HasK k s.heap a its.toArray ∧ xs.length ≤ sizeLine := by
  cases k with
  | true => obtain ⟨its, rv, p, z⟩ := I.list h; exact ⟨its, rv, p.isList, z⟩
  | false => obtain ⟨its, rv, p, z⟩ := I.tuple h; exact ⟨its, rv, p, z⟩
theorem seqK_inj {ys : List V} (I : Inv X pns σ H s) (h : SqK X.K k H a xs) (h' : SqK X.K k H a ys) : xs = ys := by
  cases k with
  | true => exact I.list_inj h h'
  | false => exact I.tuple_inj h h'
end
def It3 (K : PySem.W.Frag) (k1 k2 k3 : Bool) (a b c : Addr) : It :=
  ⟨fun i H => ∃ (xs ys zs : List V) (x y z : V), SqK K k1 H a xs ∧ SqK K k2 H b ys ∧ SqK K k3 H c zs ∧ xs[i]? = some x ∧ ys[i]? = some y ∧ zs[i]? = some z,
    fun i H v H' => ∃ T x y z o, v = .ref T ∧ H T = none ∧ o.dict = none ∧ H' = upd H T (tupO o [x, y, z]) ∧ (∀ xs, SqK K k1 H a xs → xs[i]? = some x) ∧ (∀ ys, SqK K k2 H b ys → ys[i]? = some y) ∧ ∀ zs, SqK K k3 H c zs → zs[i]? = some z,
    fun i H => ∃ xs ys zs : List V, SqK K k1 H a xs ∧ SqK K k2 H b ys ∧ SqK K k3 H c zs ∧ i ≤ xs.length ∧ i ≤ ys.length ∧ i ≤ zs.length ∧ (i = xs.length ∨ i = ys.length ∨ i = zs.length)⟩
structure Sep3 (z TI TO i1 i2 i3 a b c : Addr) : Prop where
  sep : ZipSep3 z TI TO i1 i2 i3 [i1, a] [i2, b] [i3, c]
  n1 : a ≠ i1
  n2 : b ≠ i2
  n3 : c ≠ i3
theorem turn_zip3 {P : Program} {w : World} {K : PySem.W.Frag} {elts : List Expr} {kk : Nat} {tpos : Pos} {k1 k2 k3 : Bool} {a b c z TI TO i1 i2 i3 : Addr} (D : Sep3 z TI TO i1 i2 i3 a b c) :
    Turn P w K (.Tuple elts kk tpos) (It3 K k1 k2 k3 a b c) [z, TI, TO, i1, i2, i3] z (fun i h => IsZip h z TI TO .none ∧ IsTupOf3 h TI (.ref i1) (.ref i2) (.ref i3) ∧ (∃ x y u, IsTupOf3 h TO x y u) ∧ ItrK k1 h i1 a i ∧ ItrK k2 h i2 b i ∧ ItrK k3 h i3 c i) where
  mem := by simp
  obj := fun i h stz q hq => by
    obtain ⟨atZ, atI, ⟨x, y, u, atO⟩, h1, h2, h3⟩ := stz
    have altE : q = z ∨ q = TI ∨ q = TO ∨ q = i1 ∨ q = i2 ∨ q = i3 := by simpa using hq
    rcases altE with e | e | e | e | e | e
    · rw [e]; exact ⟨_, atZ, fun v q => nomatch q⟩
    · rw [e]; exact ⟨_, atI, fun v q => nomatch q⟩
    · rw [e]; exact ⟨_, atO, fun v q => nomatch q⟩
    · rw [e]; exact h1.ob
    · rw [e]; exact h2.ob
    · rw [e]; exact h3.ob
  keep := fun i h h' stz k => by
    obtain ⟨atZ, atI, ⟨x, y, u, atO⟩, h1, h2, h3⟩ := stz
    exact ⟨k z (by simp) _ atZ, k TI (by simp) _ atI, ⟨x, y, u, k TO (by simp) _ atO⟩, h1.at fun o q => k i1 (by simp) o q, h2.at fun o q => k i2 (by simp) o q, h3.at fun o q => k i3 (by simp) o q⟩
  item := by
    intro X ofP ofW ofK hc i pns s σ H E I hf stz hg
    subst ofP ofW ofK
    obtain ⟨atZ, atI, ⟨x0, y0, u0, atO⟩, h1, h2, h3⟩ := stz
    obtain ⟨xs, ys, zs, x, y, u, q1, q2, q3, hx, hy, hu⟩ := hg
    obtain ⟨t1, r1, p1, _⟩ := seqK I q1
    obtain ⟨t2, r2, p2, _⟩ := seqK I q2
    obtain ⟨t3, r3, p3, _⟩ := seqK I q3
    obtain ⟨v1, e1, w1⟩ := r1.get hx
    obtain ⟨v2, e2, w2⟩ := r2.get hy
    obtain ⟨v3, e3, w3⟩ := r3.get hu
    have hh : X.A.in1.handled = none := I.ok.hd hc
    have ltZ : z < s.heap.objs.size := Heap.lt_size atZ
    refine wpAny_pyNext_zipD3_item D.sep (drawsK k1 hh i1 a D.n1 t1.toArray) (drawsK k2 hh i2 b D.n2 t2.toArray) (drawsK k3 hh i3 c D.n3 t3.toArray) atZ atI atO ⟨h1, p1⟩ ⟨h2, p2⟩ ⟨h3, p3⟩
      (by have := (List.getElem?_eq_some_iff.mp e1).1; simpa using this) (by have := (List.getElem?_eq_some_iff.mp e2).1; simpa using this) (by have := (List.getElem?_eq_some_iff.mp e3).1; simpa using this)
      fun y1 y2 y3 h' tk g1 g2 g3 hz' hTO' sA s2 s3 hT hsz hk => ?_
    have f1 : y1 = v1 := by
      have : t1[i]? = some y1 := by simpa using g1
      rw [e1] at this; exact (Option.some.inj this).symm
    have f2 : y2 = v2 := by
      have : t2[i]? = some y2 := by simpa using g2
      rw [e2] at this; exact (Option.some.inj this).symm
    have f3 : y3 = v3 := by
      have : t3[i]? = some y3 := by simpa using g3
      rw [e3] at this; exact (Option.some.inj this).symm
    subst f1 f2 f3
    refine ⟨_, rfl, wpAny_letOwnedTupleGo_zip (s := { s with heap := h', toks := tk }) hz' fun heapB hz'' sb => ?_⟩
    have hT2 : heapB.get? s.heap.objs.size = some { cls := .type "tuple", data := .seq #[y1, y2, y3] } := (sb.2 _ (Nat.ne_of_gt ltZ)).trans hT
    have fresh_ : ObjOk X.prog X.w (upd H s.heap.objs.size (tupO { cls := .type "tuple", data := .seq #[y1, y2, y3] } [x, y, u])) heapB s.heap.objs.size (tupO { cls := .type "tuple", data := .seq #[y1, y2, y3] } [x, y, u]) :=
      okO (by show 3 ≤ sizeLine; decide) (.cons w1 (.cons w2 (.cons w3 .nil))) (its := [y1, y2, y3]) ⟨_, hT2, rfl, _, rfl⟩ hT2
    have invA : Inv X pns σ (upd H s.heap.objs.size (tupO { cls := .type "tuple", data := .seq #[y1, y2, y3] } [x, y, u])) { s with heap := heapB, toks := tk } :=
      I.turnedNew (t' := tk) (ch := [z, TI, TO, i1, i2, i3]) (fun c o hb q => (sb.2 c (fun q' => hb (by simp [q']))).trans (hk c o (fun q' => hb (by simp [q'])) (fun q' => hb (by simp [q'])) (fun q' => hb (by simp [q'])) (fun q' => hb (by simp [q'])) (fun q' => hb (by simp [q'])) q)) hf (Nat.le_refl _) fresh_
    have S := D.sep
    refine ⟨.ref s.heap.objs.size, _, invA, rfl, ⟨_, x, y, u, _, rfl, I.hok.fresh (Nat.le_refl _), rfl, rfl, fun l hl => by rw [seqK_inj I hl q1]; exact hx, fun l hl => by rw [seqK_inj I hl q2]; exact hy, fun l hl => by rw [seqK_inj I hl q3]; exact hu⟩, ⟨hz'', ?_, ⟨y1, y2, y3, ?_⟩, ?_, ?_, ?_⟩, fun c among => ?_⟩
    · exact (sb.2 _ S.TIz).trans (hk _ _ S.TIz S.TITO S.TIi1 S.TIi2 S.TIi3 atI)
    · exact (sb.2 _ S.TOz).trans hTO'
    · exact sA.1.at fun o q => (sb.2 _ (fun e => S.zf1 (by rw [← e]; exact S.mem1))).trans q
    · exact s2.1.at fun o q => (sb.2 _ (fun e => S.zf2 (by rw [← e]; exact S.mem2))).trans q
    · exact s3.1.at fun o q => (sb.2 _ (fun e => S.zf3 (by rw [← e]; exact S.mem3))).trans q
    · have ltC : c < s.heap.objs.size := by
        have altE : c = z ∨ c = TI ∨ c = TO ∨ c = i1 ∨ c = i2 ∨ c = i3 := by simpa using among
        rcases altE with q | q | q | q | q | q
        · rw [q]; exact ltZ
        · rw [q]; exact Heap.lt_size atI
        · rw [q]; exact Heap.lt_size atO
        · rw [q]; obtain ⟨_, e1, _⟩ := h1.ob; exact Heap.lt_size e1
        · rw [q]; obtain ⟨_, e2, _⟩ := h2.ob; exact Heap.lt_size e2
        · rw [q]; obtain ⟨_, e3, _⟩ := h3.ob; exact Heap.lt_size e3
      rw [upd_ne (Nat.ne_of_lt ltC)]
      exact (hf c among).1
  done := by
    intro X ofP ofW ofK hc i pns s σ H E I hf stz hg
    subst ofP ofW ofK
    obtain ⟨atZ, atI, ⟨x0, y0, u0, atO⟩, h1, h2, h3⟩ := stz
    obtain ⟨xs, ys, zs, q1, q2, q3, l1, l2, l3, he⟩ := hg
    obtain ⟨t1, r1, p1, _⟩ := seqK I q1
    obtain ⟨t2, r2, p2, _⟩ := seqK I q2
    obtain ⟨t3, r3, p3, _⟩ := seqK I q3
    have hh : X.A.in1.handled = none := I.ok.hd hc
    have m1 := r1.length
    have m2 := r2.length
    have m3 := r3.length
    have z1 : t1.toArray.size = t1.length := List.size_toArray
    have z2 : t2.toArray.size = t2.length := List.size_toArray
    have z3 : t3.toArray.size = t3.length := List.size_toArray
    refine wpAny_pyNext_zipD3_end D.sep (drawsK k1 hh i1 a D.n1 t1.toArray) (drawsK k2 hh i2 b D.n2 t2.toArray) (drawsK k3 hh i3 c D.n3 t3.toArray) atZ atI atO ⟨h1, p1⟩ ⟨h2, p2⟩ ⟨h3, p3⟩
      (by omega) (by omega) (by omega) (by omega) fun h' tk hk => ⟨rfl, I.turnedL (t' := tk) (ch := [z, TI, TO, i1, i2, i3]) (fun c o hb q =>
      hk c o (fun q' => hb (by simp [q'])) (fun q' => hb (by simp [q'])) (fun q' => hb (by simp [q'])) (fun q' => hb (by simp [q'])) (fun q' => hb (by simp [q'])) q) hf⟩
  self := fun A i s Q E stz h => wpAny_pyIter_zip stz.1 h
def iZip3 (K : PySem.W.Frag) (k1 k2 k3 : Bool) (ta : TA) : TI := fun σ H Rq => ta σ H fun vs H1 => ∃ a b c xs ys zs, vs = [.ref a, .ref b, .ref c] ∧ SqK K k1 H1 a xs ∧ SqK K k2 H1 b ys ∧ SqK K k3 H1 c zs ∧ Rq (It3 K k1 k2 k3 a b c) H1
theorem pi_zip3 (k1 k2 k3 : Bool) {X : Cx} {e e2 e3 : Expr} {ta : TA} {p pos tpos : Pos} {elts : List Expr} {kk : Nat} (hg : Gl X "zip") (hm : X.mg "zip" = none) (ha : PA X [e, e2, e3] ta)
    (hs : starEach [e, e2, e3] X.env = (false, eval e X.env) :: starEach [e2, e3] X.env := by rfl) (plain_ : (backTo pos (starEach [e2, e3] X.env)).any (·.1) = false := by rfl) :
    PI X (.Tuple elts kk tpos) (.Call (.Name "zip" p) [e, e2, e3] [] pos) (iZip3 X.K k1 k2 k3 ta) := by
  refine ⟨fun pns s σ H Rq I h => ?_⟩
  refine Call_ (ld_blt I hg hm PyProof.Rows.boot_zip (PyProof.Rows.callWith_type1 (thn (ha.run pos pns s σ H _ I h) fun uz sA ⟨vs, H1, invA, r1, q1⟩ => ?_) hs plain_))
  obtain ⟨a, b, c, xs, ys, zs, ex, sx, sy, hqz, q⟩ := q1
  subst ex
  cases r1 with
  | cons r rr =>
    cases rr with
    | cons r' rr =>
      cases rr with
      | cons r'' rr =>
        cases rr
        cases r
        cases r'
        cases r''
        have allNew6 : ∀ c, c ∈ [sA.heap.objs.size + 5, sA.heap.objs.size + 3, sA.heap.objs.size + 4, sA.heap.objs.size, sA.heap.objs.size + 1, sA.heap.objs.size + 2] → FpOk X pns H1 c := fun c among => by
          have altE : c = sA.heap.objs.size + 5 ∨ c = sA.heap.objs.size + 3 ∨ c = sA.heap.objs.size + 4 ∨ c = sA.heap.objs.size ∨ c = sA.heap.objs.size + 1 ∨ c = sA.heap.objs.size + 2 := by simpa using among
          have geC : sA.heap.objs.size ≤ c := by
            rcases altE with z | z | z | z | z | z
            · rw [z]; exact (Nat.le_add_right _ _)
            · rw [z]; exact (Nat.le_add_right _ _)
            · rw [z]; exact (Nat.le_add_right _ _)
            · rw [z]; exact Nat.le_refl _
            · rw [z]; exact (Nat.le_add_right _ _)
            · rw [z]; exact (Nat.le_add_right _ _)
          exact invA.fpOk geC (invA.hok.fresh geC)
        obtain ⟨t1, r1, p1, _⟩ := seqK invA sx
        obtain ⟨t2, r2, p2, _⟩ := seqK invA sy
        obtain ⟨t3, r3, p3, _⟩ := seqK invA hqz
        have n1 := p1.lt
        have n2 := p2.lt
        have n3 := p3.lt
        refine zip_begins3 (beginsK k1 a t1.toArray) (beginsK k2 b t2.toArray) (beginsK k3 c t3.toArray) p1 p2 p3 fun h' atZ atI atO e1 e2 e3 hsz hk => wpAny_pyIter_zip atZ ?_
        have invB : Inv X pns σ H1 { sA with heap := h' } := invA.kept (t' := sA.toks) hk
        have D : Sep3 (sA.heap.objs.size + 5) (sA.heap.objs.size + 3) (sA.heap.objs.size + 4) sA.heap.objs.size (sA.heap.objs.size + 1) (sA.heap.objs.size + 2) a b c :=
          ⟨zip_sep3 (by simpa using n1) (by simpa using n2) (by simpa using n3), Nat.ne_of_lt n1, Nat.ne_of_lt (Nat.lt_add_right 1 n2), Nat.ne_of_lt (Nat.lt_add_right 2 n3)⟩
        exact ⟨sA.heap.objs.size + 5, [sA.heap.objs.size + 5, sA.heap.objs.size + 3, sA.heap.objs.size + 4, sA.heap.objs.size, sA.heap.objs.size + 1, sA.heap.objs.size + 2], _, _, H1, rfl, invB, turn_zip3 D, ⟨atZ, atI, ⟨_, _, _, atO⟩, itrK_new e1, itrK_new e2, itrK_new e3⟩, allNew6, q⟩
def It2 (K : PySem.W.Frag) (k1 k2 : Bool) (a b : Addr) : It :=
  ⟨fun i H => ∃ (xs ys : List V) (x y : V), SqK K k1 H a xs ∧ SqK K k2 H b ys ∧ xs[i]? = some x ∧ ys[i]? = some y,
    fun i H v H' => ∃ T x y o, v = .ref T ∧ H T = none ∧ o.dict = none ∧ H' = upd H T (tupO o [x, y]) ∧ (∀ xs, SqK K k1 H a xs → xs[i]? = some x) ∧ (∀ ys, SqK K k2 H b ys → ys[i]? = some y),
    fun i H => ∃ xs ys : List V, SqK K k1 H a xs ∧ SqK K k2 H b ys ∧ i ≤ xs.length ∧ i ≤ ys.length ∧ (i = xs.length ∨ i = ys.length)⟩
structure Sep2Z (z TI TO i1 i2 a b : Addr) : Prop where
  sep : ZipSep2 z TI TO i1 i2 [i1, a] [i2, b]
  n1 : a ≠ i1
  n2 : b ≠ i2
theorem turn_zip2k {P : Program} {w : World} {K : PySem.W.Frag} {elts : List Expr} {kk : Nat} {tpos : Pos} {k1 k2 : Bool} {a b z TI TO i1 i2 : Addr} (D : Sep2Z z TI TO i1 i2 a b) :
    Turn P w K (.Tuple elts kk tpos) (It2 K k1 k2 a b) [z, TI, TO, i1, i2] z (fun i h => IsZip h z TI TO .none ∧ IsTupOf2 h TI (.ref i1) (.ref i2) ∧ (∃ x y, IsTupOf2 h TO x y) ∧ ItrK k1 h i1 a i ∧ ItrK k2 h i2 b i) where
  mem := by simp
  obj := fun i h stz q hq => by
    obtain ⟨atZ, atI, ⟨x, y, atO⟩, h1, h2⟩ := stz
    have altE : q = z ∨ q = TI ∨ q = TO ∨ q = i1 ∨ q = i2 := by simpa using hq
    rcases altE with e | e | e | e | e
    · rw [e]; exact ⟨_, atZ, fun v q => nomatch q⟩
    · rw [e]; exact ⟨_, atI, fun v q => nomatch q⟩
    · rw [e]; exact ⟨_, atO, fun v q => nomatch q⟩
    · rw [e]; exact h1.ob
    · rw [e]; exact h2.ob
  keep := fun i h h' stz k => by
    obtain ⟨atZ, atI, ⟨x, y, atO⟩, h1, h2⟩ := stz
    exact ⟨k z (by simp) _ atZ, k TI (by simp) _ atI, ⟨x, y, k TO (by simp) _ atO⟩, h1.at fun o q => k i1 (by simp) o q, h2.at fun o q => k i2 (by simp) o q⟩
  item := by
    intro X ofP ofW ofK hc i pns s σ H E I hf stz hg
    subst ofP ofW ofK
    obtain ⟨atZ, atI, ⟨x0, y0, atO⟩, h1, h2⟩ := stz
    obtain ⟨xs, ys, x, y, q1, q2, hx, hy⟩ := hg
    obtain ⟨t1, r1, p1, _⟩ := seqK I q1
    obtain ⟨t2, r2, p2, _⟩ := seqK I q2
    obtain ⟨v1, e1, w1⟩ := r1.get hx
    obtain ⟨v2, e2, w2⟩ := r2.get hy
    have hh : X.A.in1.handled = none := I.ok.hd hc
    have ltZ : z < s.heap.objs.size := Heap.lt_size atZ
    refine wpAny_pyNext_zipD2_item D.sep (drawsK k1 hh i1 a D.n1 t1.toArray) (drawsK k2 hh i2 b D.n2 t2.toArray) atZ atI atO ⟨h1, p1⟩ ⟨h2, p2⟩
      (by have := (List.getElem?_eq_some_iff.mp e1).1; simpa using this) (by have := (List.getElem?_eq_some_iff.mp e2).1; simpa using this)
      fun y1 y2 h' tk g1 g2 hz' hTO' sA s2 hT hsz hk => ?_
    have f1 : y1 = v1 := by
      have : t1[i]? = some y1 := by simpa using g1
      rw [e1] at this; exact (Option.some.inj this).symm
    have f2 : y2 = v2 := by
      have : t2[i]? = some y2 := by simpa using g2
      rw [e2] at this; exact (Option.some.inj this).symm
    subst f1 f2
    refine ⟨_, rfl, wpAny_letOwnedTupleGo_zip (s := { s with heap := h', toks := tk }) hz' fun heapB hz'' sb => ?_⟩
    have hT2 : heapB.get? s.heap.objs.size = some { cls := .type "tuple", data := .seq #[y1, y2] } := (sb.2 _ (Nat.ne_of_gt ltZ)).trans hT
    have fresh_ : ObjOk X.prog X.w (upd H s.heap.objs.size (tupO { cls := .type "tuple", data := .seq #[y1, y2] } [x, y])) heapB s.heap.objs.size (tupO { cls := .type "tuple", data := .seq #[y1, y2] } [x, y]) :=
      okO (by show 2 ≤ sizeLine; decide) (.cons w1 (.cons w2 .nil)) (its := [y1, y2]) ⟨_, hT2, rfl, _, rfl⟩ hT2
    have invA : Inv X pns σ (upd H s.heap.objs.size (tupO { cls := .type "tuple", data := .seq #[y1, y2] } [x, y])) { s with heap := heapB, toks := tk } :=
      I.turnedNew (t' := tk) (ch := [z, TI, TO, i1, i2]) (fun c o hb q => (sb.2 c (fun q' => hb (by simp [q']))).trans (hk c o (fun q' => hb (by simp [q'])) (fun q' => hb (by simp [q'])) (fun q' => hb (by simp [q'])) (fun q' => hb (by simp [q'])) q)) hf (Nat.le_refl _) fresh_
    have S := D.sep
    refine ⟨.ref s.heap.objs.size, _, invA, rfl, ⟨_, x, y, _, rfl, I.hok.fresh (Nat.le_refl _), rfl, rfl, fun l hl => by rw [seqK_inj I hl q1]; exact hx, fun l hl => by rw [seqK_inj I hl q2]; exact hy⟩, ⟨hz'', ?_, ⟨y1, y2, ?_⟩, ?_, ?_⟩, fun c among => ?_⟩
    · exact (sb.2 _ S.TIz).trans (hk _ _ S.TIz S.TITO S.TIi1 S.TIi2 atI)
    · exact (sb.2 _ S.TOz).trans hTO'
    · exact sA.1.at fun o q => (sb.2 _ (fun e => S.zf1 (by rw [← e]; exact S.mem1))).trans q
    · exact s2.1.at fun o q => (sb.2 _ (fun e => S.zf2 (by rw [← e]; exact S.mem2))).trans q
    · have ltC : c < s.heap.objs.size := by
        have altE : c = z ∨ c = TI ∨ c = TO ∨ c = i1 ∨ c = i2 := by simpa using among
        rcases altE with q | q | q | q | q
        · rw [q]; exact ltZ
        · rw [q]; exact Heap.lt_size atI
        · rw [q]; exact Heap.lt_size atO
        · rw [q]; obtain ⟨_, e1, _⟩ := h1.ob; exact Heap.lt_size e1
        · rw [q]; obtain ⟨_, e2, _⟩ := h2.ob; exact Heap.lt_size e2
      rw [upd_ne (Nat.ne_of_lt ltC)]
      exact (hf c among).1
  done := by
    intro X ofP ofW ofK hc i pns s σ H E I hf stz hg
    subst ofP ofW ofK
    obtain ⟨atZ, atI, ⟨x0, y0, atO⟩, h1, h2⟩ := stz
    obtain ⟨xs, ys, q1, q2, l1, l2, he⟩ := hg
    obtain ⟨t1, r1, p1, _⟩ := seqK I q1
    obtain ⟨t2, r2, p2, _⟩ := seqK I q2
    have hh : X.A.in1.handled = none := I.ok.hd hc
    have m1 := r1.length
    have m2 := r2.length
    have z1 : t1.toArray.size = t1.length := List.size_toArray
    have z2 : t2.toArray.size = t2.length := List.size_toArray
    refine wpAny_pyNext_zipD2_end D.sep (drawsK k1 hh i1 a D.n1 t1.toArray) (drawsK k2 hh i2 b D.n2 t2.toArray) atZ atI atO ⟨h1, p1⟩ ⟨h2, p2⟩
      (by omega) (by omega) (by omega) fun h' tk hk => ⟨rfl, I.turnedL (t' := tk) (ch := [z, TI, TO, i1, i2]) (fun c o hb q =>
      hk c o (fun q' => hb (by simp [q'])) (fun q' => hb (by simp [q'])) (fun q' => hb (by simp [q'])) (fun q' => hb (by simp [q'])) q) hf⟩
  self := fun A i s Q E stz h => wpAny_pyIter_zip stz.1 h
def iZip2 (K : PySem.W.Frag) (k1 k2 : Bool) (ta : TA) : TI := fun σ H Rq => ta σ H fun vs H1 => ∃ a b xs ys, vs = [.ref a, .ref b] ∧ SqK K k1 H1 a xs ∧ SqK K k2 H1 b ys ∧ Rq (It2 K k1 k2 a b) H1
theorem pi_zip2 (k1 k2 : Bool) {X : Cx} {e e2 : Expr} {ta : TA} {p pos tpos : Pos} {elts : List Expr} {kk : Nat} (hg : Gl X "zip") (hm : X.mg "zip" = none) (ha : PA X [e, e2] ta)
    (hs : starEach [e, e2] X.env = (false, eval e X.env) :: starEach [e2] X.env := by rfl) (plain_ : (backTo pos (starEach [e2] X.env)).any (·.1) = false := by rfl) :
    PI X (.Tuple elts kk tpos) (.Call (.Name "zip" p) [e, e2] [] pos) (iZip2 X.K k1 k2 ta) := by
  refine ⟨fun pns s σ H Rq I h => ?_⟩
  refine Call_ (ld_blt I hg hm PyProof.Rows.boot_zip (PyProof.Rows.callWith_type1 (thn (ha.run pos pns s σ H _ I h) fun uz sA ⟨vs, H1, invA, r1, q1⟩ => ?_) hs plain_))
  obtain ⟨a, b, xs, ys, ex, sx, sy, q⟩ := q1
  subst ex
  cases r1 with
  | cons r rr =>
    cases rr with
    | cons r' rr =>
      cases rr
      cases r
      cases r'
      have allNew : ∀ c, c ∈ [sA.heap.objs.size + 4, sA.heap.objs.size + 2, sA.heap.objs.size + 3, sA.heap.objs.size, sA.heap.objs.size + 1] → FpOk X pns H1 c := fun c among => by
        have altE : c = sA.heap.objs.size + 4 ∨ c = sA.heap.objs.size + 2 ∨ c = sA.heap.objs.size + 3 ∨ c = sA.heap.objs.size ∨ c = sA.heap.objs.size + 1 := by simpa using among
        have geC : sA.heap.objs.size ≤ c := by
          rcases altE with z | z | z | z | z
          · rw [z]; exact (Nat.le_add_right _ _)
          · rw [z]; exact (Nat.le_add_right _ _)
          · rw [z]; exact (Nat.le_add_right _ _)
          · rw [z]; exact Nat.le_refl _
          · rw [z]; exact (Nat.le_add_right _ _)
        exact invA.fpOk geC (invA.hok.fresh geC)
      obtain ⟨t1, r1, p1, _⟩ := seqK invA sx
      obtain ⟨t2, r2, p2, _⟩ := seqK invA sy
      have n1 := p1.lt
      have n2 := p2.lt
      refine zip_begins2 (beginsK k1 a t1.toArray) (beginsK k2 b t2.toArray) p1 p2 fun h' atZ atI atO e1 e2 hsz hk => wpAny_pyIter_zip atZ ?_
      have invB : Inv X pns σ H1 { sA with heap := h' } := invA.kept (t' := sA.toks) hk
      have D : Sep2Z (sA.heap.objs.size + 4) (sA.heap.objs.size + 2) (sA.heap.objs.size + 3) sA.heap.objs.size (sA.heap.objs.size + 1) a b :=
        ⟨zip_sep2 (by simpa using n1) (by simpa using n2), Nat.ne_of_lt n1, Nat.ne_of_lt (Nat.lt_add_right 1 n2)⟩
      exact ⟨sA.heap.objs.size + 4, [sA.heap.objs.size + 4, sA.heap.objs.size + 2, sA.heap.objs.size + 3, sA.heap.objs.size, sA.heap.objs.size + 1], _, _, H1, rfl, invB, turn_zip2k D, ⟨atZ, atI, ⟨_, _, atO⟩, itrK_new e1, itrK_new e2⟩, allNew, q⟩
end Mv
namespace Mv
open PySem PySem.Spec PyProof.Rows L2 HT
section
variable {X : Cx} {pins : List (Addr × Obj)} {σ : L2.St} {H : Hp} {s : Shared} {xs : List V} {its : List Value}
theorem laidT (I : Inv X pins σ H s) (z : xs.length ≤ sizeLine) (r : Vals xs its) :
    Inv X pins σ (upd H s.heap.objs.size (tupO { cls := .type "tuple", data := .seq its.toArray } xs)) { s with heap := s.heap.push { cls := .type "tuple", data := .seq its.toArray } } :=
  I.laid (t' := s.toks) (fun b u e => Heap.get?_push_of_some _ e) (Nat.le_refl _) (okO z r (IsTup.new _ _) (Heap.get?_push_size _ rfl))
end
section
variable {X : Cx} {es : List Expr} {t : TA} {pos : Pos}
def tTup (t : TA) : TE := fun σ H Q => t σ H fun xs H1 => xs.length ≤ sizeLine ∧ ∀ p o, H1 p = none → o.dict = none → Q (.ref p) (upd H1 p (tupO o xs))
theorem pe_tup {x1} (h : PA X es t) : PE X (.Tuple es x1 pos) (tTup t) := by
  constructor
  intro pns s σ H Q I hq
  refine wpAny_Tuple_spliced (thn (h.run pos pns s σ H _ I hq) ?_)
  rintro us s1 ⟨xs, H1, J, rv, room, done⟩
  refine ⟨by rw [← rv.length]; exact room, .ref s1.heap.objs.size, _, laidT J room rv, rfl, done _ _ (J.hok.fresh (Nat.le_refl _)) rfl⟩
def rSlA (K : PySem.W.Frag) : V → Option Int → Option Int → Hp → VK → Prop := fun x lo hi H Q => ∃ a xs, x = .ref a ∧ SqT K H a xs ∧
  (sIx xs.length 0 lo = 0 ∧ sIx xs.length xs.length hi = xs.length → Q (.ref a) H) ∧ (¬ (sIx xs.length 0 lo = 0 ∧ sIx xs.length xs.length hi = xs.length) → ∀ p o, H p = none → o.dict = none → Q (.ref p) (upd H p (tupO o (cutV xs lo hi))))
theorem sl_tupA : SlR X (rSlA X.K) := by
  intro pins; intro s σ H x v vl vu lo hi sl Q I rx hs pl pu h
  obtain ⟨a, xs, rfl, hx, all_, part_⟩ := h
  cases rx
  by_cases whole : sIx xs.length 0 lo = 0 ∧ sIx xs.length xs.length hi = xs.length
  · exact L2.sl_tupA pins s σ H (.ref a) (.ref a) vl vu lo hi sl Q I rfl hs pl pu ⟨a, xs, rfl, hx, all_, fun z => absurd whole z⟩
  · obtain ⟨its, rv, tt, room⟩ := I.tuple hx
    have le : its.toArray.size = xs.length := by rw [List.size_toArray]; exact rv.length.symm
    refine ⟨"tuple", _, PyProof.Rows.slot_tuple_getitem.lookup, tt.typeIs, getItem_tuple_cut tt hs pl pu (by rw [le]; exact whole) ?_ (by rw [le]; exact room)⟩
    rw [le]
    exact ⟨.ref s.heap.objs.size, _, laidT I (Nat.le_trans (cutV_length xs lo hi) room) ((rv.drop (sIx xs.length 0 lo)).take (sIx xs.length xs.length hi - sIx xs.length 0 lo)), rfl, part_ whole _ _ (I.hok.fresh (Nat.le_refl _)) rfl⟩
def rCatA (K : PySem.W.Frag) : R2 := fun x y H Q => ∃ a b xs ys, x = .ref a ∧ y = .ref b ∧ SqT K H a xs ∧ SqT K H b ys ∧ xs.length + ys.length ≤ sizeLine ∧
  (xs = [] → Q (.ref b) H) ∧ (xs ≠ [] → ys = [] → Q (.ref a) H) ∧ (xs ≠ [] → ys ≠ [] → ∀ p o, H p = none → o.dict = none → Q (.ref p) (upd H p (tupO o (xs ++ ys))))
theorem op_catA : OpR X (binaryOp .Add) (rCatA X.K) := by
  intro pins; intro s σ H x y v u Q I rx ry h
  obtain ⟨a, b, xs, ys, rfl, rfl, ha, hb, room, e0, e1, e2⟩ := h
  by_cases hx : xs = []
  · exact L2.op_catA pins s σ H _ _ v u Q I rx ry ⟨a, b, xs, ys, rfl, rfl, ha, hb, room, e0, e1, fun z => absurd hx z⟩
  · cases rx
    cases ry
    obtain ⟨as, r1, p1, _⟩ := I.tuple ha
    obtain ⟨bs, r2, p2, _⟩ := I.tuple hb
    refine cat_tup p1 p2 (fun z => hx (r1.nil_iff.mp z)) (fun z => ⟨.ref a, H, I, rfl, e1 hx (r2.nil_iff.mp z)⟩) (fun z => ?_) (by rw [← r1.length, ← r2.length]; exact room)
    exact ⟨.ref s.heap.objs.size, _, laidT I (by rw [List.length_append]; exact room) (r1.append r2), rfl, e2 hx (fun w => z (r2.nil_iff.mpr w)) _ _ (I.hok.fresh (Nat.le_refl _)) rfl⟩
abbrev rTupOf (K : PySem.W.Frag) : List V → Hp → VK → Prop := fun xs H Q => ∃ p ys, xs = [.ref p] ∧ ((SqL K H p ys ∧ ∀ l o, H l = none → o.dict = none → Q (.ref l) (upd H l (tupO o ys))) ∨ (SqT K H p ys ∧ Q (.ref p) H))
theorem call_tuple_of : CallR X (.type "tuple") (rTupOf X.K) := by
  intro pins; intro s σ H xs us Q I r h
  obtain ⟨p, ys, rfl, ⟨hq, q⟩ | ⟨hq, q⟩⟩ := h
  · cases r with
    | cons rx rn =>
      cases rn
      cases rx
      obtain ⟨its, rv, pl, room⟩ := I.list hq
      have le := rv.length
      refine call_tuple_list pl.isList (fun h' kp => ?_) (by rw [List.size_toArray]; omega)
      have J : Inv X pins σ H { s with heap := h' } := I.kept (t' := s.toks) kp
      exact ⟨.ref h'.objs.size, _, laidT J room rv, rfl, q _ _ (J.hok.fresh (Nat.le_refl _)) rfl⟩
  · exact L2.call_tupleT pins s σ H _ us Q I r ⟨p, ys, rfl, hq, q⟩
theorem op_repO {pins : List (Addr × Obj)} {s : Shared} {σ : L2.St} {H : Hp} {l : Addr} {k : Int} {t : Tok} {xs : List V} {Q : V → Hp → Prop} (I : Inv X pins σ H s) (hT : SqT X.K H l xs) (hne : xs ≠ []) (h1 : 2 ≤ k) (h2 : k ≤ 1000) (hz : xs.length ≤ 1000)
    (q : ∀ p o, H p = none → o.dict = none → Q (.ref p) (upd H p (tupO o (List.replicate k.toNat xs).flatten))) : wpAny (model X.prog X.w) X.A (binaryOp .Mult (.ref l) (.int k t)) (EP X pins σ Q) X.xe s := by
  obtain ⟨its, r, ⟨⟨cls, dd, data, sl⟩, ho, hc, n, hd⟩, _⟩ := I.tuple hT
  simp only at hc hd
  subst hc hd
  have le : its.length = xs.length := r.length.symm
  have many : k.toNat * xs.length ≤ 1000 * 1000 := Nat.mul_le_mul (by omega) hz
  have some_ : its.toArray.isEmpty = false := by
    cases its with
    | nil => exact absurd (List.eq_nil_of_length_eq_zero le.symm) hne
    | cons _ _ => rfl
  have size_ : its.toArray.size = xs.length := by rw [List.size_toArray, le]
  have few : ((its.toArray.size : Nat) : Int) * k ≤ 1000000 := by
    rw [size_]
    have := Int.mul_le_mul_of_nonneg_right (a := ((xs.length : Nat) : Int)) (b := 1000) (c := k) (by omega) (by omega)
    omega
  have room : (List.replicate k.toNat its).flatten.length ≤ sizeLine := by rw [PyProof.Rows.lm_len_rep_flat, le, sizeLine_eq]; omega
  have d0 : (decide (k < -(2 ^ 63)) || decide (k ≥ 2 ^ 63)) = false := by rw [Bool.or_eq_false_iff]; exact ⟨decide_eq_false (by omega), decide_eq_false (by omega)⟩
  have d1 : (its.toArray.isEmpty || k == 1) = false := by rw [Bool.or_eq_false_iff]; exact ⟨some_, beq_eq_false_iff_ne.mpr (by omega)⟩
  have d2 : (decide (k ≤ 0) || its.toArray.isEmpty) = false := by rw [Bool.or_eq_false_iff]; exact ⟨decide_eq_false (by omega), some_⟩
  have d4 : Builtin.Tuple.tupleTooMany (((its.toArray.size : Nat) : Int) * k) = false := by
    unfold Builtin.Tuple.tupleTooMany
    rw [sizeLine_eq]
    exact (decide_eq_false (by omega))
  refine wpAny_binaryOp_repeat_ref (T := "tuple") (U := "int") (by decide) ⟨_, ho, rfl⟩ (fun z => typeIs_int z k t) noFill_tuple_mul F.fills_int_mul F.slot_int_rmul repeat_tuple F.slot_int_index.lookup
    (call_meets F.slot_int_rmul (typeIs_int s k t) F.entry_int_rmul (F.args_int_rmul_2 _ _) (int_rmul_tuple k t l its.toArray n dd sl) ⟨ho, rfl, ⟨_, ho, rfl⟩, ?_⟩)
  refine call_meets F.slot_tuple_mul ⟨_, ho, rfl⟩ F.entry_tuple_mul (F.args_tuple_mul_2 _ _) (tuple_mulW l its.toArray n dd sl k t d0 d1 d2 (by omega) d4 (by rw [size_rep, List.size_toArray]; exact room)) ⟨ho, ?_⟩
  rw [size_rep]
  exact ⟨.ref s.heap.objs.size, _, laidT I (by rw [PyProof.Rows.lm_len_rep_flat, sizeLine_eq]; omega) (r.rep k.toNat), rfl, q _ _ (I.hok.fresh (Nat.le_refl _)) rfl⟩
end
end Mv
namespace Mv
open PySem L2 Evl
abbrev rLenA (K : PySem.W.Frag) : List V → Hp → VK → Prop := fun xs H Q => ∃ p ys, xs = [.ref p] ∧ (SqL K H p ys ∨ SqT K H p ys) ∧ Q (.int ys.length) H
abbrev D := PyData
def keyD : L2.Key → D
  | .inl i => .int i
  | .inr x => .str x
def kD (k : List L2.Key) : D := .tuple (k.map keyD)
def plainD : List (D × D) → Bool
  | (.tuple _, _) :: _ => false
  | _ :: _ => true
  | [] => false
abbrev dctD (es : List (List L2.Key × D)) : D := .dict (es.map fun e => (kD e.1, e.2))
mutual
inductive Dq (G : Hp) : V → D → Prop
  | non : Dq G .non .none
  | bl (b : Bool) : Dq G (.bl b) (.bool b)
  | int (i : Int) : Dq G (.int i) (.int i)
  | str (x : Str) : Dq G (.str x) (.str x)
  | lst {a : Addr} {xs : List V} {ds : List D} : G a = some (.lst xs) → DqA G xs ds → Dq G (.ref a) (.list ds)
  | tup {a : Addr} {xs : List V} {ds : List D} : TupA G a xs → DqA G xs ds → Dq G (.ref a) (.tuple ds)
  | emp {a : Addr} {kvs : List (L2.Key × V)} {ds : List (D × D)} : G a = some (.dK kvs) → plainD ds = true → Dq G (.ref a) (.dict ds)
  | dct {a : Addr} {o : Obj} {kvs : List (List L2.Key × V)} {es : List (List L2.Key × D)} {ds : List (D × D)} : G a = some (.frz o (.dT kvs)) → DqP G kvs es → ds = es.map (fun e => (kD e.1, e.2)) → Dq G (.ref a) (.dict ds)
inductive DqA (G : Hp) : List V → List D → Prop
  | nil : DqA G [] []
  | cons {v : V} {vs : List V} {d : D} {ds : List D} : Dq G v d → DqA G vs ds → DqA G (v :: vs) (d :: ds)
inductive DqP (G : Hp) : List (List L2.Key × V) → List (List L2.Key × D) → Prop
  | nil : DqP G [] []
  | cons {k : List L2.Key} {v : V} {d : D} {kvs : List (List L2.Key × V)} {es : List (List L2.Key × D)} (ne : k ≠ []) : Dq G v d → DqP G kvs es → DqP G ((k, v) :: kvs) ((k, d) :: es)
end
mutual
theorem Dq.mono {G G' : Hp} (e : Ex G G') : ∀ {v : V} {d : D}, Dq G v d → Dq G' v d
  | _, _, .non => .non
  | _, _, .bl b => .bl b
  | _, _, .int i => .int i
  | _, _, .str x => .str x
  | _, _, .lst h k => .lst (e _ _ h) (DqA.mono e k)
  | _, _, .tup h k => .tup (h.mono e) (DqA.mono e k)
  | _, _, .emp h q => .emp (e _ _ h) q
  | _, _, .dct h k q => .dct (e _ _ h) (DqP.mono e k) q
theorem DqA.mono {G G' : Hp} (e : Ex G G') : ∀ {vs : List V} {ds : List D}, DqA G vs ds → DqA G' vs ds
  | _, _, .nil => .nil
  | _, _, .cons h k => .cons (Dq.mono e h) (DqA.mono e k)
theorem DqP.mono {G G' : Hp} (e : Ex G G') : ∀ {kvs : List (List L2.Key × V)} {es : List (List L2.Key × D)}, DqP G kvs es → DqP G' kvs es
  | _, _, .nil => .nil
  | _, _, .cons n h k => .cons n (Dq.mono e h) (DqP.mono e k)
end
theorem DqA.len {G : Hp} : ∀ {vs : List V} {ds : List D}, DqA G vs ds → vs.length = ds.length
  | _, _, .nil => rfl
  | _, _, .cons _ k => by rw [List.length_cons, List.length_cons, k.len]
theorem DqA.app {G : Hp} : ∀ {vs ws : List V} {ds es : List D}, DqA G vs ds → DqA G ws es → DqA G (vs ++ ws) (ds ++ es)
  | _, _, _, _, .nil, k => k
  | _, _, _, _, .cons h t, k => .cons h (DqA.app t k)
theorem DqA.get {G : Hp} : ∀ {vs : List V} {ds : List D} {i : Nat} {v : V}, DqA G vs ds → vs[i]? = some v → ∃ d, ds[i]? = some d ∧ Dq G v d
  | _, _, _, _, .nil, e => by simp at e
  | _, _, 0, _, .cons h _, e => by simp at e; subst e; exact ⟨_, rfl, h⟩
  | _, _, i + 1, _, .cons _ t, e => by
    obtain ⟨d, h1, h2⟩ := DqA.get (i := i) t (by simpa using e)
    exact ⟨d, by simpa using h1, h2⟩
theorem DqA.getD {G : Hp} : ∀ {vs : List V} {ds : List D} {i : Nat} {d : D}, DqA G vs ds → ds[i]? = some d → ∃ v, vs[i]? = some v ∧ Dq G v d
  | _, _, _, _, .nil, e => by simp at e
  | _, _, 0, _, .cons h _, e => by simp at e; subst e; exact ⟨_, rfl, h⟩
  | _, _, i + 1, _, .cons _ t, e => by
    obtain ⟨d, h1, h2⟩ := DqA.getD (i := i) t (by simpa using e)
    exact ⟨d, by simpa using h1, h2⟩
theorem DqA.snoc {G : Hp} {vs : List V} {ds : List D} {v : V} {d : D} (h : DqA G vs ds) (k : Dq G v d) : DqA G (vs ++ [v]) (ds ++ [d]) := h.app (.cons k .nil)
theorem DqA.rep {G : Hp} {vs : List V} {ds : List D} (h : DqA G vs ds) : ∀ n : Nat, DqA G (List.replicate n vs).flatten (List.replicate n ds).flatten
  | 0 => .nil
  | n + 1 => by
    (rw [List.replicate_succ, List.replicate_succ, List.flatten_cons, List.flatten_cons])
    exact h.app (h.rep n)
theorem DqA.drop {G : Hp} : ∀ {vs : List V} {ds : List D} (n : Nat), DqA G vs ds → DqA G (vs.drop n) (ds.drop n)
  | _, _, 0, h => h
  | _, _, _ + 1, .nil => .nil
  | _, _, n + 1, .cons _ t => DqA.drop n t
theorem DqA.take {G : Hp} : ∀ {vs : List V} {ds : List D} (n : Nat), DqA G vs ds → DqA G (vs.take n) (ds.take n)
  | _, _, 0, _ => .nil
  | _, _, _ + 1, .nil => .nil
  | _, _, n + 1, .cons h t => .cons h (DqA.take n t)
theorem DqA.bls {G : Hp} : ∀ {vs : List V} {bs : List Bool}, DqA G vs (bs.map PyData.bool) → vs = bs.map V.bl
  | _, [], h => by cases h; rfl
  | _, n :: ns, h => by
    cases h with
    | cons h t =>
      cases h
      rw [List.map_cons, ← DqA.bls t]
structure Stp (G H G' H' : Hp) : Prop where
  g : Ex G G'
  h : Ex H H'
  w : Ex G' H'
  n : ∀ b, G b = none → H b ≠ none → (∀ xs, H b ≠ some (.tup xs)) → G' b = none
theorem Stp.refl {G H : Hp} (e : Ex G H) : Stp G H G H := ⟨.refl G, .refl H, e, fun _ h _ _ => h⟩
theorem Stp.trans {G H G1 H1 G2 H2 : Hp} (a : Stp G H G1 H1) (b : Stp G1 H1 G2 H2) : Stp G H G2 H2 :=
  ⟨a.g.trans b.g, a.h.trans b.h, b.w, fun c h1 h2 h3 => b.n c (a.n c h1 h2 h3) (fun z => by
    cases q : H c with
    | none => exact h2 q
    | some o => rw [a.h c o q] at z; cases z) fun xs z => by
    cases q : H c with
    | none => exact h2 q
    | some o => rw [a.h c o q] at z; exact h3 xs (q.trans z)⟩
theorem Stp.new {G H : Hp} {p : Addr} {o : HO} (e : Ex G H) (hp : H p = none) : Stp G H (upd G p o) (upd H p o) := by
  have gp : G p = none := fresh_back e hp
  refine ⟨.new gp, .new hp, fun a u q => ?_, fun b h1 h2 _ => ?_⟩
  · by_cases ha : a = p
    · subst ha; rw [upd_same] at q ⊢; exact q
    · rw [upd_ne ha] at q ⊢; exact e a u q
  · have hb : b ≠ p := fun z => h2 (z ▸ hp)
    rw [upd_ne hb]; exact h1
theorem Stp.old {G H H' : Hp} (e : Ex G H) (h : Ex H H') : Stp G H G H' := ⟨.refl G, h, e.trans h, fun _ h _ _ => h⟩
def EvD (te : TE) (σ : L2.St) (G : Hp) (d : D) : Prop := ∀ G1 H1, Ex G G1 → Ex G1 H1 → ∀ Q : VK, (∀ v G2 H2, Stp G1 H1 G2 H2 → Dq G2 v d → Q v H2) → te σ H1 Q
def EvB (tt : TT) (σ : L2.St) (G : Hp) (b : Bool) : Prop := ∀ G1 H1, Ex G G1 → Ex G1 H1 → ∀ Q : Bool → Hp → Prop, (∀ G2 H2, Stp G1 H1 G2 H2 → Q b H2) → tt σ H1 Q
def EvS (ta : TA) (σ : L2.St) (G : Hp) (ds : List D) : Prop := ∀ G1 H1, Ex G G1 → Ex G1 H1 → ∀ Q : List V → Hp → Prop, (∀ vs G2 H2, Stp G1 H1 G2 H2 → DqA G2 vs ds → Q vs H2) → ta σ H1 Q
def OpD (r : R2) (G : Hp) (d e z : D) : Prop := ∀ x y G1 H1, Ex G G1 → Ex G1 H1 → Dq G1 x d → Dq G1 y e → ∀ Q : VK, (∀ v G2 H2, Stp G1 H1 G2 H2 → Dq G2 v z → Q v H2) → r x y H1 Q
def UnD (r : V → Hp → VK → Prop) (G : Hp) (d z : D) : Prop := ∀ x G1 H1, Ex G G1 → Ex G1 H1 → Dq G1 x d → ∀ Q : VK, (∀ v G2 H2, Stp G1 H1 G2 H2 → Dq G2 v z → Q v H2) → r x H1 Q
def CaD (r : List V → Hp → VK → Prop) (G : Hp) (ds : List D) (z : D) : Prop := ∀ vs G1 H1, Ex G G1 → Ex G1 H1 → DqA G1 vs ds → ∀ Q : VK, (∀ v G2 H2, Stp G1 H1 G2 H2 → Dq G2 v z → Q v H2) → r vs H1 Q
section
variable {K : PySem.W.Frag} {σ : L2.St} {G G' H H' : Hp} {ta tb te tx : TE} {t u : TT} {r : R2} {d e z : D} {ds es : List D}
theorem EvD.mono (x : Ex G G') (h : EvD te σ G d) : EvD te σ G' d := fun G1 H1 a b Q q => h G1 H1 (x.trans a) b Q q
theorem EvB.mono {b : Bool} (x : Ex G G') (h : EvB t σ G b) : EvB t σ G' b := fun G1 H1 a b Q q => h G1 H1 (x.trans a) b Q q
theorem EvD.is (h : EvD te σ G d) (x : d = e) : EvD te σ G e := x ▸ h
theorem EvB.is {b c : Bool} (h : EvB t σ G b) (x : b = c) : EvB t σ G c := x ▸ h
theorem d_var {i : Nat} {v : V} (h : σ[i]? = some (some v)) (k : Dq G v d) : EvD (tVar i) σ G d := fun G1 H1 a b Q q => ⟨v, h, q v G1 H1 (.refl b) (k.mono a)⟩
theorem d_c {v : V} (k : Dq G v d) : EvD (tC v) σ G d := fun G1 H1 a b Q q => q v G1 H1 (.refl b) (k.mono a)
theorem d_op (ha : EvD ta σ G d) (hb : EvD tb σ G e) (hr : OpD r G d e z) : EvD (tOp r ta tb) σ G z := fun G1 H1 a b Q q =>
  ha G1 H1 a b _ fun x G2 H2 s1 hx => hb G2 H2 (a.trans s1.g) s1.w _ fun y G3 H3 s2 hy => hr x y G3 H3 ((a.trans s1.g).trans s2.g) s2.w (hx.mono s2.g) hy Q fun v G4 H4 s3 hv => q v G4 H4 ((s1.trans s2).trans s3) hv
theorem d_un {r : V → Hp → VK → Prop} (ha : EvD ta σ G d) (hr : UnD r G d z) : EvD (tUn r ta) σ G z := fun G1 H1 a b Q q =>
  ha G1 H1 a b _ fun x G2 H2 s1 hx => hr x G2 H2 (a.trans s1.g) s1.w hx Q fun v G4 H4 s3 hv => q v G4 H4 (s1.trans s3) hv
theorem opd_I0 {g : Int → Int → V} {i j : Int} (h : ∀ G, Dq G (g i j) z) : OpD (rI0 g) G (.int i) (.int j) z := fun x y G1 H1 a b hx hy Q q => by
  cases hx; cases hy
  exact ⟨i, j, rfl, rfl, q _ G1 H1 (.refl b) (h G1)⟩
theorem opd_I {C : Int → Int → Prop} {g : Int → Int → V} {i j : Int} (hc : C i j) (h : ∀ G, Dq G (g i j) z) : OpD (rI C g) G (.int i) (.int j) z := fun x y G1 H1 a b hx hy Q q => by
  cases hx; cases hy
  exact ⟨i, j, rfl, rfl, hc, q _ G1 H1 (.refl b) (h G1)⟩
theorem opd_catT {as bs : List D} (hz : as.length + bs.length ≤ sizeLine) : OpD (rCatA K) G (.tuple as) (.tuple bs) (.tuple (as ++ bs)) := fun x y G1 H1 a b hx hy Q q => by
  cases hx with
  | @tup p xs _ hp hxs =>
    cases hy with
    | @tup p2 ys _ hp2 hys =>
      refine ⟨p, p2, xs, ys, rfl, rfl, TupA.sq (TupA.mono hp b), TupA.sq (TupA.mono hp2 b), by rw [hxs.len, hys.len]; exact hz, fun e => ?_, fun _ e => ?_, fun _ _ l o hl od => ?_⟩
      · subst e
        cases hxs
        exact q _ G1 H1 (.refl b) (.tup hp2 hys)
      · subst e
        cases hys
        rw [List.append_nil] at q
        exact q _ G1 H1 (.refl b) (.tup hp hxs)
      · have s := Stp.new (o := tupO o (xs ++ ys)) b hl
        exact q _ _ _ s (.tup (.new od) ((hxs.app hys).mono s.g))
theorem opd_cat {as bs : List D} (hz : as.length + bs.length ≤ sizeLine) : OpD rCat G (.list as) (.list bs) (.list (as ++ bs)) := fun x y G1 H1 a b hx hy Q q => by
  cases hx with
  | @lst p xs _ hp hxs =>
    cases hy with
    | @lst p2 ys _ hp2 hys =>
      refine ⟨p, p2, xs, ys, rfl, rfl, b _ _ hp, b _ _ hp2, by rw [hxs.len, hys.len]; exact hz, fun l hl => ?_⟩
      have s := Stp.new (o := .lst (xs ++ ys)) b hl
      exact q _ _ _ s (.lst upd_same ((hxs.app hys).mono s.g))
mutual
def flatD : D → Bool
  | .dict _ => false
  | .list xs => flatDs xs
  | .tuple xs => flatDs xs
  | _ => true
def flatDs : List D → Bool
  | [] => true
  | x :: xs => flatD x && flatDs xs
end
mutual
theorem dp_of (x : Ex G H) : ∀ {d : D} {v : V}, Dq G v d → flatD d = true → Dp K H v d
  | _, _, .non, _ => .non
  | _, _, .bl b, _ => .bl b
  | _, _, .int i, _ => .int i
  | _, _, .str s, _ => .str s
  | _, _, .lst h k, f => .lst (SqL.of (x _ _ h)) (dpAll_of x k (by simpa [flatD] using f))
  | _, _, .tup h k, f => .tup (TupA.sq (TupA.mono h x)) (dpAll_of x k (by simpa [flatD] using f))
  | _, _, .emp _ _, f => by simp [flatD] at f
  | _, _, .dct _ _ _, f => by simp [flatD] at f
theorem dpAll_of (x : Ex G H) : ∀ {ds : List D} {vs : List V}, DqA G vs ds → flatDs ds = true → DpAll K H vs ds
  | _, _, .nil, _ => .nil
  | _, _, .cons h k, f => by
    simp only [flatDs, Bool.and_eq_true] at f
    exact .cons (dp_of x h f.1) (dpAll_of x k f.2)
end
theorem opd_eq (f1 : flatD d = true) (f2 : flatD e = true) (s1 : SeqAt.shaped d = true) (s2 : SeqAt.shaped e = true) : OpD (rEqD K) G d e (.bool (PyData.eqv d e)) := fun x y G1 H1 a b hx hy Q q =>
  ⟨d, e, dp_of b hx f1, dp_of b hy f2, s1, s2, q _ G1 H1 (.refl b) (.bl _)⟩
theorem opd_ne (f1 : flatD d = true) (f2 : flatD e = true) (s1 : SeqAt.shaped d = true) (s2 : SeqAt.shaped e = true) : OpD (rNeD K) G d e (.bool (!PyData.eqv d e)) := fun x y G1 H1 a b hx hy Q q =>
  ⟨d, e, dp_of b hx f1, dp_of b hy f2, s1, s2, q _ G1 H1 (.refl b) (.bl _)⟩
theorem b_test {b : Bool} (h : EvD te σ G (.bool b)) : EvB (tTest te) σ G b := fun G1 H1 a w Q q => h G1 H1 a w _ fun v G2 H2 s hv => by
  cases hv
  exact ⟨b, rfl, q G2 H2 s⟩
theorem a_nil : EvS tNil σ G [] := fun G1 H1 x w Q q => q [] G1 H1 (.refl w) .nil
theorem a_cons {tr : TA} (h : EvD ta σ G d) (hr : EvS tr σ G ds) : EvS (tCons ta tr) σ G (d :: ds) := fun G1 H1 x w Q q =>
  h G1 H1 x w _ fun v G2 H2 s hv => hr G2 H2 (x.trans s.g) s.w _ fun vs G3 H3 s3 hvs => q (v :: vs) G3 H3 (s.trans s3) (.cons (hv.mono s3.g) hvs)
theorem d_tup {tr : TA} (h : EvS tr σ G ds) (hz : ds.length ≤ sizeLine) : EvD (tTup tr) σ G (.tuple ds) := fun G1 H1 x w Q q =>
  h G1 H1 x w _ fun vs G2 H2 s hvs => ⟨by rw [hvs.len]; exact hz, fun p o hp od => by
    have s2 := Stp.new (o := tupO o vs) s.w hp
    exact q _ _ _ (s.trans s2) (.tup (.new od) (hvs.mono s2.g))⟩
theorem d_cb {rc : List V → Hp → VK → Prop} {tr : TA} (h : EvS tr σ G ds) (hr : CaD rc G ds z) : EvD (tCB rc tr) σ G z := fun G1 H1 x w Q q =>
  h G1 H1 x w _ fun vs G2 H2 s hvs => hr vs G2 H2 (x.trans s.g) s.w hvs Q fun v G3 H3 s3 hv => q v G3 H3 (s.trans s3) hv
theorem cad_lenL : CaD (rLenA K) G [.list ds] (.int ds.length) := fun vs G1 H1 x w h Q q => by
  cases h with
  | cons h k =>
    cases k
    cases h with
    | lst hp hx => exact ⟨_, _, rfl, .inl (SqL.of (w _ _ hp)), by rw [hx.len]; exact q _ G1 H1 (.refl w) (.int _)⟩
theorem cad_lenT : CaD (rLenA K) G [.tuple ds] (.int ds.length) := fun vs G1 H1 x w h Q q => by
  cases h with
  | cons h k =>
    cases k
    cases h with
    | tup hp hx => exact ⟨_, _, rfl, .inr (TupA.sq (TupA.mono hp w)), by rw [hx.len]; exact q _ G1 H1 (.refl w) (.int _)⟩
theorem cad_tuple : CaD (rTupOf K) G [.list ds] (.tuple ds) := fun vs G1 H1 x w h Q q => by
  cases h with
  | cons h k =>
    cases k
    cases h with
    | @lst p xs _ hp hx =>
      refine ⟨_, _, rfl, .inl ⟨SqL.of (w _ _ hp), fun l o hl od => ?_⟩⟩
      have s2 := Stp.new (o := tupO o xs) w hl
      exact q _ _ _ s2 (.tup (.new od) (hx.mono s2.g))
theorem cad_int1 {i : Int} : CaD (fun xs H Q => (∃ i, xs = [.int i] ∧ Q (.int i) H) ∨ ∃ k, xs = [.bl k] ∧ Q (.int (if k then 1 else 0)) H) G [.int i] (.int i) := fun vs G1 H1 x w h Q q => by
  cases h with
  | cons h k =>
    cases k
    cases h
    exact .inl ⟨i, rfl, q _ G1 H1 (.refl w) (.int _)⟩
theorem cad_all {bs : List Bool} : CaD (rAll K) G [.list (bs.map PyData.bool)] (.bool (bs.all id)) := fun vs G1 H1 x w h Q q => by
  cases h with
  | cons h k =>
    cases k
    cases h with
    | @lst p xs _ hp hx =>
      have e := hx.bls
      subst e
      exact ⟨p, bs, rfl, SqL.of (w _ _ hp), q _ G1 H1 (.refl w) (.bl _)⟩
structure Mk2 (G0 H0 : Hp) (p : Addr) (ds : List D) (H : Hp) : Prop where
  at_ : ∃ G vs, Stp G0 H0 G H ∧ G p = none ∧ DqA G vs ds ∧ H p = some (.lst vs)
theorem Mk2.start {G0 H0 : Hp} {p : Addr} (x : Ex G0 H0) (hp : H0 p = none) : Mk2 G0 H0 p [] (upd H0 p (.lst [])) :=
  ⟨G0, [], ⟨.refl _, .new hp, x.trans (.new hp), fun _ h _ _ => h⟩, fresh_back x hp, .nil, upd_same⟩
theorem Mk2.turn {G0 H0 H1 : Hp} {p : Addr} {acc : List D} {σ2 : L2.St} {b : Bool} (h0 : H0 p = none) (m : Mk2 G0 H0 p acc H1) (hz : acc.length < sizeLine)
    (ht : ∀ G, Ex G0 G → Ex G H1 → EvB t σ2 G b) (he : ∀ G, Ex G0 G → Ex G H1 → b = true → EvD te σ2 G d) {N : Hp → Prop} (k : ∀ H2, Mk2 G0 H0 p (if b then acc ++ [d] else acc) H2 → N H2) :
    t σ2 H1 fun b' H3 => if b' = true then te σ2 H3 fun y H4 => ∃ ac, H4 p = some (.lst ac) ∧ ac.length < sizeLine ∧ N (upd H4 p (.lst (ac ++ [y]))) else N H3 := by
  obtain ⟨G, vs, s, gp, hvs, hH⟩ := m
  refine ht G s.g s.w G H1 (.refl G) s.w _ fun G2 H2 s2 => ?_
  have g2 : G2 p = none := s2.n p gp (by rw [hH]; intro z; cases z) (by rw [hH]; intro xs z; cases z)
  cases b with
  | false => exact iteF (k _ ⟨G2, vs, s.trans s2, g2, hvs.mono s2.g, s2.h _ _ hH⟩)
  | true =>
    refine iteT (he G s.g s.w rfl G2 H2 s2.g s2.w _ fun v G3 H3 s3 hv => ?_)
    have h3 : H3 p = some (.lst vs) := s3.h _ _ (s2.h _ _ hH)
    have g3 : G3 p = none := s3.n p g2 (by rw [s2.h _ _ hH]; intro z; cases z) (by rw [s2.h _ _ hH]; intro xs z; cases z)
    refine ⟨vs, h3, by rw [hvs.len]; exact hz, k _ ⟨G3, vs ++ [v], ?_, g3, (hvs.mono (s2.g.trans s3.g)).snoc hv, upd_same⟩⟩
    have s4 := (s.trans s2).trans s3
    refine ⟨s4.g, s4.h.mut h0, fun a o q => ?_, s4.n⟩
    have ha : a ≠ p := fun z => by rw [z, g3] at q; cases q
    rw [upd_ne ha]
    exact s3.w a o q
theorem Mk2.done {G0 H0 H1 : Hp} {p : Addr} {acc : List D} (h0 : H0 p = none) (m : Mk2 G0 H0 p acc H1) : ∃ G, Stp G0 H0 G H1 ∧ Dq G (.ref p) (.list acc) := by
  obtain ⟨G, vs, s, gp, hvs, hH⟩ := m
  refine ⟨upd G p (.lst vs), ⟨s.g.trans (.new gp), s.h, fun a o q => ?_, fun b h1 h2 h3 => ?_⟩, .lst upd_same (hvs.mono (.new gp))⟩
  · by_cases ha : a = p
    · subst ha; rw [upd_same] at q; rw [← q]; exact hH
    · rw [upd_ne ha] at q; exact s.w a o q
  · have hb : b ≠ p := fun z => h2 (z ▸ h0)
    rw [upd_ne hb]; exact s.n b h1 h2 h3
theorem take_more {α : Type} {l : List α} {i : Nat} {x : α} (h : l[i]? = some x) : l.take (i + 1) = l.take i ++ [x] := by
  rw [List.take_add_one, h]; rfl
end
end Mv
namespace Mv
open PySem L2 PyProof.Rows PySem.Spec
section
variable {X : Cx} {pins : List (Addr × Obj)} {σ : L2.St} {H : Hp} {s : Shared}
theorem setT {E : Value → Shared → Prop} {D b : Addr} {kvs : List (List L2.Key × V)} {k : List L2.Key} {v : V} {r : Value} {Q : Unit → Shared → Prop} (hu : X.A.units + 1 < cLine) (J : Inv X pins σ H s) (at_ : H D = some (.dT kvs)) (room : kvs.length < sizeLine) (key : H b = some (.tup (k.map kV))) (val : RelV v r)
    (go : ∀ t, Inv X pins σ (upd H D (.dT (putK kvs k v))) t → Q () t) : wpAny (model X.prog X.w) X.A (dictSet D (.ref b) r) Q E s := by
  obtain ⟨size, mods, xs, rel, raw⟩ := dt_of J.hok at_
  have same := Paired.length rel
  have more := length_putK kvs k v
  refine wpAny_dictSet_heap (hsz := by omega) (show X.A.units < cLine by omega) (key_of J.hok key) raw fun g now but => go _ ?_
  obtain ⟨ob, es, ep, q1, q2, q3, q4, _, q6⟩ := now
  refine d_write J (by rw [at_]; exact True.intro) but ⟨ob, q1⟩ ⟨by omega, mods, _, (rel.put k key val).keeps fun c ys ec => ?_, ob, es, ep, q1, q2, q3, q4, q6⟩
  rw [upd_ne (ne_of ec at_ (fun z => nomatch z))]
  exact ec
end
section
variable {X : Cx}
def tDcT (wi : TI) (g : TG) (tt : TT) (tk tv : TE) (vs : List Nat) : TE := fun σ H Q => wi σ H fun J H1 => ∀ D, H1 D = none → ∃ W : Nat → Nat → Hp → Prop, (∃ m, W 0 m (upd H1 D (.dT []))) ∧ ∀ i m H, W i m H →
  (J.stop i H ∧ Q (.ref D) H) ∨ (J.go i H ∧ ∃ Nx : Hp → Prop, (∀ H', Nx H' → ∃ m', m' < m ∧ W (i + 1) m' H') ∧ ∀ x H', J.yld i H x H' → g x (wipe σ vs) H' fun σ2 H2 => wipe σ2 vs = wipe σ vs ∧ tt σ2 H2 fun b H3 =>
    if b = true then tk σ2 H3 fun y H4 => tv σ2 H4 fun z H5 => ∃ kvs k a, y = .ref a ∧ H5 a = some (.tup (k.map kV)) ∧ H5 D = some (.dT kvs) ∧ kvs.length < sizeLine ∧ Nx (upd H5 D (.dT (putK kvs k z))) else Nx H3)
theorem dcT_core {pins : List (Addr × Obj)} {s : Shared} {σ : L2.St} {H : Hp} {Q : VK} {use : Option (Value → Sem Unit)} {Qf : Value → Shared → Prop} {pos' : Pos} {kx vx tg iter : Expr} {ifs : List Expr} {scope : Scope} {own : List (Str × Nat)} {pos : Pos} {wi : TI} {g : TG} {tt : TT} {tk tv : TE} (hu : X.A.units + 1 < cLine) (hc : X.calm = true) (hN : X.N.Nodup) (I : Inv X pins σ H s) (hi : PI X tg iter wi) (ok : BlkOk X.N X.env.scope scope own)
    (hg : ∀ (s : Shared) (H : Hp) (C : Addr) (cl : List (Str × Addr)) (fp : List Addr), PG (X.blk s H scope (compEnvC scope cl C X.env) fp) tg g) (ht : ∀ (s : Shared) (H : Hp) (C : Addr) (cl : List (Str × Addr)) (fp : List Addr), PTs (X.blk s H scope (compEnvC scope cl C X.env) fp) ifs tt)
    (hk : ∀ (s : Shared) (H : Hp) (C : Addr) (cl : List (Str × Addr)) (fp : List Addr), PE (X.blk s H scope (compEnvC scope cl C X.env) fp) kx tk)
    (he : ∀ (s : Shared) (H : Hp) (C : Addr) (cl : List (Str × Addr)) (fp : List Addr), PE (X.blk s H scope (compEnvC scope cl C X.env) fp) vx tv) (hs : ∀ x, foldedSetIterable iter X.env x = pure x)
    (start : tDcT wi g tt tk tv (own.map (·.2)) σ H Q) (fin' : ∀ D C t m H', Inv X pins σ H' t → Q (.ref D) H' → t.heap.Ns C m → FpOk X pins H' C → compPost (model X.prog X.w) X.A X.xe use Qf (.ref D) C (.ok .next) t) :
    wpAny (model X.prog X.w) X.A (comprehension (.DictComp kx vx [⟨tg, iter, ifs, 0⟩] scope pos) scope X.env pos' newDict false (eval iter X.env) use) Qf X.xe s := by
  have cells : ∀ y ∈ scope.names, y.2 = .free → ∃ c, X.env.cells.lookup y.1 = some c := fun y m f => (ok.free y m f).elim (fun z => I.ok.has _ (.inl z)) fun z => I.ok.has _ (.inr z)
  refine wpAny_comprehension_free (use := use) rfl hs (closure_ok cells) ok.kind (fun y m f => by rw [ok.uniq y m, f]) (thn (hi.run pins s σ H _ I start) fun xv s1 w1 => thn w1 fun itv s2 w2 => ?_)
  obtain ⟨it, fp, turn, J, Hi, rfl, Ii, T, at0, far, loopOf⟩ := w2
  refine (wpAny_newObj_type (newEnv_comp ?_))
  generalize hD : s2.heap.objs.size = D
  have newD : Hi D = none := Ii.hok.fresh (Nat.le_of_eq hD)
  obtain ⟨W, ⟨m0, W0⟩, step⟩ := loopOf D newD
  generalize e3 : ({ s2 with heap := s2.heap.push { cls := .type "dict", data := .dict #[] } } : Shared) = s3
  have heap3 : s3.heap = s2.heap.push { cls := .type "dict", data := .dict #[] } := by rw [← e3]
  have Id : Inv X pins σ (upd Hi D (.dT [])) s3 := by
    rw [← e3]
    refine Ii.laid (t' := s2.toks) (fun b o z => Heap.get?_push_of_some _ z) (Nat.le_of_eq hD) ?_
    rw [← hD]
    exact dt_empty s2.heap Ii.big
  have below : ∀ b ∈ fp, b < s2.heap.objs.size := fun b m => (T.obj _ _ at0 b m).elim fun _ z => Heap.lt_size z.1
  have far3 : ∀ b ∈ fp, FpOk X pins (upd Hi D (.dT [])) b ∧ b < s3.heap.objs.size := fun b m => by
    have lt := below b m
    refine ⟨⟨?_, (far b m).2⟩, by rw [heap3, Heap.size_push]; exact Nat.lt_succ_of_lt lt⟩
    rw [upd_ne (Nat.ne_of_lt (hD ▸ lt))]
    exact (far b m).1
  have at3 : turn 0 s3.heap := T.keep _ _ _ at0 fun b _ o z => by rw [heap3]; exact Heap.get?_push_of_some _ z
  have Ib := block_start Id ok hN far3
  obtain ⟨cs, ecs⟩ : ∃ cs, cellsFrom (s3.heap.objs.size + 1) scope.names (cloFrom X.env.cells scope.names []) = cs := ⟨_, rfl⟩
  rw [ecs] at Ib
  show (codeAny _ _ (.compStart (.DictComp kx vx [⟨tg, iter, ifs, 0⟩] scope pos) 0 (.ref it) (.ref D) (compEnvC scope (cellsFrom (s3.heap.objs.size + 1) scope.names (cloFrom X.env.cells scope.names [])) s3.heap.objs.size X.env)) (compPost (model X.prog X.w) X.A X.xe use Qf (.ref D) s3.heap.objs.size) { s3 with heap := pushCells (s3.heap.push { cls := .type "dict", data := .dict #[] }) scope.names })
  rw [ecs]
  have pg := hg s3 (upd Hi D (.dT [])) s3.heap.objs.size cs fp
  have pt := ht s3 (upd Hi D (.dT [])) s3.heap.objs.size cs fp
  have pk := hk s3 (upd Hi D (.dT [])) s3.heap.objs.size cs fp
  have pv := he s3 (upd Hi D (.dT [])) s3.heap.objs.size cs fp
  have nofp : ∀ b ∈ fp, upd Hi D (.dT []) b = none := fun b m => (far3 b m).1.1
  obtain ⟨ce, ece⟩ : ∃ ce, compEnvC scope cs s3.heap.objs.size X.env = ce := ⟨_, rfl⟩
  have loc : ce.locals = s3.heap.objs.size := by rw [← ece]; rfl
  rw [ece] at Ib pg pt pk pv
  rw [ece]
  obtain ⟨Hd, eHd⟩ : ∃ Hd, upd Hi D (.dT []) = Hd := ⟨_, rfl⟩
  rw [eHd] at Id Ib pg pt pk pv W0 nofp far3
  obtain ⟨s4, e4⟩ : ∃ t : Shared, ({ s3 with heap := pushCells (s3.heap.push { cls := .type "dict", data := .dict #[] }) scope.names } : Shared) = t := ⟨_, rfl⟩
  rw [e4] at Ib
  rw [e4]
  have at4 : turn 0 s4.heap := T.keep _ _ _ at3 fun b _ o z => by rw [← e4]; exact pushCells_keeps _ _ _ _ (Heap.get?_push_of_some _ z)
  have apart : ∀ {σ' : L2.St} {H' : Hp} {t : Shared}, Inv (X.blk s3 Hd scope ce fp) [] σ' H' t → (∀ b ∈ fp, H' b = none) → ∀ b ∈ fp, FpOk (X.blk s3 Hd scope ce fp) [] H' b := fun {σ' H' t} z n b m =>
    ⟨n b m, (z.ok.exf b m).1, z.ok.exfs b m, .inl m, fun x c q => (z.ok.exf b m).2 x c q, fun p hp => absurd (show p ∈ ([] : List (Addr × Obj)) ++ [] from hp) (by simp)⟩
  refine codeAny_compStart_dict ?run (T.self X.A 0 _ _ _ at4 ?run)
  refine compLoop_anyD (fun n t => ∃ i H', Inv (X.blk s3 Hd scope ce fp) [] (wipe σ (own.map (·.2))) H' t ∧ turn i t.heap ∧ (∀ b ∈ fp, H' b = none) ∧ W i n H') ?_ m0 ⟨0, Hd, Ib, at4, nofp, W0⟩
  rintro n t ⟨i, Ht, It_, att, nt, Wt⟩
  rcases step i n Ht Wt with ⟨halt, fin⟩ | ⟨goes, Nx, dec, body⟩
  · refine thnF (T.done (X.blk s3 Hd scope ce fp) rfl rfl rfl hc i [] t _ Ht (fun _ _ => False) It_ (apart It_ nt) att halt) fun r u z => ?_
    obtain ⟨rfl, Iu⟩ := z
    have Iz : Inv X pins σ Ht u := Id.call' (ch := fp) Iu.os Iu.base Iu.hok Iu.bare fun b m => let ⟨_, z2, z3, z4, z5, z6⟩ := (far3 b m).1; ⟨z4, z2, z5, z6⟩
    have none3 : Ht s3.heap.objs.size = none := by rw [← loc]; exact Iu.free
    obtain ⟨mm, names, _⟩ := Iu.loc
    have names : u.heap.Ns ce.locals mm := names
    rw [loc] at names
    exact fin' D s3.heap.objs.size u mm Ht Iz fin names (Id.fpOk (Nat.le_refl _) none3)
  · refine thnF (T.item (X.blk s3 Hd scope ce fp) rfl rfl rfl hc i [] t _ Ht (fun _ _ => False) It_ (apart It_ nt) att goes) fun r u z => ?_
    obtain ⟨vu, rfl, z⟩ := z
    refine thnF z fun _ s7 ⟨x, H7, I7, r7, y7, at7, n7⟩ => ?_
    refine thnF (pg.run _ s7 _ H7 x vu _ (I7.pinned (apart I7 n7) (T.obj _ _ at7)) r7 (body x H7 y7)) fun _ s8 ⟨σ8, H8, I8, same8, q8⟩ => ?_
    refine thnF (pt.run _ s8 σ8 H8 _ I8 q8) fun b s9 ⟨H9, I9, q9⟩ => ?_
    have back : ∀ {t' : Shared} {H' : Hp}, Inv (X.blk s3 Hd scope ce fp) ([] ++ pinsAt fp s7.heap) σ8 H' t' → Nx H' → ∃ m, m < n ∧ ∃ i H', Inv (X.blk s3 Hd scope ce fp) [] (wipe σ (own.map (·.2))) H' t' ∧ turn i t'.heap ∧ (∀ b ∈ fp, H' b = none) ∧ W i m H' := fun {t' H'} I' nx => by
      obtain ⟨m', lt, w'⟩ := dec H' nx
      have stays : ∀ b ∈ fp, ∀ o, s7.heap.get? b = some o → t'.heap.get? b = some o ∧ H' b = none := fun b m o q => (I'.pin (b, o) (List.mem_append_right _ (List.mem_append_right _ (mem_pinsAt m q)))).imp id fun z => z.1
      refine ⟨m', lt, i + 1, H', (I'.unpinned (pins := [])).weak (by rw [← same8, wipe_length]) (fun j v q => ?_), T.keep _ _ _ at7 fun b m o q => (stays b m o q).1, fun b m => ?_, w'⟩
      · rw [← same8] at q
        exact (wipe_some q).1
      · obtain ⟨o, q, _⟩ := T.obj _ _ at7 b m
        exact (stays b m o q).2
    cases b with
    | false => exact back I9 q9
    | true =>
      refine thnF (pk.run _ s9 σ8 H9 _ I9 q9) fun z s10 ⟨yk, H10, I10, r10, q10⟩ => thnF (pv.run _ s10 σ8 H10 _ I10 q10) fun z2 s11 ⟨yv, H11, I11, r11, kvs, k, a, ek, key, atD, room, nx⟩ => ?_
      subst ek
      obtain rfl : z = Value.ref a := r10
      exact setT (X := X.blk s3 Hd scope ce fp) hu I11 atD room key r11 fun s12 I12 => back I12 nx
theorem pe_dcT {kx vx tg iter : Expr} {ifs : List Expr} {scope : Scope} {own : List (Str × Nat)} {pos : Pos} {wi : TI} {g : TG} {tt : TT} {tk tv : TE} (hu : X.A.units + 1 < cLine) (hc : X.calm = true) (hN : X.N.Nodup) (hi : PI X tg iter wi) (ok : BlkOk X.N X.env.scope scope own)
    (hg : ∀ (s : Shared) (H : Hp) (C : Addr) (cl : List (Str × Addr)) (fp : List Addr), PG (X.blk s H scope (compEnvC scope cl C X.env) fp) tg g) (ht : ∀ (s : Shared) (H : Hp) (C : Addr) (cl : List (Str × Addr)) (fp : List Addr), PTs (X.blk s H scope (compEnvC scope cl C X.env) fp) ifs tt)
    (hk : ∀ (s : Shared) (H : Hp) (C : Addr) (cl : List (Str × Addr)) (fp : List Addr), PE (X.blk s H scope (compEnvC scope cl C X.env) fp) kx tk)
    (he : ∀ (s : Shared) (H : Hp) (C : Addr) (cl : List (Str × Addr)) (fp : List Addr), PE (X.blk s H scope (compEnvC scope cl C X.env) fp) vx tv) (hs : ∀ x, foldedSetIterable iter X.env x = pure x := by intro _; rfl) :
    PE X (.DictComp kx vx [⟨tg, iter, ifs, 0⟩] scope pos) (tDcT wi g tt tk tv (own.map (·.2))) := ⟨fun pins s σ H Q I start => by
  rw [arm_eval_DictComp]
  refine dcT_core hu hc hN I hi ok hg ht hk he hs start fun D C t m H' J q names far => ⟨m, names, fun h'' sb => ?_⟩
  obtain ⟨f0, f1, f2, f3, f4, f5⟩ := far
  exact ⟨.ref D, H', J.turned (t' := t.toks) (fun b o hb z => (sb.2 b hb).trans z) f0 f1 f3 f4 f5, rfl, q⟩⟩
def tFix (te : TE) : TE := fun σ H Q => te σ H fun v H1 => ∃ d u, v = .ref d ∧ H1 d = some u ∧ Mut (some u) ∧ ∀ o, Q v (upd H1 d (.frz o u))
theorem pe_fix {e : Expr} {te : TE} (h : PE X e te) : PE X e (tFix te) := ⟨fun pins s σ H Q I q => thn (h.run pins s σ H _ I q) fun u s1 ⟨v, H1, I1, r, d, x, ev, hd, mu, q1⟩ => by
  subst ev
  obtain ⟨o, I2⟩ := I1.lock hd mu
  exact ⟨.ref d, _, I2, r, q1 o⟩⟩
end
section
variable {prog : Program} {w : World} {A : Around} {E : Value → Shared → Prop} {s : Shared}
end
end Mv
namespace Mv
open PySem L2 Evl
structure Zs (mg : Str → Option Value) : Prop where
  len : mg "len" = none
  zip : mg "zip" = none
  tuple : mg "tuple" = none
  list : mg "list" = none
  range : mg "range" = none
  all : mg "all" = none
  int : mg "int" = none
  bool : mg "bool" = none
  isinstance : mg "isinstance" = none
  abs : mg "abs" = none
  min : mg "min" = none
  repr : mg "repr" = none
structure Cal (P : Program) (w : World) (K : PySem.W.Frag) (mg : Str → Option Value) (base : Heap) (CX : CXT) (k : Nat) (x : Str) (ps : List Str) (sp : Sp) : Prop where
  ex : ∃ (f : Addr) (fd : FuncData), FnOk P w K mg base CX k f fd ps sp ∧ mg x = some (.ref f) ∧ PySem.W.keepIn K (.ref f) = true ∧ Binds K fd ps []
theorem pe_cal {X : Cx} {CX : CXT} {k : Nat} {x : Str} {ps : List Str} {sp : Sp} {E : XK} {p pos : Pos} {e : Expr} {es : List Expr} {t : TA} (C : Cal X.prog X.w X.K X.mg X.base CX k x ps sp) (hr : Room k X.A) (hx : Passes CX X E) (ha : PA X (e :: es) t)
    (hg : Gl X x := by rfl) (hs : starEach (e :: es) X.env = (false, eval e X.env) :: starEach es X.env := by rfl) (hpl : (backTo pos (starEach es X.env)).any (·.1) = false := by rfl) (hdb : (x == ("__debug__" : Str)) = false := by decide) :
    PE X (.Call (.Name x p) (e :: es) [] pos) (tCall sp [] E t) := by
  obtain ⟨f, fd, F, hm, hk, hb⟩ := C.ex
  exact pe_call F hr hg hm hk hb .nil hx ha hdb hs hpl
section
variable {K : PySem.W.Frag} {σ : L2.St} {G G' H H' : Hp} {ta tb te tx : TE} {t u : TT} {d e z : D} {ds es : List D} {D' : Ends} {tu tz : TS}
theorem s_if {b : Bool} (h : EvB t σ G b) (w : Ex G H) (h1 : b = true → ∀ G1 H1, Stp G H G1 H1 → tu D' σ H1) (h2 : b = false → ∀ G1 H1, Stp G H G1 H1 → tz D' σ H1) : tIfS t tu tz D' σ H := h G H (.refl G) w _ fun G1 H1 s => by
  cases b with
  | true => exact iteT (h1 rfl G1 H1 s)
  | false => exact iteF (h2 rfl G1 H1 s)
theorem q_if {b : Bool} {tv : TS} (h : EvB t σ G b) (w : Ex G H) (h1 : b = true → ∀ G1 H1, Stp G H G1 H1 → tu { D' with nx := tv D' } σ H1) (h2 : b = false → ∀ G1 H1, Stp G H G1 H1 → tz { D' with nx := tv D' } σ H1) : tSeq (tIfS t tu tz) tv D' σ H := s_if (D' := { D' with nx := tv D' }) h w h1 h2
theorem q_when {b : Bool} {tv : TS} (h : EvB t σ G b) (w : Ex G H) (h1 : b = true → ∀ G1 H1, Stp G H G1 H1 → tu { D' with nx := tv D' } σ H1) (h2 : b = false → ∀ G1 H1, Stp G H G1 H1 → tv D' σ H1) : tSeq (tIfS t tu tNext) tv D' σ H := q_if h w h1 h2
def sq (k : Bool) (as : List D) : D := if k then .list as else .tuple as
theorem sq_at {k : Bool} {as : List D} {v : V} {G : Hp} (h : Dq G v (sq k as)) : ∃ a xs, v = .ref a ∧ DqA G xs as ∧ ∀ H, Ex G H → SqK K k H a xs := by
  cases k with
  | true =>
    have h : Dq G v (.list as) := h
    cases h with
    | lst ha hx => exact ⟨_, _, rfl, hx, fun H e => SqL.of (e _ _ ha)⟩
  | false =>
    have h : Dq G v (.tuple as) := h
    cases h with
    | tup ha hx => exact ⟨_, _, rfl, hx, fun H e => TupA.sq (TupA.mono ha e)⟩
end
end Mv
namespace Mv
open PySem L2 Evl
section
variable {K : PySem.W.Frag} {σ : L2.St} {G G' H H' : Hp} {ta tb te tx : TE} {t u : TT} {d e z : D} {ds es : List D} {D' : Ends} {tu tz : TS}
end
section
variable {X : Cx}
theorem tuple_mul1 (l : Addr) (items : Array Value) (n : Nat) (dd : Option Addr) (sl : Array (Option Value)) (u : Tok) :
    Meets (Builtin.«tuple.__mul__» ⟨[.ref l, .int 1 u], []⟩) (fun _ R s => s.heap.get? l = some { cls := .type "tuple", dict := dd, data := .seq items n, slots := sl } ∧ R (.ok (.ret (Value.ref l))) s) :=
  .of_wp fun prog w A R s h => by
    obtain ⟨hp, g, d, tk, os⟩ := (s)
    obtain ⟨hl, h⟩ := h
    have f1 := AutoSeq1.idx_int
    wp_walk using wpAny_loadPart' hl
    exact ⟨_, rfl, h⟩
theorem int_rmul1 (a : Int) (t : Tok) (l : Addr) (items : Array Value) (n : Nat) (dd : Option Addr) (sl : Array (Option Value)) :
    Meets (Builtin.«int.__rmul__» ⟨[.int a t, .ref l], []⟩) (fun _ R s => s.heap.get? l = some { cls := .type "tuple", dict := dd, data := .seq items n, slots := sl } ∧ R (.ok (.ret Value.notImplemented)) s) := int_rmul_tuple a t l items n dd sl
def rRepA (K : PySem.W.Frag) : R2 := fun x y H Q => ∃ l k xs, x = .ref l ∧ y = .int k ∧ SqT K H l xs ∧ xs ≠ [] ∧ 1 ≤ k ∧ k ≤ 1000 ∧ xs.length ≤ 1000 ∧ (k = 1 → Q (.ref l) H) ∧ (2 ≤ k → ∀ p o, H p = none → o.dict = none → Q (.ref p) (upd H p (tupO o (List.replicate k.toNat xs).flatten)))
theorem op_repA : OpR X (binaryOp .Mult) (rRepA X.K) := by
  intro pins; intro s σ H x y v u Q I rx ry h
  obtain ⟨l, k, xs, rfl, rfl, hT, hne, h1, h2, hz, q1, q2⟩ := h
  by_cases hk : k = 1
  · subst hk
    cases rx
    obtain ⟨t, rfl⟩ := ry
    obtain ⟨its, r, ⟨⟨cls, dd, data, sl⟩, ho, hc, n, hd⟩, hs⟩ := (I.tuple hT)
    simp only at hc hd
    subst hc hd
    refine wpAny_binaryOp_repeat_ref (T := "tuple") (U := "int") (by decide) ⟨_, ho, rfl⟩ (fun s' => typeIs_int s' 1 t) noFill_tuple_mul F.fills_int_mul F.slot_int_rmul repeat_tuple F.slot_int_index.lookup
      (call_meets F.slot_int_rmul (typeIs_int s 1 t) F.entry_int_rmul (F.args_int_rmul_2 _ _) (int_rmul1 1 t l its.toArray n dd sl)
        ⟨ho, rfl, ⟨_, ho, rfl⟩, call_meets F.slot_tuple_mul ⟨_, ho, rfl⟩ F.entry_tuple_mul (F.args_tuple_mul_2 _ _) (tuple_mul1 l its.toArray n dd sl t) ⟨ho, ?_⟩⟩)
    exact ⟨.ref l, H, I, rfl, q1 rfl⟩
  · cases rx
    obtain ⟨t, rfl⟩ := ry
    exact op_repO I hT hne (by omega) h2 hz (q2 (by omega))
end
section
variable {K : PySem.W.Frag} {G : Hp} {z : D}
theorem opd_rep {as : List D} {k : Nat} (hne : as ≠ []) (h1 : 1 ≤ k) (h2 : k ≤ 1000) (hz : as.length ≤ 1000) : OpD (rRepA K) G (.tuple as) (.int (k : Int)) (.tuple (List.replicate k as).flatten) := fun x y G1 H1 a b hx hy Q q => by
  cases hx with
  | @tup p xs _ hp hxs =>
    cases hy
    refine ⟨p, (k : Int), xs, rfl, rfl, TupA.sq (TupA.mono hp b), fun e => hne (by subst e; cases hxs; rfl), by omega, by omega, by rw [hxs.len]; exact hz, fun e => ?_, fun _ l o hl od => ?_⟩
    · have e : k = 1 := by omega
      subst e
      rw [List.replicate_one, List.flatten_singleton] at q
      exact q _ G1 H1 (.refl b) (.tup hp hxs)
    · have s := Stp.new (o := tupO o (List.replicate (k : Int).toNat xs).flatten) b hl
      have hk : ((k : Int)).toNat = k := by omega
      rw [hk] at s ⊢
      exact q _ _ _ s (.tup (.new od) ((hxs.rep k).mono s.g))
end
end Mv
namespace Mv
open PySem L2 PyProof.Rows PySem.Spec
inductive TyY (K : PySem.W.Frag) (H : Hp) : V → Value → Prop where
  | x {v : V} {t : Value} (h : TyX K H v t) : TyY K H v t
  | d {a : Addr} {o : Obj} {kvs : List (List L2.Key × V)} (e : H a = some (.frz o (.dT kvs))) : TyY K H (.ref a) (.type "dict")
def rIsiY (K : PySem.W.Frag) : List V → Hp → VK → Prop := fun xs H Q => ∃ (v c : V) (t u : Value) (b : Bool), xs = [v, c] ∧ ClsV c u ∧ TyY K H v t ∧ PySem.W.kitOne K t u = some b ∧ Q (.bl b) H
section
variable {X : Cx}
theorem kitY {pins : List (Addr × Obj)} {σ : L2.St} {H : Hp} {s : Shared} {v : V} {u t : Value} (I : Inv X pins σ H s) (r : RelV v u) (ty : TyY X.K H v t) : ∃ S : Heap → Prop, PySem.W.KitX X.K u t S ∧ S s.heap ∧ u ≠ .builtin "__main__.__loader__#opaque" := by
  rcases ty with h | e
  · exact kit_of I r h
  · rename_i a o kvs
    obtain ⟨_, at_, exact_, _⟩ := I.frzT e
    obtain rfl : u = Value.ref a := r
    exact ⟨_, PySem.W.kitx_dict, ⟨o, at_, exact_.1⟩, fun z => nomatch z⟩
theorem call_isiY : CallR X (.builtin "isinstance") (rIsiY X.K) := fun pins s σ H xs us Q I r ⟨v, c, t, u, b, ex, k, ty, e, q⟩ => by
  subst ex
  obtain ⟨w1, w2, rfl, r1, r2⟩ := vals2 r
  obtain rfl := k.eq r2
  obtain ⟨S, Z, p, hx⟩ := kitY I r1 ty
  exact (PySem.W.kia_one Z I.kIn p e hx fun tk => ⟨.bl b, H, I.tok tk, rfl, q⟩)
end
end Mv
namespace Mv
open PySem PySem.Spec PyProof.Rows L2 Evl
section
variable {prog : Program} {w : World} {A : Around} {E : Value → Shared → Prop} {s : Shared}
end
section
variable {X : Cx}
end
section
variable {K : PySem.W.Frag} {σ : L2.St} {G H : Hp} {te : TE} {d e z : D} {ds : List D}
def rInA (K : PySem.W.Frag) (neg : Bool) : R2 := fun x y H Q => ∃ (d : D) (ds : List D), Dp K H x d ∧ (Dp K H y (.list ds) ∧ SeqAt.shaped (.list ds) = true ∨ Dp K H y (.tuple ds) ∧ SeqAt.shaped (.tuple ds) = true) ∧ SeqAt.shaped d = true ∧ Q (.bl (if neg then !ds.any fun z => PyData.eqv z d else ds.any fun z => PyData.eqv z d)) H
theorem op_inA {X : Cx} (hu : X.A.units + 64 + 1 < cLine) : OpR X (compareOp .In) (rInA X.K false) := by
  intro pins; intro s σ H x y v u Q I rx ry h
  obtain ⟨d, ds, hd, he, sd, q⟩ := h
  obtain ⟨as, r1⟩ := (Dp.reads I d x v hd rx)
  rcases he with ⟨he, se⟩ | ⟨he, se⟩
  · obtain ⟨bs, r2⟩ := Dp.reads I (.list ds) y u he ry
    exact (SeqAt.in_list_reads r2 r1 (SeqAt.canLay_of_shaped se) (SeqAt.canLay_of_shaped sd) (room_in_shaped sd hu) ⟨.bl _, H, I, rfl, q⟩)
  · obtain ⟨bs, r2⟩ := Dp.reads I (.tuple ds) y u he ry
    exact SeqAt.in_tuple_reads r2 r1 (SeqAt.canLay_of_shaped se) (SeqAt.canLay_of_shaped sd) (room_in_shaped sd hu) ⟨.bl _, H, I, rfl, q⟩
theorem op_notInA {X : Cx} (hu : X.A.units + 64 + 1 < cLine) : OpR X (compareOp .NotIn) (rInA X.K true) := by
  intro pins; intro s σ H x y v u Q I rx ry h
  obtain ⟨d, ds, hd, he, sd, q⟩ := h
  obtain ⟨as, r1⟩ := (Dp.reads I d x v hd rx)
  rcases he with ⟨he, se⟩ | ⟨he, se⟩
  · obtain ⟨bs, r2⟩ := Dp.reads I (.list ds) y u he ry
    exact (SeqAt.notIn_list_reads r2 r1 (SeqAt.canLay_of_shaped se) (SeqAt.canLay_of_shaped sd) (room_in_shaped sd hu) ⟨.bl _, H, I, rfl, q⟩)
  · obtain ⟨bs, r2⟩ := Dp.reads I (.tuple ds) y u he ry
    exact SeqAt.notIn_tuple_reads r2 r1 (SeqAt.canLay_of_shaped se) (SeqAt.canLay_of_shaped sd) (room_in_shaped sd hu) ⟨.bl _, H, I, rfl, q⟩
theorem opd_inL {neg : Bool} (f1 : flatD d = true) (f2 : flatD (.list ds) = true) (s1 : SeqAt.shaped d = true) (s2 : SeqAt.shaped (.list ds) = true) : OpD (rInA K neg) G d (.list ds) (.bool (if neg then !ds.any fun z => PyData.eqv z d else ds.any fun z => PyData.eqv z d)) := fun x y G1 H1 a b hx hy Q q =>
  ⟨d, ds, dp_of b hx f1, .inl ⟨dp_of b hy f2, s2⟩, s1, q _ G1 H1 (.refl b) (.bl _)⟩
theorem opd_inT {neg : Bool} (f1 : flatD d = true) (f2 : flatD (.tuple ds) = true) (s1 : SeqAt.shaped d = true) (s2 : SeqAt.shaped (.tuple ds) = true) : OpD (rInA K neg) G d (.tuple ds) (.bool (if neg then !ds.any fun z => PyData.eqv z d else ds.any fun z => PyData.eqv z d)) := fun x y G1 H1 a b hx hy Q q =>
  ⟨d, ds, dp_of b hx f1, .inr ⟨dp_of b hy f2, s2⟩, s1, q _ G1 H1 (.refl b) (.bl _)⟩
end
end Mv
namespace Mv
open PySem PySem.Spec PyProof.Rows L2 Evl HT
section
variable {prog : Program} {w : World} {A : Around} {E : Value → Shared → Prop} {s : Shared}
end
section
variable {X : Cx}
end
section
variable {K : PySem.W.Frag} {σ : L2.St} {G : Hp} {te : TE}
end
end Mv
namespace Mv
open PySem PySem.Spec PyProof.Rows L2 Evl
section
variable {X : Cx}
end
theorem nodup_len {α : Type} [DecidableEq α] : ∀ {L M : List α}, L.Nodup → (∀ x ∈ L, x ∈ M) → L.length ≤ M.length
  | [], _, _, _ => Nat.zero_le _
  | x :: L, M, h, s => by
    have hx := s x (.head _)
    have hn := List.nodup_cons.mp h
    have ih := nodup_len (L := L) (M := M.erase x) hn.2 fun y hy => (List.mem_erase_of_ne (fun e => hn.1 (by rw [← e]; exact hy))).mpr (s y (.tail _ hy))
    rw [List.length_erase_of_mem hx] at ih
    have := List.length_pos_of_mem hx
    rw [List.length_cons]
    omega
section
variable {K : PySem.W.Frag} {P : Program} {w : World} {σ : L2.St} {G H : Hp} {te : TE}
end
end Mv
namespace Mv
open PySem L2 Evl
abbrev KK := List L2.Key
def lkD (es : List (KK × D)) (k : KK) : Option D := (es.find? fun e => decide (e.1 = k)).map (·.2)
def putD (es : List (KK × D)) (k : KK) (d : D) : List (KK × D) := if (es.any fun e => decide (e.1 = k)) = true then es.map (fun e => if e.1 = k then (e.1, d) else e) else es ++ [(k, d)]
def dropD (es : List (KK × D)) (k : KK) : List (KK × D) := es.filter fun e => decide (e.1 ≠ k)
theorem putD_len (es : List (KK × D)) (k : KK) (d : D) : (putD es k d).length ≤ es.length + 1 := by
  unfold putD
  split
  · rw [List.length_map]; omega
  · rw [List.length_append]; exact Nat.le_refl _
section
variable {G G' H : Hp} {kvs : List (KK × V)} {es : List (KK × D)} {k : KK} {d : D} {v : V}
theorem DqP.len (h : DqP G kvs es) : kvs.length = es.length := by
  induction kvs generalizing es with
  | nil => cases h; rfl
  | cons x xs ih => cases h with | cons _ _ t => rw [List.length_cons, List.length_cons, ih t]
theorem DqP.keys (h : DqP G kvs es) : kvs.map (·.1) = es.map (·.1) := by
  induction kvs generalizing es with
  | nil => cases h; rfl
  | cons x xs ih => cases h with | cons _ _ t => rw [List.map_cons, List.map_cons, ih t]
theorem DqP.val (h : DqP G kvs es) (l : lkD es k = some d) : ∃ v, valV kvs k = some v ∧ Dq G v d ∧ k ≠ [] := by
  induction kvs generalizing es with
  | nil => cases h; cases l
  | cons x xs ih =>
    cases h with
    | @cons k' v' d' _ es' nk q t =>
      unfold lkD at l
      rw [List.find?_cons] at l
      by_cases e : k' = k
      · rw [decide_eq_true e] at l
        cases l
        exact ⟨v', valV_pos e, q, e ▸ nk⟩
      · rw [decide_eq_false e] at l
        obtain ⟨u, h1, h2⟩ := ih t l
        exact ⟨u, (valV_neg e).trans h1, h2⟩
theorem any_key {α : Type} : ∀ {xs : List (KK × α)} {ys : List (KK × D)}, xs.map (·.1) = ys.map (·.1) → (xs.any fun e => decide (e.1 = k)) = ys.any fun e => decide (e.1 = k)
  | [], [], _ => rfl
  | [], _ :: _, h => by simp at h
  | _ :: _, [], h => by simp at h
  | x :: xs, y :: ys, h => by
    rw [List.map_cons, List.map_cons] at h
    injection h with h1 h2
    rw [List.any_cons, List.any_cons, any_key h2, h1]
theorem DqP.snoc (h : DqP G kvs es) (nk : k ≠ []) (q : Dq G v d) : DqP G (kvs ++ [(k, v)]) (es ++ [(k, d)]) := by
  induction kvs generalizing es with
  | nil => cases h; exact .cons nk q .nil
  | cons x xs ih => cases h with | cons n a t => exact .cons n a (ih t)
theorem DqP.repl (h : DqP G kvs es) (q : Dq G v d) : DqP G (kvs.map fun kv => if kv.1 = k then (kv.1, v) else kv) (es.map fun e => if e.1 = k then (e.1, d) else e) := by
  induction kvs generalizing es with
  | nil => cases h; exact .nil
  | cons x xs ih =>
    cases h with
    | @cons k' v' d' _ es' nk a t =>
      (rw [List.map_cons, List.map_cons])
      by_cases e : k' = k
      · simp only [e, if_true]; exact .cons (e ▸ nk) q (ih t)
      · simp only [e, if_false]; exact .cons nk a (ih t)
theorem DqP.put (h : DqP G kvs es) (nk : k ≠ []) (q : Dq G v d) : DqP G (putK kvs k v) (putD es k d) := by
  unfold putK putD
  rw [any_key h.keys]
  split
  · exact h.repl q
  · exact h.snoc nk q
theorem DqP.drop (h : DqP G kvs es) : DqP G (dropK kvs k) (dropD es k) := by
  unfold dropK dropD
  induction kvs generalizing es with
  | nil => cases h; exact .nil
  | cons x xs ih =>
    cases h with
    | @cons k' v' d' _ es' nk a t =>
      by_cases e : k' = k
      · rw [List.filter_cons_of_neg (by simp [e]), List.filter_cons_of_neg (by simp [e])]; exact ih t
      · rw [List.filter_cons_of_pos (by simp [e]), List.filter_cons_of_pos (by simp [e])]; exact .cons nk a (ih t)
theorem DqP.get {i : Nat} (h : DqP G kvs es) (e : kvs[i]? = some (k, v)) : ∃ d, es[i]? = some (k, d) ∧ Dq G v d ∧ k ≠ [] := by
  induction kvs generalizing es i with
  | nil => simp at e
  | cons x xs ih =>
    cases h with
    | @cons k' v' d' _ es' nk a t =>
      cases i with
      | zero => simp at e; obtain ⟨rfl, rfl⟩ := e; exact ⟨d', rfl, a, nk⟩
      | succ i => obtain ⟨d, h1, h2⟩ := ih t (by simpa using e); exact ⟨d, by simpa using h1, h2⟩
theorem keyD_inj : ∀ {a b : L2.Key}, keyD a = keyD b → a = b
  | .inl i, .inl j, h => by have h' : PyData.int i = .int j := h; injection h' with h'; rw [h']
  | .inr x, .inr y, h => by have h' : PyData.str x = .str y := h; injection h' with h'; rw [h']
  | .inl i, .inr y, h => nomatch (show PyData.int i = .str y from h)
  | .inr x, .inl j, h => nomatch (show PyData.str x = .int j from h)
theorem keyDs_inj : ∀ {a b : KK}, a.map keyD = b.map keyD → a = b
  | [], [], _ => rfl
  | [], _ :: _, h => by simp at h
  | _ :: _, [], h => by simp at h
  | x :: xs, y :: ys, h => by
    rw [List.map_cons, List.map_cons] at h
    injection h with h1 h2
    rw [keyD_inj h1, keyDs_inj h2]
theorem pairs_inj : ∀ {a b : List (KK × D)}, (a.map fun e => (kD e.1, e.2)) = (b.map fun e => (kD e.1, e.2)) → a = b
  | [], [], _ => rfl
  | [], _ :: _, h => by simp at h
  | _ :: _, [], h => by simp at h
  | (k1, d1) :: xs, (k2, d2) :: ys, h => by
    rw [List.map_cons, List.map_cons] at h
    injection h with h1 h2
    injection h1 with h3 h4
    have h3' : PyData.tuple (k1.map keyD) = .tuple (k2.map keyD) := h3
    injection h3' with h3'
    rw [keyDs_inj h3', pairs_inj h2, show d1 = d2 from h4]
theorem Dq.dict (h : Dq G v (dctD es)) : ∃ a o kvs, v = .ref a ∧ G a = some (.frz o (.dT kvs)) ∧ DqP G kvs es := by
  generalize e : dctD es = z at h
  cases h with
  | emp hp q =>
    exfalso
    injection e with e
    subst e
    cases es with
    | nil => cases q
    | cons x xs => cases q
  | dct hp k q =>
    injection e with e
    subst q
    have := pairs_inj e
    subst this
    exact ⟨_, _, _, rfl, hp, k⟩
  | _ => cases e
theorem keys_at : ∀ {k : KK} {vs : List V}, DqA G vs (k.map keyD) → vs = k.map kV
  | [], _, h => by cases h; rfl
  | .inl i :: k, _, h => by
    cases h with
    | cons a t => cases a; rw [List.map_cons, ← keys_at t]; rfl
  | .inr x :: k, _, h => by
    cases h with
    | cons a t => cases a; rw [List.map_cons, ← keys_at t]; rfl
theorem Dq.key (h : Dq G v (kD k)) (nk : k ≠ []) : ∃ b, v = .ref b ∧ G b = some (.tup (k.map kV)) := by
  generalize e : kD k = z at h
  cases h with
  | @tup a xs ds hp hx =>
    have e' : PyData.tuple (k.map keyD) = .tuple ds := e
    injection e' with e'
    subst e'
    rw [keys_at hx] at hp
    exact ⟨_, rfl, hp.key (keyV_ks nk)⟩
  | _ => cases e
def kn (G : Hp) (q : Addr) (xs : List V) : Hp := fun b => if b = q then some (.tup xs) else G b
theorem kn_ex {q : Addr} {xs : List V} (w : Ex G H) (h : H q = some (.tup xs)) : Ex G (kn G q xs) ∧ Ex (kn G q xs) H := by
  refine (⟨fun b o e => ?_, fun b o e => ?_⟩)
  · unfold kn
    by_cases z : b = q
    · have := w _ _ e
      rw [z, h] at this
      rw [if_pos z]; exact this
    · rw [if_neg z]; exact e
  · unfold kn at e
    by_cases z : b = q
    · rw [if_pos z] at e; rw [z]; cases e; exact h
    · rw [if_neg z] at e; exact w _ _ e
theorem Stp.know {G0 H0 : Hp} {q : Addr} {xs : List V} (s : Stp G0 H0 G H) (h : H q = some (.tup xs)) : Stp G0 H0 (kn G q xs) H := by
  obtain ⟨e1, e2⟩ := kn_ex s.w h
  refine ⟨s.g.trans e1, s.h, e2, fun b h1 h2 h3 => ?_⟩
  unfold kn
  by_cases z : b = q
  · exfalso
    cases e : H0 b with
    | none => exact h2 e
    | some o =>
      have := s.h _ _ e
      rw [z, h] at this
      cases this
      exact h3 xs e
  · rw [if_neg z]; exact s.n b h1 h2 h3
section
variable {K : PySem.W.Frag} {σ : L2.St} {te td ty : TE} {t : TT}
theorem d_dget (h : EvD td σ G (dctD es)) (hk : EvD ty σ G (kD k)) (l : lkD es k = some d) : EvD (tDGet td ty) σ G d := fun G1 H1 x w Q q => h G1 H1 x w _ fun v G2 H2 s hv => hk G2 H2 (x.trans s.g) s.w _ fun u G3 H3 s3 hu => by
  obtain ⟨a, o, kvs, rfl, ha, hp⟩ := hv.dict
  obtain ⟨z, hz, hq, nk⟩ := hp.val l
  obtain ⟨b, rfl, hb⟩ := hu.key nk
  exact ⟨a, z, rfl, .inr ⟨kvs, k, b, .inr ⟨o, s3.h _ _ (s.w _ _ ha)⟩, rfl, s3.w _ _ hb, hz.symm⟩, q z G3 H3 (s.trans s3) (hq.mono s3.g)⟩
end
end
end Mv
namespace Mv
open PySem L2 Evl
section
variable {G G' H H' : Hp} {kvs : List (KK × V)} {es : List (KK × D)} {k : KK} {d : D} {v : V} {a : Addr}
structure MD (G H : Hp) (a : Addr) (es : List (KK × D)) : Prop where
  g : G a = none
  at_ : ∃ kvs, H a = some (.dT kvs) ∧ DqP G kvs es
theorem MD.stp (m : MD G H a es) (s : Stp G H G' H') : MD G' H' a es := by
  obtain ⟨kvs, e, q⟩ := m.at_
  exact ⟨s.n a m.g (by rw [e]; intro z; cases z) (by rw [e]; intro _ z; cases z), kvs, s.h _ _ e, q.mono s.g⟩
theorem ex_mut {o : HO} (w : Ex G H) (g : G a = none) : Ex G (upd H a o) := fun b u q => by
  rw [upd_ne (fun z => by rw [z, g] at q; cases q)]
  exact w b u q
theorem MD.other {b : Addr} {o : HO} (m : MD G H a es) (ne : a ≠ b) : MD G (upd H b o) a es := by
  obtain ⟨kvs, e, q⟩ := m.at_
  exact ⟨m.g, kvs, by rw [upd_ne ne]; exact e, q⟩
def less (G : Hp) (a : Addr) : Hp := fun b => if b = a then none else G b
mutual
theorem Dq.less {G : Hp} {a : Addr} {o : Obj} {u : List (List L2.Key × V)} (f : G a = some (.frz o (.dT u))) : ∀ {v : V} {d : D}, Dq G v d → flatD d = true → Dq (less G a) v d
  | _, _, .non, _ => .non
  | _, _, .bl b, _ => .bl b
  | _, _, .int i, _ => .int i
  | _, _, .str x, _ => .str x
  | _, _, .lst (a := c) h k, fl => .lst (by unfold Mv.less; rw [if_neg (fun z => by rw [z, f] at h; cases h)]; exact h) (DqA.less f k (by simpa [flatD] using fl))
  | _, _, .tup (a := c) h k, fl => .tup (h.by fun o' y e => by unfold Mv.less; rw [if_neg (fun z => by rw [z, f] at e; rcases y with rfl | ⟨_, rfl⟩ <;> cases e)]; exact e) (DqA.less f k (by simpa [flatD] using fl))
  | _, _, .emp _ _, fl => by simp [flatD] at fl
  | _, _, .dct _ _ _, fl => by simp [flatD] at fl
theorem DqA.less {G : Hp} {a : Addr} {o : Obj} {u : List (List L2.Key × V)} (f : G a = some (.frz o (.dT u))) : ∀ {vs : List V} {ds : List D}, DqA G vs ds → flatDs ds = true → DqA (less G a) vs ds
  | _, _, .nil, _ => .nil
  | _, _, .cons h k, fl => by
    simp only [flatDs, Bool.and_eq_true] at fl
    exact .cons (Dq.less f h fl.1) (DqA.less f k fl.2)
end
theorem DqP.less {o : Obj} {u : List (List L2.Key × V)} (f : G a = some (.frz o (.dT u))) (fl : ∀ e ∈ es, flatD e.2 = true) (h : DqP G kvs es) : DqP (less G a) kvs es := by
  induction kvs generalizing es with
  | nil => cases h; exact .nil
  | cons x xs ih => cases h with | cons n q t => exact .cons n (q.less f (fl _ (List.mem_cons_self ..))) (ih (fun e he => fl e (List.mem_cons_of_mem _ he)) t)
structure MkD (G0 H0 : Hp) (p : Addr) (es : List (KK × D)) (H : Hp) : Prop where
  at_ : ∃ G kvs, Stp G0 H0 G H ∧ G p = none ∧ DqP G kvs es ∧ H p = some (.dT kvs)
theorem MkD.start {G0 H0 : Hp} {p : Addr} (x : Ex G0 H0) (hp : H0 p = none) : MkD G0 H0 p [] (upd H0 p (.dT [])) :=
  ⟨G0, [], ⟨.refl _, .new hp, x.trans (.new hp), fun _ h _ _ => h⟩, fresh_back x hp, .nil, upd_same⟩
theorem MkD.turn {G0 H0 H1 : Hp} {p : Addr} {σ2 : L2.St} {b : Bool} {t : TT} {tk tv : TE} (h0 : H0 p = none) (s : Stp G0 H0 G H1) (gp : G p = none) (hvs : DqP G kvs es) (hH : H1 p = some (.dT kvs)) (hz : es.length < sizeLine)
    (nk : b = true → k ≠ []) (ht : EvB t σ2 G b) (hk : b = true → EvD tk σ2 G (kD k)) (hv : b = true → EvD tv σ2 G d) {N : Hp → Prop} (go : ∀ H2, MkD G0 H0 p (if b then putD es k d else es) H2 → N H2) :
    t σ2 H1 fun b' H3 => if b' = true then tk σ2 H3 fun y H4 => tv σ2 H4 fun z H5 => ∃ kvs k a, y = .ref a ∧ H5 a = some (.tup (k.map kV)) ∧ H5 p = some (.dT kvs) ∧ kvs.length < sizeLine ∧ N (upd H5 p (.dT (putK kvs k z))) else N H3 := by
  have nt : ∀ {G1 H1 G2 H2 : Hp}, Stp G1 H1 G2 H2 → G1 p = none → H1 p = some (.dT kvs) → G2 p = none := fun s g e => s.n p g (by rw [e]; intro z; cases z) (by rw [e]; intro _ z; cases z)
  refine ht G H1 (.refl G) s.w _ fun G2 H2 s2 => ?_
  have h2 := s2.h _ _ hH
  have g2 := nt s2 gp hH
  cases b with
  | false => exact iteF (go _ ⟨G2, kvs, s.trans s2, g2, hvs.mono s2.g, h2⟩)
  | true =>
    refine iteT (hk rfl G2 H2 s2.g s2.w _ fun y G3 H3 s3 hy => hv rfl G3 H3 (s2.g.trans s3.g) s3.w _ fun z G4 H4 s4 hz4 => ?_)
    have h3 := s3.h _ _ h2
    have g4 := nt s4 (nt s3 g2 h2) h3
    obtain ⟨c, rfl, hc⟩ := hy.key (nk rfl)
    refine ⟨kvs, k, c, rfl, s4.h _ _ (s3.w _ _ hc), s4.h _ _ h3, by rw [hvs.len]; exact hz, go _ ⟨G4, putK kvs k z, ?_, g4, (hvs.mono ((s2.g.trans s3.g).trans s4.g)).put (nk rfl) hz4, upd_same⟩⟩
    have s5 := ((s.trans s2).trans s3).trans s4
    exact ⟨s5.g, s5.h.mut h0, ex_mut s5.w g4, s5.n⟩
end
def EvM (te : TE) (σ : L2.St) (G : Hp) (es : List (KK × D)) : Prop := ∀ G1 H1, Ex G G1 → Ex G1 H1 → ∀ Q : VK, (∀ p kvs G2 H2, Stp G1 H1 G2 H2 → H1 p = none → G2 p = none → H2 p = some (.dT kvs) → DqP G2 kvs es → Q (.ref p) H2) → te σ H1 Q
section
variable {K : PySem.W.Frag} {σ : L2.St} {G H : Hp} {te td tk tv tl : TE} {t : TT} {ta : TA} {es es2 : List (KK × D)} {a : Addr}
theorem EvM.mono {G' : Hp} (x : Ex G G') (h : EvM te σ G es) : EvM te σ G' es := fun G1 H1 a b Q q => h G1 H1 (x.trans a) b Q q
theorem EvM.is (h : EvM te σ G es) (e : es = es2) : EvM te σ G es2 := e ▸ h
variable {ty : TE} {k : KK} {d : D} {i : Nat} {tz : TS} {D' : Ends}
end
end Mv
namespace Mv
open PySem PySem.Spec PyProof.Rows L2 Evl
section
variable {σ : L2.St} {G : Hp} {td : TE} {es : List (KK × D)}
end
end Mv
namespace Mv
open PySem L2 Evl
section
variable {K : PySem.W.Frag} {G G' H H' : Hp} {a b : Addr} {ds : List D} {d z : D} {es es2 : List (KK × D)} {k : KK} {σ : L2.St} {te tv ty : TE} {tz : TS} {D' : Ends} {i j : Nat}
structure ML (G H : Hp) (a : Addr) (ds : List D) : Prop where
  g : G a = none
  at_ : ∃ us, H a = some (.lst us) ∧ DqA G us ds
theorem ML.stp (m : ML G H a ds) (s : Stp G H G' H') : ML G' H' a ds := by
  obtain ⟨us, e, q⟩ := m.at_
  exact ⟨s.n a m.g (by rw [e]; intro z; cases z) (by rw [e]; intro _ z; cases z), us, s.h _ _ e, q.mono s.g⟩
theorem ML.other {o : HO} (m : ML G H a ds) (ne : a ≠ b) : ML G (upd H b o) a ds := by
  obtain ⟨us, e, q⟩ := m.at_
  exact ⟨m.g, us, by rw [upd_ne ne]; exact e, q⟩
theorem ML.ne (m : ML G H a ds) (h : MD G H b es) : a ≠ b := fun z => by
  obtain ⟨us, e, _⟩ := m.at_
  obtain ⟨kvs, e2, _⟩ := h.at_
  rw [z, e2] at e; cases e
theorem Stp.mutd {G0 H0 : Hp} {o : HO} (s : Stp G0 H0 G H) (h0 : H0 a = none) (g : G a = none) : Stp G0 H0 G (upd H a o) := ⟨s.g, s.h.mut h0, ex_mut s.w g, s.n⟩
theorem ML.know {G0 H0 : Hp} (m : ML G H a ds) (s : Stp G0 H0 G H) (h0 : H0 a = none) : ∃ us, Stp G0 H0 (upd G a (.lst us)) H ∧ Ex G (upd G a (.lst us)) ∧ Dq (upd G a (.lst us)) (.ref a) (.list ds) ∧ Ex (upd G a (.lst us)) H ∧ ∀ {b es}, b ≠ a → MD G H b es → MD (upd G a (.lst us)) H b es := by
  obtain ⟨us, e, q⟩ := m.at_
  have e1 : Ex G (upd G a (.lst us)) := .new m.g
  have w1 : Ex (upd G a (.lst us)) H := fun b u z => by
    by_cases hb : b = a
    · rw [hb, upd_same] at z; rw [hb, ← z]; exact e
    · rw [upd_ne hb] at z; exact s.w _ _ z
  refine ⟨us, ⟨s.g.trans e1, s.h, w1, fun b h1 h2 h3 => ?_⟩, e1, .lst upd_same (q.mono e1), w1, fun ne m => ?_⟩
  · rw [upd_ne (fun z => h2 (by rw [z]; exact h0))]
    exact s.n b h1 h2 h3
  · obtain ⟨kvs, z, r⟩ := m.at_
    exact ⟨by rw [upd_ne ne]; exact m.g, kvs, z, r.mono e1⟩
end
section
variable {K : PySem.W.Frag} {σ : L2.St} {G H : Hp} {te : TE} {D' : Ends} {tu tz : TS}
end
end Mv
namespace Mv
open PySem PySem.Spec PyProof.Rows L2 Evl
def tVals (te : TE) : TE := fun σ H Q => te σ H fun x H1 => ∃ (a : Addr) (kvs : List (KK × V)), x = .ref a ∧ Rd H1 a (.dT kvs) ∧ ∀ p, H1 p = none → Q (.ref p) (upd H1 p (viewO "dict_values" p a))
def rListV : List V → Hp → VK → Prop := fun xs H Q => ∃ (p a : Addr) (kvs : List (KK × V)), xs = [.ref p] ∧ H p = some (viewO "dict_values" p a) ∧ Rd H a (.dT kvs) ∧ ∀ l, H l = none → Q (.ref l) (upd H l (.lst (kvs.map (·.2))))
section
variable {X : Cx}
theorem pe_vals {o : Expr} {to : TE} {apos cpos : Pos} (ho : PE X o to) (hbase : attributeBase o "values" X.env (eval o X.env) = eval o X.env := by rfl) (hline : (apos.endLine == cpos.line) = true := by rfl) :
    PE X (.Call (.Attribute o "values" apos) [] [] cpos) (tVals to) := by
  refine (⟨fun pins s σ H Q I h => ?_⟩)
  refine wpAny_Call_method0_late hbase hline (thn (ho.run pins s σ H _ I h) fun v s1 ⟨x, H1, I1, r1, a, kvs, ex, hd, q1⟩ => ?_)
  subst ex
  obtain rfl : v = Value.ref a := (r1)
  obtain ⟨size, mods, xs, rel, ob, es, ep, h1, h2, h3, h4, h5, h6⟩ := dt_rd I1.hok hd
  refine ⟨"dict", "dict.values", PySem.F.plainAttrs_dict, PySem.F.slot_dict_values, PySem.F.type_dict_values, ⟨ob, h1, h2.1⟩, fun b e => ?_, Calls.callWith_builtin rfl (PySem.evalArgs_none ?_)⟩
  · cases e
    exact ⟨ob, h1, h2.2.1⟩
  · refine call_meetsIn PySem.F.slot_dict_values ⟨ob, h1, h2.1⟩ PySem.F.entry_dict_values (PySem.F.args_dict_values_1 _) (PySem.meets_dict_values_raw a mods) ⟨⟨es, ep, ob, h1, h2, h3⟩, ?_⟩
    exact ⟨.ref s1.heap.objs.size, _, I1.laid (t' := s1.toks) (fun b o q => Heap.get?_push_of_some _ q) (Nat.le_refl _) (viewO_ok (Heap.get?_push_size _ rfl)), rfl, q1 _ (I1.hok.fresh (Nat.le_refl _))⟩
theorem KT.valsV {H : Hp} {kvs : List (KK × V)} {xs : List (KK × Addr × Value)} (r : KT H kvs xs) : Vals (kvs.map (·.2)) (xs.map fun x => x.2.2) := by
  induction r with
  | nil => exact .nil
  | cons h t ih => exact .cons h.2.2 ih
theorem call_listV (hc : X.calm = true) : CallR X (.type "list") rListV := by
  intro pins; intro s σ H xs us Q I r h
  obtain ⟨p, d, kvs, rfl, hp, hd, q⟩ := h
  obtain ⟨u, rfl, rx⟩ := r.one
  cases rx
  obtain ⟨z, hs, ks, pr, o, es, ep, ho, hx, hdt, he, hn⟩ := ((show ObjOk X.prog X.w H s.heap d (.dT kvs) from hd.ok I.hok))
  have hv : s.heap.get? p = some (DSub.viewOb "dict_values" d) := (show ObjOk X.prog X.w H s.heap p (viewO "dict_values" p d) from I.hok p _ hp).1
  have l1 : (es.size = ks.length) := size_of_entries he
  have l2 : (kvs.length = ks.length) := Paired.length pr
  refine PySem.W.kdl_call (PySem.KdlSrc.rawValues (es := es) (ep := ep)) (I.ok.hd hc) ⟨⟨_, hv, rfl, rfl⟩, o, ho, hx, hdt⟩ (by omega) fun h' tk acc' c' kp e it => ?_
  have ea : acc'.toList = ks.map fun x => x.2.2 := by
    have hl : (acc'.toList.length = ks.length) := by rw [Array.length_toList, it.1]; exact l1
    apply List.ext_getElem?
    intro j
    rw [List.getElem?_map]
    cases hj : (acc'.toList[j]?) with
    | none =>
      have h1 := List.getElem?_eq_none_iff.mp hj
      (rw [List.getElem?_eq_none (by omega)])
      rfl
    | some v =>
      obtain ⟨hi, hv2⟩ := it.2 j v (by rw [← Array.getElem?_toList]; exact hj)
      have qe := entry_at he j
      rw [Array.getElem?_eq_getElem hi] at qe
      cases hb : ks[j]? with
      | none =>
        rw [hb] at qe
        cases qe
      | some b =>
        rw [hb] at qe
        have e2 := Option.some.inj qe
        rw [hv2, e2]
        rfl
  have rv : Vals (kvs.map (·.2)) acc'.toList := by rw [ea]; exact KT.valsV pr
  have hz : (kvs.map (·.2)).length ≤ sizeLine := by rw [List.length_map]; omega
  refine ⟨.ref s.heap.objs.size, _, I.laid (t' := tk) (o := .lst (kvs.map (·.2))) kp (Nat.le_refl _) ?_, rfl, q _ (I.hok.fresh (Nat.le_refl _))⟩
  exact (⟨hz, acc'.toList, c', rv, by rw [Array.toArray_toList]; exact e⟩)
end
section
variable {K : PySem.W.Frag} {G : Hp} {σ : L2.St} {td : TE} {es : List (KK × D)}
theorem DqP.valsD {kvs : List (KK × V)} (h : DqP G kvs es) : DqA G (kvs.map (·.2)) (es.map (·.2)) := by
  induction es generalizing kvs with
  | nil => cases h; exact .nil
  | cons e es ih =>
    cases h with
    | cons _ h1 h2 => exact .cons h1 (ih h2)
theorem d_listV (h : EvD td σ G (dctD es)) : EvD (tCB rListV (tCons (tVals td) tNil)) σ G (.list (es.map (·.2))) := fun G1 H1 x w Q q => h G1 H1 x w _ fun v G2 H2 s hv => by
  obtain ⟨a, o, kvs, rfl, ha, hp⟩ := hv.dict
  refine ⟨a, kvs, rfl, .inr ⟨o, s.w _ _ ha⟩, fun p hp2 => ?_⟩
  have s3 := Stp.old s.w (.new (o := viewO "dict_values" p a) hp2)
  refine ⟨p, a, kvs, rfl, upd_same, .inr ⟨o, s3.w _ _ ha⟩, fun l hl => ?_⟩
  have s4 := Stp.new (o := .lst (kvs.map (·.2))) s3.w hl
  exact q _ _ _ ((s.trans s3).trans s4) (.lst upd_same (hp.valsD.mono s4.g))
end
end Mv
namespace Mv
open PySem L2 Evl
inductive Ce where
  | un
  | d (z : D)
  | ml (ds : List D)
  | md (es : List (KK × D))
  | fx (v : V)
abbrev En := List Ce
inductive Ou where
  | val (d : D)
  | exc (x : Str)
abbrev Re := Option Ou
inductive Oa where
  | vals (ds : List D)
  | exc (x : Str)
abbrev Ra := Option Oa
def isMut : Ce → Bool
  | .ml _ => true
  | .md _ => true
  | _ => false
def CellOk (G H : Hp) (o : Option (Option V)) : Ce → Prop
  | .un => True
  | .d z => ∃ v, o = some (some v) ∧ Dq G v z
  | .ml ds => ∃ p, o = some (some (.ref p)) ∧ ML G H p ds
  | .md es => ∃ p, o = some (some (.ref p)) ∧ MD G H p es
  | .fx v => o = some (some v)
structure Rel (G H : Hp) (σ : L2.St) (Γ : En) : Prop where
  w : Ex G H
  len : σ.length = Γ.length
  c : ∀ (i : Nat) (c : Ce), Γ[i]? = some c → CellOk G H (σ[i]?) c
  sep : ∀ (i j : Nat) (p : Addr) (ci cj : Ce), Γ[i]? = some ci → Γ[j]? = some cj → isMut ci = true → isMut cj = true → σ[i]? = some (some (.ref p)) → σ[j]? = some (some (.ref p)) → i = j
section
variable {G H G' H' G1 H1 G2 H2 : Hp} {σ : L2.St} {Γ : En} {o : Option (Option V)}
theorem CellOk.stp {c : Ce} (h : CellOk G H o c) (s : Stp G H G' H') : CellOk G' H' o c := by
  cases c with
  | un => trivial
  | d z => obtain ⟨v, e, q⟩ := h; exact ⟨v, e, q.mono s.g⟩
  | ml ds => obtain ⟨p, e, q⟩ := h; exact ⟨p, e, q.stp s⟩
  | md es => obtain ⟨p, e, q⟩ := h; exact ⟨p, e, q.stp s⟩
  | fx v => exact h
theorem Rel.stp (h : Rel G H σ Γ) (s : Stp G H G' H') : Rel G' H' σ Γ := ⟨s.w, h.len, fun i c e => (h.c i c e).stp s, h.sep⟩
theorem Rel.dq (h : Rel G H σ Γ) {i : Nat} {z : D} (e : Γ[i]? = some (.d z)) : ∃ v, σ[i]? = some (some v) ∧ Dq G v z := h.c i _ e
variable (E : XK) (ad : Str → Addr)
def tmOf (x : Str) : Option Int := if x = ("TooMany(8)" : Str) then some 8 else if x = ("TooMany(10)" : Str) then some 10 else if x = ("TooMany(12)" : Str) then some 12 else if x = ("TooMany(6)" : Str) then some 6 else if x = ("TooMany(7)" : Str) then some 7 else if x = ("TooMany(300)" : Str) then some 300 else if x = ("TooMany(13)" : Str) then some 13 else if x = ("TooMany(16)" : Str) then some 16 else if x = ("TooMany(9)" : Str) then some 9 else none
def tmName (m : Int) : Option Str := if m = 8 then some "TooMany(8)" else if m = 10 then some "TooMany(10)" else if m = 12 then some "TooMany(12)" else if m = 6 then some "TooMany(6)" else if m = 7 then some "TooMany(7)" else if m = 300 then some "TooMany(300)" else if m = 13 then some "TooMany(13)" else if m = 16 then some "TooMany(16)" else if m = 9 then some "TooMany(9)" else none
theorem tm_name {m : Int} {x : Str} (h : tmName m = some x) : tmOf x = some m := by
  unfold tmName at h
  repeat' split at h
  all_goals first | (cases h; subst_vars; decide) | cases h
def XE (x : Str) (H : Hp) : Prop := match tmOf x with
  | some m => ∀ d, H d = none → E (.ref (ad "TooMany")) (some d) (upd H d (.xd [("most", .int m)]))
  | none => E (.ref (ad x)) none H
def PoE (G H : Hp) (Q : VK) : Ou → Prop
  | .val d => ∀ v G2 H2, Stp G H G2 H2 → Dq G2 v d → Q v H2
  | .exc x => ∀ G2 H2, Stp G H G2 H2 → XE E ad x H2
def PoB (G H : Hp) (Q : Bool → Hp → Prop) : Ou → Prop
  | .val (.bool b) => ∀ G2 H2, Stp G H G2 H2 → Q b H2
  | .val _ => False
  | .exc x => ∀ G2 H2, Stp G H G2 H2 → XE E ad x H2
def PoA (G H : Hp) (Q : List V → Hp → Prop) : Oa → Prop
  | .vals ds => ∀ vs G2 H2, Stp G H G2 H2 → DqA G2 vs ds → Q vs H2
  | .exc x => ∀ G2 H2, Stp G H G2 H2 → XE E ad x H2
def PoM (G H : Hp) (Q : VK) : Ou → Prop
  | .val (.list ds) => ∀ p G2 H2, Stp G H G2 H2 → H p = none → ML G2 H2 p ds → Q (.ref p) H2
  | .val _ => False
  | .exc x => ∀ G2 H2, Stp G H G2 H2 → XE E ad x H2
def Se (te : TE) (f : En → Re) : Prop := ∀ σ Γ G H, Rel G H σ Γ → ∀ r, f Γ = some r → ∀ Q : VK, PoE E ad G H Q r → te σ H Q
def Sb (tt : TT) (f : En → Re) : Prop := ∀ σ Γ G H, Rel G H σ Γ → ∀ r, f Γ = some r → ∀ Q : Bool → Hp → Prop, PoB E ad G H Q r → tt σ H Q
def Sa (ta : TA) (f : En → Ra) : Prop := ∀ σ Γ G H, Rel G H σ Γ → ∀ r, f Γ = some r → ∀ Q : List V → Hp → Prop, PoA E ad G H Q r → ta σ H Q
def Sm (te : TE) (f : En → Re) : Prop := ∀ σ Γ G H, Rel G H σ Γ → ∀ r, f Γ = some r → ∀ Q : VK, PoM E ad G H Q r → te σ H Q
variable {E ad}
theorem XE.plain {x : Str} {H : Hp} (h : XE E ad x H) (q : tmOf x = none := by decide) : E (.ref (ad x)) none H := by unfold XE at h; rw [q] at h; exact h
theorem XE.most {x : Str} {m : Int} {H : Hp} (h : XE E ad x H) (q : tmOf x = some m) : ∀ d, H d = none → E (.ref (ad "TooMany")) (some d) (upd H d (.xd [("most", .int m)])) := by unfold XE at h; rw [q] at h; exact h
theorem XE.mkP {x : Str} {H : Hp} (q : tmOf x = none) (h : E (.ref (ad x)) none H) : XE E ad x H := by unfold XE; rw [q]; exact h
theorem XE.mkM {x : Str} {m : Int} {H : Hp} (q : tmOf x = some m) (h : ∀ d, H d = none → E (.ref (ad "TooMany")) (some d) (upd H d (.xd [("most", .int m)]))) : XE E ad x H := by unfold XE; rw [q]; exact h
theorem PoE.stp {Q : VK} {r : Ou} (h : PoE E ad G H Q r) (s : Stp G H G' H') : PoE E ad G' H' Q r := by
  cases r with
  | val d => exact fun v G2 H2 s2 q => h v G2 H2 (s.trans s2) q
  | exc x => exact fun G2 H2 s2 => h G2 H2 (s.trans s2)
theorem PoB.stp {Q : Bool → Hp → Prop} {r : Ou} (h : PoB E ad G H Q r) (s : Stp G H G' H') : PoB E ad G' H' Q r := by
  cases r with
  | val d =>
    cases d with
    | bool b => exact fun G2 H2 s2 => h G2 H2 (s.trans s2)
    | _ => exact h
  | exc x => exact fun G2 H2 s2 => h G2 H2 (s.trans s2)
theorem PoA.stp {Q : List V → Hp → Prop} {r : Oa} (h : PoA E ad G H Q r) (s : Stp G H G' H') : PoA E ad G' H' Q r := by
  cases r with
  | vals d => exact fun v G2 H2 s2 q => h v G2 H2 (s.trans s2) q
  | exc x => exact fun G2 H2 s2 => h G2 H2 (s.trans s2)
theorem h_old {p : Addr} (s : Stp G H G' H') (h : H' p = none) : H p = none := by
  cases e : H p with
  | none => rfl
  | some o => rw [s.h _ _ e] at h; cases h
theorem PoM.stp {Q : VK} {r : Ou} (h : PoM E ad G H Q r) (s : Stp G H G' H') : PoM E ad G' H' Q r := by
  cases r with
  | val d =>
    cases d with
    | list ds => exact fun p G2 H2 s2 hp q => h p G2 H2 (s.trans s2) (h_old s hp) q
    | _ => exact h
  | exc x => exact fun G2 H2 s2 => h G2 H2 (s.trans s2)
def bnd (a : Re) (k : D → Re) : Re := match a with
  | some (.val d) => k d
  | some (.exc x) => some (.exc x)
  | none => none
def bndA (a : Ra) (k : List D → Re) : Re := match a with
  | some (.vals d) => k d
  | some (.exc x) => some (.exc x)
  | none => none
def ret (o : Option D) : Re := match o with
  | some z => some (.val z)
  | none => none
theorem bnd_some {a : Re} {k : D → Re} {r : Ou} (h : bnd a k = some r) : (∃ d, a = some (.val d) ∧ k d = some r) ∨ ∃ x, a = some (.exc x) ∧ r = .exc x := by
  cases a with
  | none => cases h
  | some o =>
    cases o with
    | val d => exact .inl ⟨d, rfl, h⟩
    | exc x => cases h; exact .inr ⟨x, rfl, rfl⟩
theorem bndA_some {a : Ra} {k : List D → Re} {r : Ou} (h : bndA a k = some r) : (∃ d, a = some (.vals d) ∧ k d = some r) ∨ ∃ x, a = some (.exc x) ∧ r = .exc x := by
  cases a with
  | none => cases h
  | some o =>
    cases o with
    | vals d => exact .inl ⟨d, rfl, h⟩
    | exc x => cases h; exact .inr ⟨x, rfl, rfl⟩
theorem ret_some {o : Option D} {r : Ou} (h : ret o = some r) : ∃ z, o = some z ∧ r = .val z := by
  cases o with
  | none => cases h
  | some z => cases h; exact ⟨z, rfl, rfl⟩
def fVar (i : Nat) (Γ : En) : Re := match Γ[i]? with
  | some (.d z) => some (.val z)
  | _ => none
def fC (z : D) (_ : En) : Re := some (.val z)
def fOp (o : D → D → Option D) (fa fb : En → Re) (Γ : En) : Re := bnd (fa Γ) fun x => bnd (fb Γ) fun y => ret (o x y)
def fUn (o : D → Option D) (fa : En → Re) (Γ : En) : Re := bnd (fa Γ) fun x => ret (o x)
def OpS (r : R2) (o : D → D → Option D) : Prop := ∀ x y z, o x y = some z → ∀ G, OpD r G x y z
def UnS (r : V → Hp → VK → Prop) (o : D → Option D) : Prop := ∀ x z, o x = some z → ∀ G, UnD r G x z
def CaS (r : List V → Hp → VK → Prop) (o : List D → Option D) : Prop := ∀ ds z, o ds = some z → ∀ G, CaD r G ds z
variable {ta tb tc te : TE} {fa fb fc fe : En → Re} {tt tu : TT} {ft fu : En → Re} {tas : TA} {fas : En → Ra} {r r' : R2}
theorem u_var {i : Nat} : Se E ad (tVar i) (fVar i) := fun σ Γ G H R r e Q q => by
  unfold fVar at e
  cases h : Γ[i]? with
  | none => rw [h] at e; cases e
  | some c =>
    rw [h] at e
    cases c with
    | d z =>
      cases e
      obtain ⟨v, e1, q1⟩ := R.dq h
      exact ⟨v, e1, q v G H (.refl R.w) q1⟩
    | _ => cases e
theorem u_c {v : V} {z : D} (h : ∀ G, Dq G v z) : Se E ad (tC v) (fC z) := fun σ Γ G H R r e Q q => by
  cases e
  exact q v G H (.refl R.w) (h G)
theorem u_op {o : D → D → Option D} (ho : OpS r o) (ha : Se E ad ta fa) (hb : Se E ad tb fb) : Se E ad (tOp r ta tb) (fOp o fa fb) := fun σ Γ G H R r1 e Q q => by
  rcases bnd_some e with ⟨x, e1, e2⟩ | ⟨x, e1, rfl⟩
  · refine ha σ Γ G H R _ e1 _ fun v G2 H2 s2 q2 => ?_
    rcases bnd_some e2 with ⟨y, e3, e4⟩ | ⟨y, e3, rfl⟩
    · refine hb σ Γ G2 H2 (R.stp s2) _ e3 _ fun v3 G3 H3 s3 q3 => ?_
      obtain ⟨z, e5, rfl⟩ := ret_some e4
      exact ho x y z e5 G v v3 G3 H3 (s2.g.trans s3.g) s3.w (q2.mono s3.g) q3 Q ((q.stp s2).stp s3)
    · exact hb σ Γ G2 H2 (R.stp s2) _ e3 _ (q.stp s2)
  · exact ha σ Γ G H R _ e1 _ q
theorem u_un {r : V → Hp → VK → Prop} {o : D → Option D} (ho : UnS r o) (ha : Se E ad ta fa) : Se E ad (tUn r ta) (fUn o fa) := fun σ Γ G H R r1 e Q q => by
  rcases bnd_some e with ⟨x, e1, e2⟩ | ⟨x, e1, rfl⟩
  · refine ha σ Γ G H R _ e1 _ fun v G2 H2 s2 q2 => ?_
    obtain ⟨z, e5, rfl⟩ := ret_some e2
    exact ho x z e5 G v G2 H2 s2.g s2.w q2 Q (q.stp s2)
  · exact ha σ Γ G H R _ e1 _ q
def bo (r : Re) (k : Bool → Re) : Re := bnd r fun
  | .bool b => k b
  | _ => none
theorem bo_some {a : Re} {k : Bool → Re} {r : Ou} (h : bo a k = some r) : (∃ b, a = some (.val (.bool b)) ∧ k b = some r) ∨ ∃ x, a = some (.exc x) ∧ r = .exc x := by
  rcases bnd_some h with ⟨d, e, k⟩ | h
  · cases d with
    | bool b => exact .inl ⟨b, e, k⟩
    | _ => cases k
  · exact .inr h
def rB (b : Bool) : Re := some (.val (.bool b))
def fT (fe : En → Re) (Γ : En) : Re := bo (fe Γ) rB
def fAnd (fa fb : En → Re) (Γ : En) : Re := bo (fa Γ) fun b => if b = true then bo (fb Γ) rB else rB false
def fOr (fa fb : En → Re) (Γ : En) : Re := bo (fa Γ) fun b => if b = true then rB true else bo (fb Γ) rB
def fNot (fa : En → Re) (Γ : En) : Re := bo (fa Γ) fun b => rB (!b)
def fIf (ft fa fb : En → Re) (Γ : En) : Re := bo (ft Γ) fun b => if b = true then fa Γ else fb Γ
theorem rB_inj {b : Bool} {r : Ou} (h : rB b = some r) : r = .val (.bool b) := (Option.some.inj h).symm
theorem u_test (h : Se E ad te fe) : Sb E ad (tTest te) (fT fe) := fun σ Γ G H R r e Q q => by
  rcases bo_some e with ⟨b, e1, e2⟩ | ⟨x, e1, rfl⟩
  · rw [rB_inj e2] at q
    refine h σ Γ G H R _ e1 _ fun v G2 H2 s2 q2 => ?_
    cases q2
    exact ⟨b, rfl, q G2 H2 s2⟩
  · exact h σ Γ G H R _ e1 _ q
theorem u_tB (h : Se E ad te fe) : Sb E ad (tB te) (fT fe) := fun σ Γ G H R r e Q q => by
  rcases bo_some e with ⟨b, e1, e2⟩ | ⟨x, e1, rfl⟩
  · rw [rB_inj e2] at q
    refine h σ Γ G H R _ e1 _ fun v G2 H2 s2 q2 => ?_
    cases q2
    exact ⟨b, rfl, q G2 H2 s2⟩
  · exact h σ Γ G H R _ e1 _ q
theorem u_yes : Sb E ad tYes (fC (.bool true)) := fun σ Γ G H R r e Q q => by
  cases e
  exact q G H (.refl R.w)
theorem PoB.re {Q : Bool → Hp → Prop} {fe : Re} {r : Ou} (e : bo fe rB = some r) (q : PoB E ad G H Q r) : ∃ r', fe = some r' ∧ PoB E ad G H Q r' := by
  rcases bo_some e with ⟨b, e1, e2⟩ | ⟨x, e1, rfl⟩
  · rw [rB_inj e2] at q
    exact ⟨_, e1, q⟩
  · exact ⟨_, e1, q⟩
theorem u_tOr (ha : Sb E ad tt ft) (hb : Sb E ad tu fu) : Sb E ad (tOr tt tu) (fOr ft fu) := fun σ Γ G H R r e Q q => by
  rcases bo_some e with ⟨b, e1, e2⟩ | ⟨x, e1, rfl⟩
  · refine ha σ Γ G H R _ e1 _ fun G2 H2 s2 => ?_
    cases b with
    | true =>
      rw [if_pos rfl] at e2 ⊢
      rw [rB_inj e2] at q
      exact q G2 H2 s2
    | false =>
      rw [if_neg (by decide)] at e2 ⊢
      obtain ⟨r', e3, q3⟩ := PoB.re e2 q
      exact hb σ Γ G2 H2 (R.stp s2) _ e3 _ (q3.stp s2)
  · exact ha σ Γ G H R _ e1 _ q
theorem u_tNot (ha : Sb E ad tt ft) : Sb E ad (tNot tt) (fNot ft) := fun σ Γ G H R r e Q q => by
  rcases bo_some e with ⟨b, e1, e2⟩ | ⟨x, e1, rfl⟩
  · rw [rB_inj e2] at q
    exact ha σ Γ G H R _ e1 _ q
  · exact ha σ Γ G H R _ e1 _ q
theorem u_and (ha : Se E ad ta fa) (hb : Se E ad tb fb) : Se E ad (tAndV ta tb) (fAnd fa fb) := fun σ Γ G H R r e Q q => by
  rcases bo_some e with ⟨b, e1, e2⟩ | ⟨x, e1, rfl⟩
  · refine ha σ Γ G H R _ e1 _ fun v G2 H2 s2 q2 => ?_
    cases q2
    refine ⟨b, rfl, ?_⟩
    cases b with
    | true =>
      rw [if_pos rfl] at e2 ⊢
      rcases bo_some e2 with ⟨c, e3, e4⟩ | ⟨x, e3, rfl⟩
      · rw [rB_inj e4] at q
        exact hb σ Γ G2 H2 (R.stp s2) _ e3 _ (q.stp s2)
      · exact hb σ Γ G2 H2 (R.stp s2) _ e3 _ (q.stp s2)
    | false =>
      rw [if_neg (by decide)] at e2 ⊢
      rw [rB_inj e2] at q
      exact q _ G2 H2 s2 (.bl _)
  · exact ha σ Γ G H R _ e1 _ q
theorem u_not (ha : Se E ad ta fa) : Se E ad (tNotV ta) (fNot fa) := fun σ Γ G H R r e Q q => by
  rcases bo_some e with ⟨b, e1, e2⟩ | ⟨x, e1, rfl⟩
  · rw [rB_inj e2] at q
    refine ha σ Γ G H R _ e1 _ fun v G2 H2 s2 q2 => ?_
    cases q2
    exact ⟨b, rfl, q _ G2 H2 s2 (.bl _)⟩
  · exact ha σ Γ G H R _ e1 _ q
theorem u_if (ht : Sb E ad tt ft) (ha : Se E ad ta fa) (hb : Se E ad tb fb) : Se E ad (tIf tt ta tb) (fIf ft fa fb) := fun σ Γ G H R r e Q q => by
  rcases bo_some e with ⟨b, e1, e2⟩ | ⟨x, e1, rfl⟩
  · refine ht σ Γ G H R _ e1 _ fun G2 H2 s2 => ?_
    cases b with
    | true =>
      rw [if_pos rfl] at e2 ⊢
      exact ha σ Γ G2 H2 (R.stp s2) _ e2 _ (q.stp s2)
    | false =>
      rw [if_neg (by decide)] at e2 ⊢
      exact hb σ Γ G2 H2 (R.stp s2) _ e2 _ (q.stp s2)
  · exact ht σ Γ G H R _ e1 _ q
def fChain (o o' : D → D → Option D) (fa fb fc : En → Re) (Γ : En) : Re := bnd (fa Γ) fun x => bnd (fb Γ) fun y => bo (ret (o x y)) fun b => if b = true then bnd (fc Γ) fun z => bo (ret (o' y z)) rB else rB false
theorem u_chain {o o' : D → D → Option D} (ho : OpS r o) (ho' : OpS r' o') (ha : Se E ad ta fa) (hb : Se E ad tb fb) (hc : Se E ad tc fc) : Se E ad (tChain r r' ta tb tc) (fChain o o' fa fb fc) := fun σ Γ G H R r1 e Q q => by
  rcases bnd_some e with ⟨x, e1, e2⟩ | ⟨x, e1, rfl⟩
  · refine ha σ Γ G H R _ e1 _ fun v G2 H2 s2 q2 => ?_
    rcases bnd_some e2 with ⟨y, e3, e4⟩ | ⟨y, e3, rfl⟩
    · refine hb σ Γ G2 H2 (R.stp s2) _ e3 _ fun v3 G3 H3 s3 q3 => ?_
      rcases bo_some e4 with ⟨b, e5, e6⟩ | ⟨_, e5, _⟩
      · obtain ⟨_, e7, e8⟩ := ret_some e5
        cases e8
        refine ho x y _ e7 G v v3 G3 H3 (s2.g.trans s3.g) s3.w (q2.mono s3.g) q3 _ fun v4 G4 H4 s4 q4 => ?_
        cases q4
        refine ⟨b, rfl, ?_⟩
        have s24 := (s2.trans s3).trans s4
        cases b with
        | true =>
          rw [if_pos rfl] at e6 ⊢
          rcases bnd_some e6 with ⟨z, e9, e10⟩ | ⟨z, e9, rfl⟩
          · refine hc σ Γ G4 H4 (R.stp s24) _ e9 _ fun v5 G5 H5 s5 q5 => ?_
            rcases bo_some e10 with ⟨c, e11, e12⟩ | ⟨_, e11, _⟩
            · obtain ⟨_, e13, e14⟩ := ret_some e11
              cases e14
              rw [rB_inj e12] at q
              exact ho' y z _ e13 G v3 v5 G5 H5 (s24.trans s5).g s5.w (q3.mono (s4.trans s5).g) q5 Q ((q.stp s24).stp s5)
            · obtain ⟨_, _, e14⟩ := ret_some e11
              cases e14
          · exact hc σ Γ G4 H4 (R.stp s24) _ e9 _ (q.stp s24)
        | false =>
          rw [if_neg (by decide)] at e6 ⊢
          rw [rB_inj e6] at q
          exact q _ G4 H4 s24 (.bl _)
      · obtain ⟨_, _, e8⟩ := ret_some e5
        cases e8
    · exact hb σ Γ G2 H2 (R.stp s2) _ e3 _ (q.stp s2)
  · exact ha σ Γ G H R _ e1 _ q
def fNil (_ : En) : Ra := some (.vals [])
def fCons (fa : En → Re) (fr : En → Ra) (Γ : En) : Ra := match fa Γ with
  | some (.val d) => match fr Γ with
    | some (.vals ds) => some (.vals (d :: ds))
    | some (.exc x) => some (.exc x)
    | none => none
  | some (.exc x) => some (.exc x)
  | none => none
theorem u_nil : Sa E ad tNil fNil := fun σ Γ G H R r e Q q => by
  cases e
  exact q [] G H (.refl R.w) .nil
theorem u_cons {tr : TA} {fr : En → Ra} (ha : Se E ad ta fa) (hr : Sa E ad tr fr) : Sa E ad (tCons ta tr) (fCons fa fr) := fun σ Γ G H R r e Q q => by
  unfold fCons at e
  cases h : fa Γ with
  | none => rw [h] at e; cases e
  | some o =>
    rw [h] at e
    cases o with
    | exc x =>
      cases e
      exact ha σ Γ G H R _ h _ q
    | val d =>
      refine ha σ Γ G H R _ h _ fun v G2 H2 s2 q2 => ?_
      cases h2 : fr Γ with
      | none => rw [h2] at e; cases e
      | some o =>
        rw [h2] at e
        cases o with
        | exc x =>
          cases e
          exact hr σ Γ G2 H2 (R.stp s2) _ h2 _ (q.stp s2)
        | vals ds =>
          cases e
          exact hr σ Γ G2 H2 (R.stp s2) _ h2 _ fun vs G3 H3 s3 q3 => q (v :: vs) G3 H3 (s2.trans s3) (.cons (q2.mono s3.g) q3)
def small (n : Nat) : Bool := Nat.ble n 1000000
theorem small_le {n : Nat} (h : small n = true) : n ≤ 1000000 := Nat.le_of_ble_eq_true h
theorem small_line {n : Nat} (h : small n = true) : n ≤ sizeLine := by rw [sizeLine_eq]; have := small_le h; omega
def lim (ds : List D) (z : D) : Re := if small ds.length = true then some (.val z) else none
theorem lim_some {ds : List D} {z : D} {r : Ou} (h : lim ds z = some r) : small ds.length = true ∧ r = .val z := by
  unfold lim at h
  by_cases q : small ds.length = true
  · rw [if_pos q] at h; cases h; exact ⟨q, rfl⟩
  · rw [if_neg q] at h; cases h
def fTup (fas : En → Ra) (Γ : En) : Re := bndA (fas Γ) fun ds => lim ds (.tuple ds)
def fLst (fas : En → Ra) (Γ : En) : Re := bndA (fas Γ) fun ds => lim ds (.list ds)
theorem u_tup (h : Sa E ad tas fas) : Se E ad (tTup tas) (fTup fas) := fun σ Γ G H R r e Q q => by
  rcases bndA_some e with ⟨ds, e1, e2⟩ | ⟨x, e1, rfl⟩
  · obtain ⟨l, rfl⟩ := lim_some e2
    refine h σ Γ G H R _ e1 _ fun vs G2 H2 s2 q2 => ⟨by rw [q2.len]; exact small_line l, fun p o hp od => ?_⟩
    have s3 := Stp.new (o := tupO o vs) s2.w hp
    exact q _ _ _ (s2.trans s3) (.tup (.new od) (q2.mono s3.g))
  · exact h σ Γ G H R _ e1 _ q
theorem m_lst (h : Sa E ad tas fas) : Sm E ad (tLst tas) (fLst fas) := fun σ Γ G H R r e Q q => by
  rcases bndA_some e with ⟨ds, e1, e2⟩ | ⟨x, e1, rfl⟩
  · obtain ⟨l, rfl⟩ := lim_some e2
    refine h σ Γ G H R _ e1 _ fun vs G2 H2 s2 q2 => ⟨by rw [q2.len]; exact small_line l, fun p hp => ?_⟩
    exact q p G2 _ (s2.trans (Stp.old s2.w (.new hp))) (h_old s2 hp) ⟨fresh_back s2.w hp, vs, upd_same, q2⟩
  · exact h σ Γ G H R _ e1 _ q
theorem Sm.se (h : Sm E ad te fe) (hl : ∀ Γ d, fe Γ = some (.val d) → ∃ ds, d = .list ds) : Se E ad te fe := fun σ Γ G H R r e Q q => by
  cases r with
  | exc x => exact h σ Γ G H R _ e Q q
  | val d =>
    obtain ⟨ds, rfl⟩ := hl Γ d e
    refine h σ Γ G H R _ e Q fun p G2 H2 s2 hp m => ?_
    obtain ⟨us, s3, x3, k, _⟩ := m.know s2 hp
    exact q _ _ _ s3 k
theorem lst_lst (Γ : En) (d : D) (h : fLst fas Γ = some (.val d)) : ∃ ds, d = .list ds := by
  rcases bndA_some h with ⟨ds, e1, e2⟩ | ⟨x, e1, e⟩
  · obtain ⟨_, e⟩ := lim_some e2
    cases e
    exact ⟨ds, rfl⟩
  · cases e
theorem u_lst (h : Sa E ad tas fas) : Se E ad (tLst tas) (fLst fas) := (m_lst h).se lst_lst
def fCb (o : List D → Option D) (fas : En → Ra) (Γ : En) : Re := bndA (fas Γ) fun ds => ret (o ds)
theorem u_cb {rc : List V → Hp → VK → Prop} {o : List D → Option D} (ho : CaS rc o) (h : Sa E ad tas fas) : Se E ad (tCB rc tas) (fCb o fas) := fun σ Γ G H R r e Q q => by
  rcases bndA_some e with ⟨ds, e1, e2⟩ | ⟨x, e1, rfl⟩
  · obtain ⟨z, e3, rfl⟩ := ret_some e2
    exact h σ Γ G H R _ e1 _ fun vs G2 H2 s2 q2 => ho ds z e3 G vs G2 H2 s2.g s2.w q2 Q (q.stp s2)
  · exact h σ Γ G H R _ e1 _ q
def SpF (ad : Str → Addr) (g : List D → Re) : Sp := fun vs H Q E => ∃ G ds r, Ex G H ∧ DqA G vs ds ∧ g ds = some r ∧ PoE E ad G H Q r
def fCall (g : List D → Re) (fas : En → Ra) (Γ : En) : Re := bndA (fas Γ) g
theorem u_call {g : List D → Re} (h : Sa E ad tas fas) : Se E ad (tCall (SpF ad g) [] E tas) (fCall g fas) := fun σ Γ G H R r e Q q => by
  rcases bndA_some e with ⟨ds, e1, e2⟩ | ⟨x, e1, rfl⟩
  · refine h σ Γ G H R _ e1 _ fun vs G2 H2 s2 q2 => ?_
    rw [List.append_nil]
    exact ⟨G2, ds, r, s2.w, q2, e2, q.stp s2⟩
  · exact h σ Γ G H R _ e1 _ q
end
end Mv
namespace Mv
open PySem PySem.Spec PyProof.Rows L2 Evl
section
variable {K : PySem.W.Frag} {σ : L2.St} {G G' H H' : Hp} {ta tb te tx : TE} {t u : TT} {d e z : D} {ds es : List D} {D' : Ends} {tu tz : TS}
end
end Mv
namespace Mv
open PySem PySem.Spec PyProof.Rows L2 Evl
section
variable {prog : Program} {w : World} {A : Around} {E : Value → Shared → Prop} {s : Shared} {z TI TO i1 i2 T : Addr} {fp1 fp2 : List Addr} {n1 n2 i : Nat} {P1 P2 : Nat → Value → Prop} {St1 St2 : Nat → Heap → Prop} {f : Bool} {oT : Obj}
end
section
variable {prog : Program} {w : World} {A : Around} {E : Value → Shared → Prop} {s : Shared} {z TI TO i1 i2 T : Addr} {fp1 fp2 : List Addr} {n1 n2 i : Nat} {P1 P2 : Nat → Value → Prop} {St1 St2 : Nat → Heap → Prop} {f : Bool} {oT : Obj}
end
def ZS (k1 k2 : Bool) (z TI TO i1 i2 a b : Addr) (i : Nat) (H : Hp) (h : Heap) : Prop :=
  IsTupOf2 h TI (.ref i1) (.ref i2) ∧ ItrK k1 h i1 a i ∧ ItrK k2 h i2 b i ∧ (∃ o, h.get? TO = some o) ∧ ((IsZip h z TI TO .none ∧ ∃ x y, IsTupOf2 h TO x y) ∨ ∃ T f u v, IsZipHeld h z TI TO T f ∧ Rd H T (.tup [u, v]))
section
variable {X : Cx} {pins : List (Addr × Obj)} {σ : L2.St} {H : Hp} {s : Shared} {A : Around} {E : Value → Shared → Prop} {z TI TO i1 i2 a b : Addr} {k1 k2 : Bool} {xs ys : List V} {i : Nat}
theorem ZS.keep {h h' : Heap} (st : ZS k1 k2 z TI TO i1 i2 a b i H h) (k : ∀ c ∈ [z, TI, TO, i1, i2], ∀ o, h.get? c = some o → h'.get? c = some o) : ZS k1 k2 z TI TO i1 i2 a b i H h' := by
  obtain ⟨t, h1, h2, ⟨oO, eO⟩, q⟩ := st
  refine ⟨k TI (by simp) _ t, h1.at fun o q => k i1 (by simp) o q, h2.at fun o q => k i2 (by simp) o q, ⟨oO, k TO (by simp) _ eO⟩, ?_⟩
  rcases q with ⟨hz, x, y, hTO⟩ | ⟨T, f, u, v, hz, hT⟩
  · exact .inl ⟨k z (by simp) _ hz, x, y, k TO (by simp) _ hTO⟩
  · exact .inr ⟨T, f, u, v, k z (by simp) _ hz, hT⟩
end
end Mv
namespace Mv
open PySem PySem.Spec PyProof.Rows L2 Evl
theorem SqK.old {K : PySem.W.Frag} {k : Bool} {H H' : Hp} {a : Addr} {xs : List V} (h : SqK K k H a xs) (e : Ex H H') : SqK K k H' a xs := by
  cases k with
  | true => exact (show SqL K H a xs from h).elim (fun h => .inl (h.elim (fun h => .inl (e _ _ h)) fun ⟨o, h⟩ => .inr ⟨o, e _ _ h⟩)) fun h => .inr h
  | false => exact (show SqT K H a xs from h).elim (fun h => .inl (h.elim (fun h => .inl (e _ _ h)) fun ⟨o, h⟩ => .inr ⟨o, e _ _ h⟩)) fun h => .inr h
section
variable {X : Cx} {pins : List (Addr × Obj)} {σ : L2.St} {A : Around} {z TI TO i1 i2 a b : Addr} {k1 k2 : Bool} {xs ys : List V}
end
end Mv
namespace Mv
open PySem PySem.Spec PyProof.Rows L2 Evl
section
variable {X : Cx} {pins : List (Addr × Obj)} {σ : L2.St} {A : Around} {E : Value → Shared → Prop} {H : Hp} {s : Shared} {z TI TO i1 i2 a b : Addr} {k1 k2 : Bool} {xs ys : List V}
end
end Mv
namespace Mv
open PySem PySem.Spec PyProof.Rows L2 Evl
section
variable {K : PySem.W.Frag} {σ : L2.St} {G : Hp} {ta : TA} {k1 k2 : Bool} {as bs : List D}
end
end Mv
namespace Mv
open PySem L2 Evl
def noT (G : Hp) : Hp := fun b => match G b with
  | some (.tbl _) => none
  | x => x
theorem noT_at {G : Hp} {b : Addr} {o : HO} (h : G b = some o) (n : ∀ ps, o ≠ .tbl ps) : noT G b = some o := by
  unfold noT
  rw [h]
  cases o with
  | tbl ps => exact (n ps rfl).elim
  | _ => rfl
theorem of_noT {G : Hp} {b : Addr} {o : HO} (h : noT G b = some o) : G b = some o ∧ ∀ ps, o ≠ .tbl ps := by
  unfold noT at h
  cases e : G b with
  | none => rw [e] at h; cases h
  | some u =>
    rw [e] at h
    cases u with
    | tbl ps => cases h
    | _ => cases h; exact ⟨rfl, fun _ z => by cases z⟩
theorem noT_none {G : Hp} {b : Addr} (h : G b = none) : noT G b = none := by unfold noT; rw [h]
mutual
theorem Dq.noT {G : Hp} : ∀ {v : V} {d : D}, Dq G v d → Dq (noT G) v d
  | _, _, .non => .non
  | _, _, .bl b => .bl b
  | _, _, .int i => .int i
  | _, _, .str x => .str x
  | _, _, .lst h k => .lst (noT_at h fun _ z => by cases z) (DqA.noT k)
  | _, _, .tup h k => .tup (h.by fun o z e => noT_at e fun _ q => by rcases z with rfl | ⟨_, rfl⟩ <;> cases q) (DqA.noT k)
  | _, _, .emp h r => .emp (noT_at h fun _ z => by cases z) r
  | _, _, .dct h k r => .dct (noT_at h fun _ z => by cases z) (DqP.noT k) r
theorem DqA.noT {G : Hp} : ∀ {vs : List V} {ds : List D}, DqA G vs ds → DqA (noT G) vs ds
  | _, _, .nil => .nil
  | _, _, .cons h k => .cons (Dq.noT h) (DqA.noT k)
theorem DqP.noT {G : Hp} : ∀ {kvs : List (List L2.Key × V)} {es : List (List L2.Key × D)}, DqP G kvs es → DqP (noT G) kvs es
  | _, _, .nil => .nil
  | _, _, .cons n h k => .cons n (Dq.noT h) (DqP.noT k)
end
theorem noT_ex {G : Hp} : Ex (noT G) G := fun b o e => (of_noT e).1
theorem noT_w {G H : Hp} (w : Ex G H) : Ex (noT G) H := fun b o e => w b o (of_noT e).1
theorem wipe_at {σ : L2.St} {k : Nat} : ∀ vs : List Nat, (wipe σ vs)[k]? = if k ∈ vs then (if k < σ.length then some none else none) else σ[k]?
  | [] => by rw [if_neg (List.not_mem_nil)]; rfl
  | v :: vs => by
    have ih := wipe_at (σ := σ) (k := k) vs
    unfold wipe
    by_cases hv : v = k
    · subst hv
      rw [if_pos (List.mem_cons_self ..)]
      by_cases hl : v < σ.length
      · rw [if_pos hl, List.getElem?_set_self (by rw [wipe_length]; exact hl)]
      · rw [if_neg hl]
        exact List.getElem?_eq_none_iff.mpr (by rw [List.length_set, wipe_length]; omega)
    · rw [List.getElem?_set_ne hv, ih]
      by_cases hk : k ∈ vs
      · rw [if_pos hk, if_pos (List.mem_cons_of_mem _ hk)]
      · rw [if_neg hk, if_neg (fun z => by rcases List.mem_cons.mp z with e | e; exact hv e.symm; exact hk e)]
theorem wipe_off {σ σ' : L2.St} {vs js : List Nat} (hl : σ'.length = σ.length) (h : ∀ k, k ∉ js → σ'[k]? = σ[k]?) (s : ∀ j ∈ js, j ∈ vs) : wipe σ' vs = wipe σ vs := by
  refine List.ext_getElem? fun k => ?_
  rw [wipe_at, wipe_at, hl]
  by_cases hk : k ∈ vs
  · rw [if_pos hk, if_pos hk]
  · rw [if_neg hk, if_neg hk]
    exact h k fun z => hk (s k z)
theorem wipe_two {σ : L2.St} {vs : List Nat} : wipe (wipe σ vs) vs = wipe σ vs := by
  refine List.ext_getElem? fun k => ?_
  rw [wipe_at, wipe_at, wipe_length]
  by_cases hk : k ∈ vs
  · rw [if_pos hk, if_pos hk]
  · rw [if_neg hk, if_neg hk]
def wipeC (Γ : En) : List Nat → En
  | [] => Γ
  | v :: vs => (wipeC Γ vs).set v .un
theorem wipeC_length (Γ : En) : ∀ vs : List Nat, (wipeC Γ vs).length = Γ.length
  | [] => rfl
  | v :: vs => by unfold wipeC; rw [List.length_set, wipeC_length Γ vs]
theorem wipeC_off {Γ : En} {k : Nat} : ∀ {vs : List Nat}, k ∉ vs → (wipeC Γ vs)[k]? = Γ[k]?
  | [], _ => rfl
  | v :: vs, h => by
    unfold wipeC
    rw [List.getElem?_set_ne (fun z => h (by rw [z]; exact List.mem_cons_self ..))]
    exact wipeC_off fun z => h (List.mem_cons_of_mem _ z)
theorem wipeC_at {Γ : En} {k : Nat} {c : Ce} : ∀ {vs : List Nat}, (wipeC Γ vs)[k]? = some c → c = .un ∨ (k ∉ vs ∧ Γ[k]? = some c)
  | [], h => .inr ⟨List.not_mem_nil, h⟩
  | v :: vs, h => by
    unfold wipeC at h
    by_cases hv : v = k
    · subst hv
      by_cases hl : v < (wipeC Γ vs).length
      · rw [List.getElem?_set_self hl] at h
        exact .inl (Option.some.inj h).symm
      · rw [List.getElem?_eq_none_iff.mpr (by rw [List.length_set]; omega)] at h
        cases h
    · rw [List.getElem?_set_ne hv] at h
      rcases wipeC_at h with e | ⟨h1, h2⟩
      · exact .inl e
      · exact .inr ⟨fun z => by rcases List.mem_cons.mp z with e | e; exact hv e.symm; exact h1 e, h2⟩
section
variable {G H G' H' G1 H1 G2 H2 : Hp} {σ : L2.St} {Γ Γ' : En}
theorem Rel.wipe (h : Rel G H σ Γ) (vs : List Nat) : Rel G H (wipe σ vs) (wipeC Γ vs) := by
  refine ⟨h.w, by rw [wipe_length, wipeC_length]; exact h.len, fun i c e => ?_, fun i j p ci cj e1 e2 m1 m2 s1 s2 => ?_⟩
  · rcases wipeC_at e with rfl | ⟨h1, h2⟩
    · trivial
    · rw [wipe_at, if_neg h1]
      exact h.c i c h2
  · rcases wipeC_at e1 with rfl | ⟨h1, h2⟩
    · cases m1
    rcases wipeC_at e2 with rfl | ⟨h3, h4⟩
    · cases m2
    rw [wipe_at, if_neg h1] at s1
    rw [wipe_at, if_neg h3] at s2
    exact h.sep i j p ci cj h2 h4 m1 m2 s1 s2
theorem set_at {α : Type} {l : List α} {j k : Nat} {a c : α} (h : (l.set j a)[k]? = some c) : (k = j ∧ j < l.length ∧ c = a) ∨ (k ≠ j ∧ l[k]? = some c) := by
  by_cases hj : j = k
  · subst hj
    by_cases hl : j < l.length
    · rw [List.getElem?_set_self hl] at h
      exact .inl ⟨rfl, hl, (Option.some.inj h).symm⟩
    · rw [List.getElem?_eq_none_iff.mpr (by rw [List.length_set]; omega)] at h
      cases h
  · rw [List.getElem?_set_ne hj] at h
    exact .inr ⟨fun z => hj z.symm, h⟩
theorem Rel.set (h : Rel G H σ Γ) {j : Nat} {v : V} {a : D} (q : Dq G v a) : Rel G H (σ.set j (some v)) (Γ.set j (.d a)) := by
  refine ⟨h.w, by rw [List.length_set, List.length_set]; exact h.len, fun i c e => ?_, fun i k p ci ck e1 e2 m1 m2 s1 s2 => ?_⟩
  · rcases set_at e with ⟨rfl, hl, rfl⟩ | ⟨ne, e⟩
    · rw [List.getElem?_set_self (by rw [h.len]; exact hl)]
      exact ⟨v, rfl, q⟩
    · rw [List.getElem?_set_ne (fun z => ne z.symm)]
      exact h.c i c e
  · rcases set_at e1 with ⟨rfl, hl, rfl⟩ | ⟨ne, e1⟩
    · cases m1
    rcases set_at e2 with ⟨rfl, hl, rfl⟩ | ⟨ne2, e2⟩
    · cases m2
    rw [List.getElem?_set_ne (fun z => ne z.symm)] at s1
    rw [List.getElem?_set_ne (fun z => ne2 z.symm)] at s2
    exact h.sep i k p ci ck e1 e2 m1 m2 s1 s2
end
abbrev Fs := D → En → Option En
def Sg (g : TG) (st : Fs) (js : List Nat) : Prop := ∀ σ Γ G H, Rel G H σ Γ → ∀ v a Γ', Dq G v a → st a Γ = some Γ' → ∀ R : L2.St → Hp → Prop, (∀ σ', (∀ G2 H2, Ex G G2 → Rel G2 H2 σ Γ → Rel G2 H2 σ' Γ') → σ'.length = σ.length → (∀ k : Nat, k ∉ js → σ'[k]? = σ[k]?) → (∀ (i : Nat) (c : Ce), Γ'[i]? = some c → isMut c = true → Γ[i]? = some c ∧ σ'[i]? = σ[i]?) → (∀ k : Nat, k ∉ js → Γ'[k]? = Γ[k]?) → R σ' H) → g v σ H R
def Sgs (g : TGs) (st : List D → En → Option En) (js : List Nat) : Prop := ∀ σ Γ G H, Rel G H σ Γ → ∀ vs as Γ', DqA G vs as → st as Γ = some Γ' → ∀ R : L2.St → Hp → Prop, (∀ σ', (∀ G2 H2, Ex G G2 → Rel G2 H2 σ Γ → Rel G2 H2 σ' Γ') → σ'.length = σ.length → (∀ k : Nat, k ∉ js → σ'[k]? = σ[k]?) → (∀ (i : Nat) (c : Ce), Γ'[i]? = some c → isMut c = true → Γ[i]? = some c ∧ σ'[i]? = σ[i]?) → (∀ k : Nat, k ∉ js → Γ'[k]? = Γ[k]?) → R σ' H) → g vs σ H R
def sName (j : Nat) : Fs := fun a Γ => some (Γ.set j (.d a))
def sNil : List D → En → Option En
  | [], Γ => some Γ
  | _ :: _, _ => none
def sCons (s : Fs) (r : List D → En → Option En) : List D → En → Option En
  | a :: as, Γ => match s a Γ with
    | some Γ1 => r as Γ1
    | none => none
  | [], _ => none
def sTup (n : Nat) (r : List D → En → Option En) : Fs := fun a Γ => match a with
  | .tuple as => if Nat.beq as.length n = true then r as Γ else none
  | _ => none
theorem g_name {j : Nat} : Sg (gName j) (sName j) [j] := fun σ Γ G H R v a Γ' q e Rr k => by
  cases e
  exact k _ (fun G2 H2 x R2 => R2.set (q.mono x)) (by rw [List.length_set]) (fun i hi => List.getElem?_set_ne (fun z => hi (by rw [z]; exact List.mem_singleton.mpr rfl))) (fun i c ec m => by
    rcases set_at ec with ⟨rfl, hl, rfl⟩ | ⟨ne, ec⟩
    · cases m
    · exact ⟨ec, List.getElem?_set_ne (fun z => ne z.symm)⟩) fun i hi => List.getElem?_set_ne (fun z => hi (by rw [z]; exact List.mem_singleton.mpr rfl))
theorem g_nil : Sgs gNil sNil [] := fun σ Γ G H R vs as Γ' q e Rr k => by
  cases q with
  | nil => cases e; exact ⟨rfl, k σ (fun _ _ _ R2 => R2) rfl (fun _ _ => rfl) (fun _ _ ec _ => ⟨ec, rfl⟩) fun _ _ => rfl⟩
  | cons _ _ => cases e
theorem g_cons {g : TG} {gs : TGs} {s : Fs} {r : List D → En → Option En} {js ks : List Nat} (h : Sg g s js) (hs : Sgs gs r ks) : Sgs (gCons g gs) (sCons s r) (js ++ ks) := fun σ Γ G H R vs as Γ' q e Rr k => by
  cases q with
  | nil => cases e
  | @cons v vs d ds q1 q2 =>
    have e' : (match s d Γ with | some Γ1 => r ds Γ1 | none => none) = some Γ' := e
    cases h1 : s d Γ with
    | none => rw [h1] at e'; cases e'
    | some Γ1 =>
      rw [h1] at e'
      refine ⟨v, vs, rfl, h σ Γ G H R v d Γ1 q1 h1 _ fun σ1 R1 l1 o1 m1 f1 => ?_⟩
      refine hs σ1 Γ1 G H (R1 G H (.refl G) R) vs ds Γ' q2 e' _ fun σ2 R2 l2 o2 m2 f2 => k σ2 (fun G2 H2 x R3 => R2 G2 H2 x (R1 G2 H2 x R3)) (l2.trans l1) (fun i hi => by rw [o2 i (fun z => hi (List.mem_append_right _ z)), o1 i (fun z => hi (List.mem_append_left _ z))]) (fun i c ec mc => by
        obtain ⟨e1, e2⟩ := m2 i c ec mc
        obtain ⟨e3, e4⟩ := m1 i c e1 mc
        exact ⟨e3, e2.trans e4⟩) fun i hi => by rw [f2 i (fun z => hi (List.mem_append_right _ z)), f1 i (fun z => hi (List.mem_append_left _ z))]
theorem g_tup {K : PySem.W.Frag} {n : Nat} {gs : TGs} {r : List D → En → Option En} {js : List Nat} (hs : Sgs gs r js) : Sg (gTup K n gs) (sTup n r) js := fun σ Γ G H R v a Γ' q e Rr k => by
  cases q with
  | @tup p xs ds hp hxs =>
    have e' : (if Nat.beq ds.length n = true then r ds Γ else none) = some Γ' := e
    by_cases hn : Nat.beq ds.length n = true
    · rw [if_pos hn] at e'
      exact ⟨p, xs, rfl, TupA.sq (TupA.mono hp R.w), by rw [hxs.len]; exact Nat.eq_of_beq_eq_true hn, hs σ Γ G H R xs ds Γ' hxs e' Rr k⟩
    · rw [if_neg hn] at e'; cases e'
  | _ => cases e
def Wlk (J : It) (G : Hp) (as : List D) : Prop := ∀ i H, Ex G H → (∀ a, as[i]? = some a → J.go i H ∧ ∀ v H2, J.yld i H v H2 → ∀ G1, Ex G G1 → Ex G1 H → ∃ G2, Stp G1 H G2 H2 ∧ Dq G2 v a) ∧ (i = as.length → J.stop i H)
theorem Wlk.mono {J : It} {G G' : Hp} {as : List D} (h : Wlk J G as) (x : Ex G G') : Wlk J G' as := fun i H e => ⟨fun a ha => ⟨((h i H (x.trans e)).1 a ha).1, fun v H2 y G1 e1 e2 => ((h i H (x.trans e)).1 a ha).2 v H2 y G1 (x.trans e1) e2⟩, (h i H (x.trans e)).2⟩
section
variable (E : XK) (ad : Str → Addr)
def PoI (G H : Hp) (Q : It → Hp → Prop) : Oa → Prop
  | .vals as => ∀ J G2 H2, Stp G H G2 H2 → Wlk J (noT G2) as → Q J H2
  | .exc x => ∀ G2 H2, Stp G H G2 H2 → XE E ad x H2
def Si (wi : TI) (f : En → Ra) : Prop := ∀ σ Γ G H, Rel G H σ Γ → ∀ r, f Γ = some r → ∀ Q : It → Hp → Prop, PoI E ad G H Q r → wi σ H Q
end
def iL (fe : En → Re) (Γ : En) : Ra := match fe Γ with
  | some (.val (.list as)) => some (.vals as)
  | some (.exc x) => some (.exc x)
  | _ => none
def iT (fe : En → Re) (Γ : En) : Ra := match fe Γ with
  | some (.val (.tuple as)) => some (.vals as)
  | some (.exc x) => some (.exc x)
  | _ => none
def upFrom (lo : Int) : Nat → List D
  | 0 => []
  | n + 1 => .int lo :: upFrom (lo + 1) n
def iR1 (fas : En → Ra) (Γ : En) : Ra := match fas Γ with
  | some (.vals [.int j]) => if small j.toNat = true ∧ -1000000 ≤ j then some (.vals (upFrom 0 j.toNat)) else none
  | some (.exc x) => some (.exc x)
  | _ => none
def iR2 (fas : En → Ra) (Γ : En) : Ra := match fas Γ with
  | some (.vals [.int i, .int j]) => if small (j - i).toNat = true ∧ -1000000 ≤ i ∧ i ≤ 1000000 ∧ -1000000 ≤ j ∧ j ≤ 1000000 then some (.vals (upFrom i (j - i).toNat)) else none
  | some (.exc x) => some (.exc x)
  | _ => none
def sqOf : Bool → D → Option (List D)
  | true, .list as => some as
  | false, .tuple as => some as
  | _, _ => none
def zipT : List D → List D → List D
  | a :: as, b :: bs => .tuple [a, b] :: zipT as bs
  | _, _ => []
def zipT3 : List D → List D → List D → List D
  | a :: as, b :: bs, c :: cs => .tuple [a, b, c] :: zipT3 as bs cs
  | _, _, _ => []
def iZ2 (k1 k2 : Bool) (fas : En → Ra) (Γ : En) : Ra := match fas Γ with
  | some (.vals [x, y]) => match sqOf k1 x, sqOf k2 y with
    | some as, some bs => some (.vals (zipT as bs))
    | _, _ => none
  | some (.exc x) => some (.exc x)
  | _ => none
def iZ3 (k1 k2 k3 : Bool) (fas : En → Ra) (Γ : En) : Ra := match fas Γ with
  | some (.vals [x, y, z]) => match sqOf k1 x, sqOf k2 y, sqOf k3 z with
    | some as, some bs, some cs => some (.vals (zipT3 as bs cs))
    | _, _, _ => none
  | some (.exc x) => some (.exc x)
  | _ => none
theorem upFrom_at {lo : Int} {n i : Nat} {a : D} (h : (upFrom lo n)[i]? = some a) : i < n ∧ a = .int (lo + i) := by
  induction n generalizing lo i with
  | zero => simp [upFrom] at h
  | succ n ih =>
    cases i with
    | zero => simp [upFrom] at h; exact ⟨by omega, by rw [← h]; simp⟩
    | succ i =>
      unfold upFrom at h
      rw [List.getElem?_cons_succ] at h
      obtain ⟨h1, h2⟩ := ih h
      exact ⟨by omega, by rw [h2]; congr 1; omega⟩
theorem upFrom_len (lo : Int) (n : Nat) : (upFrom lo n).length = n := by
  induction n generalizing lo with
  | zero => rfl
  | succ n ih => unfold upFrom; rw [List.length_cons, ih]
theorem zipT_at {as bs : List D} {i : Nat} {a : D} (h : (zipT as bs)[i]? = some a) : ∃ x y, as[i]? = some x ∧ bs[i]? = some y ∧ a = .tuple [x, y] := by
  induction as generalizing bs i with
  | nil => simp [zipT] at h
  | cons x as ih =>
    cases bs with
    | nil => simp [zipT] at h
    | cons y bs =>
      cases i with
      | zero => simp [zipT] at h; exact ⟨x, y, rfl, rfl, h.symm⟩
      | succ i => exact ih (by simpa [zipT] using h)
theorem zipT_len (as bs : List D) : (zipT as bs).length = min as.length bs.length := by
  induction as generalizing bs with
  | nil => simp [zipT]
  | cons x as ih =>
    cases bs with
    | nil => simp [zipT]
    | cons y bs => unfold zipT; rw [List.length_cons, ih, List.length_cons, List.length_cons]; omega
theorem zipT3_at {as bs cs : List D} {i : Nat} {a : D} (h : (zipT3 as bs cs)[i]? = some a) : ∃ x y z, as[i]? = some x ∧ bs[i]? = some y ∧ cs[i]? = some z ∧ a = .tuple [x, y, z] := by
  induction as generalizing bs cs i with
  | nil => simp [zipT3] at h
  | cons x as ih =>
    cases bs with
    | nil => simp [zipT3] at h
    | cons y bs =>
      cases cs with
      | nil => simp [zipT3] at h
      | cons z cs =>
        cases i with
        | zero => simp [zipT3] at h; exact ⟨x, y, z, rfl, rfl, rfl, h.symm⟩
        | succ i => exact ih (by simpa [zipT3] using h)
theorem zipT3_len (as bs cs : List D) : (zipT3 as bs cs).length = min as.length (min bs.length cs.length) := by
  induction as generalizing bs cs with
  | nil => simp [zipT3]
  | cons x as ih =>
    cases bs with
    | nil => simp [zipT3]
    | cons y bs =>
      cases cs with
      | nil => simp [zipT3]
      | cons z cs => unfold zipT3; rw [List.length_cons, ih, List.length_cons, List.length_cons, List.length_cons]; omega
section
variable {E : XK} {ad : Str → Addr} {K : PySem.W.Frag} {te : TE} {fe : En → Re} {tas : TA} {fas : En → Ra}
theorem i_list (h : Se E ad te fe) : Si E ad (iList K te) (iL fe) := fun σ Γ G H R r e Q q => by
  unfold iL at e
  split at e
  · rename_i as e1
    cases e
    refine h σ Γ G H R _ e1 _ fun v G2 H2 s2 q0 => ?_
    have q2 := q0.noT
    cases q2 with
    | @lst a xs _ ha hxs =>
      refine ⟨a, rfl, ⟨xs, SqL.of (noT_w s2.w _ _ ha)⟩, q _ G2 H2 s2 fun i H3 x3 => ⟨fun a' ha' => ?_, fun e => ⟨xs, SqL.of (x3 _ _ ha), by rw [hxs.len, e]; exact Nat.le_refl _⟩⟩⟩
      obtain ⟨v, hv, hd⟩ := hxs.getD ha'
      refine ⟨⟨xs, v, SqL.of (x3 _ _ ha), hv⟩, ?_⟩
      rintro v2 H4 ⟨rfl, hy⟩ G1 e1 e2
      have := hy xs (SqL.of (x3 _ _ ha))
      rw [hv] at this
      cases this
      exact ⟨G1, .refl e2, hd.mono e1⟩
  · rename_i x e1
    cases e
    exact h σ Γ G H R _ e1 _ q
  · cases e
theorem i_tup (h : Se E ad te fe) : Si E ad (iTup K te) (iT fe) := fun σ Γ G H R r e Q q => by
  unfold iT at e
  split at e
  · rename_i as e1
    cases e
    refine h σ Γ G H R _ e1 _ fun v G2 H2 s2 q0 => ?_
    have q2 := q0.noT
    cases q2 with
    | @tup a xs _ ha hxs =>
      refine ⟨a, rfl, ⟨xs, TupA.sq (TupA.mono ha (noT_w s2.w))⟩, q _ G2 H2 s2 fun i H3 x3 => ⟨fun a' ha' => ?_, fun e => ⟨xs, TupA.sq (TupA.mono ha x3), by rw [hxs.len, e]; exact Nat.le_refl _⟩⟩⟩
      obtain ⟨v, hv, hd⟩ := hxs.getD ha'
      refine ⟨⟨xs, v, TupA.sq (TupA.mono ha x3), hv⟩, ?_⟩
      rintro v2 H4 ⟨rfl, hy⟩ G1 e1 e2
      have := hy xs (TupA.sq (TupA.mono ha x3))
      rw [hv] at this
      cases this
      exact ⟨G1, .refl e2, hd.mono e1⟩
  · rename_i x e1
    cases e
    exact h σ Γ G H R _ e1 _ q
  · cases e
theorem wlk_rng {G : Hp} (lo : Int) (n : Nat) : Wlk (Itr lo n) G (upFrom lo n) := fun i H x => ⟨fun a ha => by
  obtain ⟨h1, rfl⟩ := upFrom_at ha
  refine ⟨h1, ?_⟩
  rintro v H2 ⟨rfl, rfl⟩ G1 e1 e2
  exact ⟨G1, .refl e2, .int _⟩, fun e => by rw [upFrom_len] at e; rw [e]; exact Nat.le_refl _⟩
theorem i_rng1 (h : Sa E ad tas fas) : Si E ad (iRng1 tas) (iR1 fas) := fun σ Γ G H R r e Q q => by
  unfold iR1 at e
  split at e
  · rename_i j e1
    by_cases hj : small j.toNat = true ∧ -1000000 ≤ j
    · rw [if_pos hj] at e
      cases e
      have := small_le hj.1
      refine h σ Γ G H R _ e1 _ fun vs G2 H2 s2 q0 => ?_
      have q2 := q0.noT
      cases q2 with
      | cons q3 q4 =>
        cases q4
        cases q3
        exact ⟨j, rfl, by omega, by omega, q _ G2 H2 s2 (wlk_rng 0 _)⟩
    · rw [if_neg hj] at e; cases e
  · rename_i x e1
    cases e
    exact h σ Γ G H R _ e1 _ q
  · cases e
theorem i_rng2 (h : Sa E ad tas fas) : Si E ad (iRng2 tas) (iR2 fas) := fun σ Γ G H R r e Q q => by
  unfold iR2 at e
  split at e
  · rename_i i j e1
    by_cases hj : small (j - i).toNat = true ∧ -1000000 ≤ i ∧ i ≤ 1000000 ∧ -1000000 ≤ j ∧ j ≤ 1000000
    · rw [if_pos hj] at e
      cases e
      refine h σ Γ G H R _ e1 _ fun vs G2 H2 s2 q0 => ?_
      have q2 := q0.noT
      cases q2 with
      | cons q3 q4 =>
        cases q4 with
        | cons q5 q4 =>
          cases q4
          cases q3
          cases q5
          exact ⟨i, j, rfl, ⟨by omega, by omega, by omega, by omega⟩, q _ G2 H2 s2 (wlk_rng i _)⟩
    · rw [if_neg hj] at e; cases e
  · rename_i x e1
    cases e
    exact h σ Γ G H R _ e1 _ q
  · cases e
theorem sq_of {k : Bool} {x : D} {as : List D} (h : sqOf k x = some as) : x = sq k as := by
  cases k <;> cases x <;> first | (cases h; rfl) | cases h
theorem i_zip2 {k1 k2 : Bool} (h : Sa E ad tas fas) : Si E ad (iZip2 K k1 k2 tas) (iZ2 k1 k2 fas) := fun σ Γ G H R r e Q q => by
  unfold iZ2 at e
  split at e
  · rename_i x y e1
    split at e
    · rename_i as bs h1 h2
      cases e
      have ex := sq_of h1
      have ey := sq_of h2
      subst ex ey
      refine h σ Γ G H R _ e1 _ fun vs G2 H2 s2 q0 => ?_
      have q2 := q0.noT
      cases q2 with
      | cons q3 q4 =>
        cases q4 with
        | cons q5 q4 =>
          cases q4
          obtain ⟨a, xs, rfl, hxs, qa⟩ := sq_at (K := K) q3
          obtain ⟨b, ys, rfl, hys, qb⟩ := sq_at (K := K) q5
          refine ⟨a, b, xs, ys, rfl, qa _ (noT_w s2.w), qb _ (noT_w s2.w), q _ G2 H2 s2 fun i H3 x3 => ⟨fun a' ha' => ?_, fun e => ?_⟩⟩
          · obtain ⟨dx, dy, hx, hy, rfl⟩ := zipT_at ha'
            obtain ⟨vx, hvx, hdx⟩ := hxs.getD hx
            obtain ⟨vy, hvy, hdy⟩ := hys.getD hy
            refine ⟨⟨xs, ys, vx, vy, qa _ x3, qb _ x3, hvx, hvy⟩, ?_⟩
            rintro v2 H4 ⟨T, x', y', o', rfl, hT, hO, rfl, f1, f2⟩ G1 e1 e2
            have z1 := f1 xs (qa _ x3)
            have z2 := f2 ys (qb _ x3)
            rw [hvx] at z1
            rw [hvy] at z2
            cases z1
            cases z2
            have s3 := Stp.new (o := tupO o' [vx, vy]) e2 hT
            exact ⟨_, s3, .tup (.new hO) (.cons (hdx.mono (e1.trans s3.g)) (.cons (hdy.mono (e1.trans s3.g)) .nil))⟩
          · rw [zipT_len] at e
            have l1 := hxs.len
            have l2 := hys.len
            exact ⟨xs, ys, qa _ x3, qb _ x3, by omega, by omega, by omega⟩
    · cases e
  · rename_i x e1
    cases e
    exact h σ Γ G H R _ e1 _ q
  · cases e
theorem i_zip3 {k1 k2 k3 : Bool} (h : Sa E ad tas fas) : Si E ad (iZip3 K k1 k2 k3 tas) (iZ3 k1 k2 k3 fas) := fun σ Γ G H R r e Q q => by
  unfold iZ3 at e
  split at e
  · rename_i x y z e1
    split at e
    · rename_i as bs cs h1 h2 h3
      cases e
      have ex := sq_of h1
      have ey := sq_of h2
      have ez := sq_of h3
      subst ex ey ez
      refine h σ Γ G H R _ e1 _ fun vs G2 H2 s2 q0 => ?_
      have q2 := q0.noT
      cases q2 with
      | cons q3 q4 =>
        cases q4 with
        | cons q5 q4 =>
          cases q4 with
          | cons q6 q4 =>
            cases q4
            obtain ⟨a, xs, rfl, hxs, qa⟩ := sq_at (K := K) q3
            obtain ⟨b, ys, rfl, hys, qb⟩ := sq_at (K := K) q5
            obtain ⟨c, zs, rfl, hzs, qc⟩ := sq_at (K := K) q6
            refine ⟨a, b, c, xs, ys, zs, rfl, qa _ (noT_w s2.w), qb _ (noT_w s2.w), qc _ (noT_w s2.w), q _ G2 H2 s2 fun i H3 x3 => ⟨fun a' ha' => ?_, fun e => ?_⟩⟩
            · obtain ⟨dx, dy, dz, hx, hy, hz, rfl⟩ := zipT3_at ha'
              obtain ⟨vx, hvx, hdx⟩ := hxs.getD hx
              obtain ⟨vy, hvy, hdy⟩ := hys.getD hy
              obtain ⟨vz, hvz, hdz⟩ := hzs.getD hz
              refine ⟨⟨xs, ys, zs, vx, vy, vz, qa _ x3, qb _ x3, qc _ x3, hvx, hvy, hvz⟩, ?_⟩
              rintro v2 H4 ⟨T, x', y', z', o', rfl, hT, hO, rfl, f1, f2, f3⟩ G1 e1 e2
              have z1 := f1 xs (qa _ x3)
              have z2 := f2 ys (qb _ x3)
              have z3 := f3 zs (qc _ x3)
              rw [hvx] at z1
              rw [hvy] at z2
              rw [hvz] at z3
              cases z1
              cases z2
              cases z3
              have s3 := Stp.new (o := tupO o' [vx, vy, vz]) e2 hT
              exact ⟨_, s3, .tup (.new hO) (.cons (hdx.mono (e1.trans s3.g)) (.cons (hdy.mono (e1.trans s3.g)) (.cons (hdz.mono (e1.trans s3.g)) .nil)))⟩
            · rw [zipT3_len] at e
              have l1 := hxs.len
              have l2 := hys.len
              have l3 := hzs.len
              exact ⟨xs, ys, zs, qa _ x3, qb _ x3, qc _ x3, by omega, by omega, by omega, by omega⟩
    · cases e
  · rename_i x e1
    cases e
    exact h σ Γ G H R _ e1 _ q
  · cases e
end
def lcGo (st : Fs) (ft fe : En → Re) (Γ : En) : List D → Option (List D)
  | [] => some []
  | a :: as => match st a Γ with
    | none => none
    | some Γ1 => match ft Γ1 with
      | some (.val (.bool b)) => if b = true then (match fe Γ1 with
        | some (.val d) => match lcGo st ft fe Γ as with
          | some ds => some (d :: ds)
          | none => none
        | _ => none) else lcGo st ft fe Γ as
      | _ => none
def fLc (src : En → Ra) (st : Fs) (ft fe : En → Re) (vs : List Nat) (Γ : En) : Re := match src Γ with
  | some (.vals as) => if small as.length = true then (match lcGo st ft fe (wipeC Γ vs) as with
    | some ds => some (.val (.list ds))
    | none => none) else none
  | some (.exc x) => some (.exc x)
  | none => none
theorem drop_at {α : Type} {l : List α} {i : Nat} {a : α} {r : List α} (h : l.drop i = a :: r) : l[i]? = some a ∧ l.drop (i + 1) = r := by
  have h1 : (l.drop i)[0]? = some a := by rw [h]; rfl
  rw [List.getElem?_drop] at h1
  refine ⟨by simpa using h1, ?_⟩
  rw [← List.tail_drop, h]; rfl
section
variable {E : XK} {ad : Str → Addr} {K : PySem.W.Frag} {te : TE} {tt : TT} {fe ft : En → Re} {wi : TI} {src : En → Ra} {g : TG} {st : Fs} {js vs : List Nat}
theorem m_lc (hs : Si E ad wi src) (hg : Sg g st js) (ht : Sb E ad tt ft) (he : Se E ad te fe) (hj : ∀ j ∈ js, j ∈ vs) : Sm E ad (tLc wi g tt te vs) (fLc src st ft fe vs) := fun σ Γ G H R r e Q q => by
  unfold fLc at e
  split at e
  · rename_i as e1
    by_cases hsm : small as.length = true
    · rw [if_pos hsm] at e
      have sml := small_le hsm
      split at e
      · rename_i ds e2
        cases e
        refine hs σ Γ G H R _ e1 _ fun J G2 H2 s2 wl0 Dl hD => ?_
        have wl := wl0.mono noT_ex
        have gD : G2 Dl = none := fresh_back s2.w hD
        refine ⟨fun i m H3 => m = as.length - i ∧ i ≤ as.length ∧ ∃ acc rest, lcGo st ft fe (wipeC Γ vs) (as.drop i) = some rest ∧ ds = acc ++ rest ∧ acc.length ≤ i ∧ Mk2 G2 H2 Dl acc H3, ⟨as.length, rfl, Nat.zero_le _, [], ds, e2, rfl, Nat.le_refl _, Mk2.start s2.w hD⟩, ?_⟩
        rintro i m H3 ⟨rfl, hi, acc, rest, er, rfl, la, mk⟩
        obtain ⟨G3, vs3, s3, g3, hvs3, hH3⟩ := mk
        have x23 : Ex G2 H3 := s3.g.trans s3.w
        cases hd : as.drop i with
        | nil =>
          have ei : i = as.length := by
            have := congrArg List.length hd
            rw [List.length_drop, List.length_nil] at this
            omega
          rw [hd] at er
          cases er
          refine .inl ⟨(wl i H3 x23).2 ei, ?_⟩
          rw [List.append_nil] at q
          refine q Dl G3 H3 (s2.trans s3) (h_old s2 hD) ⟨g3, vs3, hH3, hvs3⟩
        | cons a as2 =>
          obtain ⟨ha, hd2⟩ := drop_at hd
          have hlt : i < as.length := (List.getElem?_eq_some_iff.mp ha).1
          obtain ⟨hgo, hy⟩ := (wl i H3 x23).1 a ha
          refine .inr ⟨hgo, fun H' => ∃ acc2 rest2, lcGo st ft fe (wipeC Γ vs) (as.drop (i + 1)) = some rest2 ∧ acc ++ rest = acc2 ++ rest2 ∧ acc2.length ≤ i + 1 ∧ Mk2 G2 H2 Dl acc2 H', fun H' hN => ⟨as.length - (i + 1), by omega, rfl, hlt, hN⟩, ?_⟩
          intro v H4 hyl
          obtain ⟨G4, s4, qv⟩ := hy v H4 hyl G3 s3.g s3.w
          rw [hd] at er
          unfold lcGo at er
          cases hst : st a (wipeC Γ vs) with
          | none => rw [hst] at er; cases er
          | some Γ1 =>
            rw [hst] at er
            dsimp only at er
            have R4 : Rel G4 H4 (wipe σ vs) (wipeC Γ vs) := ((R.stp s2).stp (s3.trans s4)).wipe vs
            refine hg _ _ _ _ R4 v a Γ1 qv hst _ fun σ2 RR l5 o5 _ _ => ⟨?_, ?_⟩
            · rw [wipe_off l5 o5 hj, wipe_two]
            · split at er
              · rename_i b eb
                have R5 := RR G4 H4 (.refl _) R4
                refine ht σ2 Γ1 G4 H4 R5 _ eb _ fun G5 H5 s5 => ?_
                have s35 := s4.trans s5
                have g5 : G5 Dl = none := s35.n Dl g3 (by rw [hH3]; intro z; cases z) (by rw [hH3]; intro xs z; cases z)
                have h5 : H5 Dl = some (.lst vs3) := s35.h _ _ hH3
                cases b with
                | false =>
                  rw [if_neg (by decide)] at er ⊢
                  exact ⟨acc, rest, by rw [hd2]; exact er, rfl, by omega, G5, vs3, s3.trans s35, g5, hvs3.mono s35.g, h5⟩
                | true =>
                  rw [if_pos rfl] at er ⊢
                  split at er
                  · rename_i d ed
                    split at er
                    · rename_i ds2 eds
                      cases er
                      refine he σ2 Γ1 G5 H5 (R5.stp s5) _ ed _ fun y G6 H6 s6 q6 => ?_
                      have h6 : H6 Dl = some (.lst vs3) := s6.h _ _ h5
                      have g6 : G6 Dl = none := s6.n Dl g5 (by rw [h5]; intro z; cases z) (by rw [h5]; intro xs z; cases z)
                      have s36 := s35.trans s6
                      refine ⟨vs3, h6, by rw [hvs3.len, sizeLine_eq]; omega, acc ++ [d], ds2, by rw [hd2]; exact eds, by simp, by rw [List.length_append]; simp; omega, G6, vs3 ++ [y], (s3.trans s36).mutd hD g6, g6, (hvs3.mono s36.g).snoc q6, upd_same⟩
                    · cases er
                  · cases er
              · cases er
      · cases e
    · rw [if_neg hsm] at e; cases e
  · rename_i x e1
    cases e
    exact hs σ Γ G H R _ e1 _ q
  · cases e
theorem lst_lc (Γ : En) (d : D) (h : fLc src st ft fe vs Γ = some (.val d)) : ∃ ds, d = .list ds := by
  unfold fLc at h
  split at h
  · split at h
    · split at h
      · cases h; exact ⟨_, rfl⟩
      · cases h
    · cases h
  · cases h
  · cases h
theorem u_lc (hs : Si E ad wi src) (hg : Sg g st js) (ht : Sb E ad tt ft) (he : Se E ad te fe) (hj : ∀ j ∈ js, j ∈ vs) : Se E ad (tLc wi g tt te vs) (fLc src st ft fe vs) := (m_lc hs hg ht he hj).se lst_lc
variable {wi1 : TI} {src1 : En → Ra} {g1 : TG} {st1 : Fs} {js1 vs1 : List Nat} {tt1 : TT} {ft1 : En → Re}
def lc2Go (st : Fs) (ft : En → Re) (src1 : En → Ra) (st1 : Fs) (ft1 fe : En → Re) (vs1 : List Nat) (Γ : En) : List D → Option (List D)
  | [] => some []
  | a :: as => match st a Γ with
    | none => none
    | some Γ1 => match ft Γ1 with
      | some (.val (.bool b)) => if b = true then (match src1 Γ1 with
        | some (.vals bs) => if small bs.length = true then (match lcGo st1 ft1 fe (wipeC Γ1 vs1) bs with
          | some ds => match lc2Go st ft src1 st1 ft1 fe vs1 Γ as with
            | some ds2 => some (ds ++ ds2)
            | none => none
          | none => none) else none
        | _ => none) else lc2Go st ft src1 st1 ft1 fe vs1 Γ as
      | _ => none
def fLc2 (src : En → Ra) (st : Fs) (ft : En → Re) (src1 : En → Ra) (st1 : Fs) (ft1 fe : En → Re) (vs vs1 : List Nat) (Γ : En) : Re := match src Γ with
  | some (.vals as) => match lc2Go st ft src1 st1 ft1 fe vs1 (wipeC Γ vs) as with
    | some ds => if small ds.length = true then some (.val (.list ds)) else none
    | none => none
  | some (.exc x) => some (.exc x)
  | none => none
theorem m_lc2 (hs : Si E ad wi src) (hg : Sg g st js) (ht : Sb E ad tt ft) (hs1 : Si E ad wi1 src1) (hg1 : Sg g1 st1 js1) (ht1 : Sb E ad tt1 ft1) (he : Se E ad te fe) (hj : ∀ j ∈ js, j ∈ vs) (hj1 : ∀ j ∈ js1, j ∈ vs1) :
    Sm E ad (tLc2 wi g tt wi1 g1 tt1 te vs vs1) (fLc2 src st ft src1 st1 ft1 fe vs vs1) := fun σ Γ G H R r e Q q => by
  unfold fLc2 at e
  split at e
  · rename_i as e1
    split at e
    · rename_i ds e2
      by_cases hsm : small ds.length = true
      · rw [if_pos hsm] at e
        have sml := small_le hsm
        cases e
        refine hs σ Γ G H R _ e1 _ fun J G2 H2 s2 wl0 Dl hD => ?_
        have wl := wl0.mono noT_ex
        have gD : G2 Dl = none := fresh_back s2.w hD
        refine ⟨fun i m H3 => m = as.length - i ∧ i ≤ as.length ∧ ∃ acc rest, lc2Go st ft src1 st1 ft1 fe vs1 (wipeC Γ vs) (as.drop i) = some rest ∧ ds = acc ++ rest ∧ Mk2 G2 H2 Dl acc H3, ⟨as.length, rfl, Nat.zero_le _, [], ds, e2, rfl, Mk2.start s2.w hD⟩, ?_⟩
        rintro i m H3 ⟨rfl, hi, acc, rest, er, rfl, mk⟩
        obtain ⟨G3, vs3, s3, g3, hvs3, hH3⟩ := mk
        have x23 : Ex G2 H3 := s3.g.trans s3.w
        cases hd : as.drop i with
        | nil =>
          have ei : i = as.length := by
            have := congrArg List.length hd
            rw [List.length_drop, List.length_nil] at this
            omega
          rw [hd] at er
          cases er
          refine .inl ⟨(wl i H3 x23).2 ei, ?_⟩
          rw [List.append_nil] at q
          refine q Dl G3 H3 (s2.trans s3) (h_old s2 hD) ⟨g3, vs3, hH3, hvs3⟩
        | cons a as2 =>
          obtain ⟨ha, hd2⟩ := drop_at hd
          have hlt : i < as.length := (List.getElem?_eq_some_iff.mp ha).1
          obtain ⟨hgo, hy⟩ := (wl i H3 x23).1 a ha
          refine .inr ⟨hgo, fun H' => ∃ acc2 rest2, lc2Go st ft src1 st1 ft1 fe vs1 (wipeC Γ vs) (as.drop (i + 1)) = some rest2 ∧ acc ++ rest = acc2 ++ rest2 ∧ Mk2 G2 H2 Dl acc2 H', fun H' hN => ⟨as.length - (i + 1), by omega, rfl, hlt, hN⟩, ?_⟩
          intro v H4 hyl
          obtain ⟨G4, s4, qv⟩ := hy v H4 hyl G3 s3.g s3.w
          rw [hd] at er
          unfold lc2Go at er
          cases hst : st a (wipeC Γ vs) with
          | none => rw [hst] at er; cases er
          | some Γ1 =>
            rw [hst] at er
            dsimp only at er
            have R4 : Rel G4 H4 (wipe σ vs) (wipeC Γ vs) := ((R.stp s2).stp (s3.trans s4)).wipe vs
            refine hg _ _ _ _ R4 v a Γ1 qv hst _ fun σ2 RR l5 o5 _ _ => ⟨?_, ?_⟩
            · rw [wipe_off l5 o5 hj, wipe_two]
            · split at er
              · rename_i b eb
                have R5 := RR G4 H4 (.refl _) R4
                refine ht σ2 Γ1 G4 H4 R5 _ eb _ fun G5 H5 s5 => ?_
                have s35 := s4.trans s5
                have g5 : G5 Dl = none := s35.n Dl g3 (by rw [hH3]; intro z; cases z) (by rw [hH3]; intro xs z; cases z)
                have h5 : H5 Dl = some (.lst vs3) := s35.h _ _ hH3
                cases b with
                | false =>
                  rw [if_neg (by decide)] at er ⊢
                  exact ⟨acc, rest, by rw [hd2]; exact er, rfl, G5, vs3, s3.trans s35, g5, hvs3.mono s35.g, h5⟩
                | true =>
                  rw [if_pos rfl] at er ⊢
                  split at er
                  · rename_i bs ebs
                    by_cases hbm : small bs.length = true
                    · rw [if_pos hbm] at er
                      split at er
                      · rename_i ds1 eds1
                        split at er
                        · rename_i ds2 eds2
                          cases er
                          refine hs1 σ2 Γ1 G5 H5 (R5.stp s5) _ ebs _ fun J1 G6 H6 s6 wl10 => ?_
                          have wl1 := wl10.mono noT_ex
                          have h6 : H6 Dl = some (.lst vs3) := s6.h _ _ h5
                          have g6 : G6 Dl = none := s6.n Dl g5 (by rw [h5]; intro z; cases z) (by rw [h5]; intro xs z; cases z)
                          have s36 := s35.trans s6
                          refine ⟨fun j k H7 => k = bs.length - j ∧ j ≤ bs.length ∧ ∃ acc1 rest1, lcGo st1 ft1 fe (wipeC Γ1 vs1) (bs.drop j) = some rest1 ∧ ds1 = acc1 ++ rest1 ∧ ∃ G7 vs7, Ex G6 G7 ∧ Stp G2 H2 G7 H7 ∧ G7 Dl = none ∧ DqA G7 vs7 (acc ++ acc1) ∧ H7 Dl = some (.lst vs7), ⟨bs.length, rfl, Nat.zero_le _, [], ds1, eds1, rfl, G6, vs3, .refl _, s3.trans s36, g6, by rw [List.append_nil]; exact hvs3.mono s36.g, h6⟩, ?_⟩
                          rintro j k H7 ⟨rfl, hjl, acc1, rest1, er1, rfl, G7, vs7, x67, s27, g7, hv7, hH7⟩
                          have x6H : Ex G6 H7 := x67.trans s27.w
                          cases hdb : bs.drop j with
                          | nil =>
                            have ej : j = bs.length := by
                              have := congrArg List.length hdb
                              rw [List.length_drop, List.length_nil] at this
                              omega
                            rw [hdb] at er1
                            cases er1
                            refine .inl ⟨(wl1 j H7 x6H).2 ej, acc ++ acc1, ds2, by rw [hd2]; exact eds2, by simp, G7, vs7, s27, g7, hv7, hH7⟩
                          | cons b bs2 =>
                            obtain ⟨hb, hdb2⟩ := drop_at hdb
                            have hblt : j < bs.length := (List.getElem?_eq_some_iff.mp hb).1
                            obtain ⟨hgo1, hy1⟩ := (wl1 j H7 x6H).1 b hb
                            refine .inr ⟨hgo1, fun H' => ∃ acc1' rest1', lcGo st1 ft1 fe (wipeC Γ1 vs1) (bs.drop (j + 1)) = some rest1' ∧ acc1 ++ rest1 = acc1' ++ rest1' ∧ ∃ G7 vs7, Ex G6 G7 ∧ Stp G2 H2 G7 H' ∧ G7 Dl = none ∧ DqA G7 vs7 (acc ++ acc1') ∧ H' Dl = some (.lst vs7), fun H' hN => ⟨bs.length - (j + 1), by omega, rfl, hblt, hN⟩, ?_⟩
                            intro v8 H8 hyl1
                            obtain ⟨G8, s8, qv8⟩ := hy1 v8 H8 hyl1 G7 x67 s27.w
                            have keep : ∀ {G9 H9 : Hp}, Stp G7 H7 G9 H9 → G9 Dl = none ∧ H9 Dl = some (.lst vs7) := fun {G9 H9} s9 => ⟨s9.n Dl g7 (by rw [hH7]; intro z; cases z) (by rw [hH7]; intro xs z; cases z), s9.h _ _ hH7⟩
                            rw [hdb] at er1
                            unfold lcGo at er1
                            cases hst1 : st1 b (wipeC Γ1 vs1) with
                            | none => rw [hst1] at er1; cases er1
                            | some Γ2 =>
                              rw [hst1] at er1
                              dsimp only at er1
                              have R8 : Rel G8 H8 (wipe σ2 vs1) (wipeC Γ1 vs1) := (RR G8 H8 ((s5.g.trans s6.g).trans (x67.trans s8.g)) (((R.stp s2).stp (s27.trans s8)).wipe vs)).wipe vs1
                              refine hg1 _ _ _ _ R8 v8 b Γ2 qv8 hst1 _ fun σ3 RR1 l9 o9 _ _ => ⟨?_, ?_⟩
                              · rw [wipe_off l9 o9 hj1, wipe_two]
                              · split at er1
                                · rename_i b1 eb1
                                  have R9 := RR1 G8 H8 (.refl _) R8
                                  refine ht1 σ3 Γ2 G8 H8 R9 _ eb1 _ fun G9 H9 s9 => ?_
                                  have s79 := s8.trans s9
                                  obtain ⟨g9, h9⟩ := keep s79
                                  cases b1 with
                                  | false =>
                                    rw [if_neg (by decide)] at er1 ⊢
                                    exact ⟨acc1, rest1, by rw [hdb2]; exact er1, rfl, G9, vs7, x67.trans s79.g, s27.trans s79, g9, hv7.mono s79.g, h9⟩
                                  | true =>
                                    rw [if_pos rfl] at er1 ⊢
                                    split at er1
                                    · rename_i d ed
                                      split at er1
                                      · rename_i ds3 eds3
                                        cases er1
                                        refine he σ3 Γ2 G9 H9 (R9.stp s9) _ ed _ fun y Ga Ha sa qa => ?_
                                        have s7a := s79.trans sa
                                        obtain ⟨ga, ha⟩ := keep s7a
                                        have ln : (acc ++ acc1).length ≤ 1000000 - 1 := by
                                          simp only [List.length_append, List.length_cons] at sml ⊢
                                          omega
                                        refine ⟨vs7, ha, by rw [hv7.len, sizeLine_eq]; omega, acc1 ++ [d], ds3, by rw [hdb2]; exact eds3, by simp, Ga, vs7 ++ [y], x67.trans s7a.g, (s27.trans s7a).mutd hD ga, ga, ?_, upd_same⟩
                                        rw [← List.append_assoc]
                                        exact (hv7.mono s7a.g).snoc qa
                                      · cases er1
                                    · cases er1
                                · cases er1
                        · cases er
                      · cases er
                    · rw [if_neg hbm] at er; cases er
                  · cases er
              · cases er
      · rw [if_neg hsm] at e; cases e
    · cases e
  · rename_i x e1
    cases e
    exact hs σ Γ G H R _ e1 _ q
  · cases e
theorem lst_lc2 (Γ : En) (d : D) (h : fLc2 src st ft src1 st1 ft1 fe vs vs1 Γ = some (.val d)) : ∃ ds, d = .list ds := by
  unfold fLc2 at h
  split at h
  · split at h
    · split at h
      · cases h; exact ⟨_, rfl⟩
      · cases h
    · cases h
  · cases h
  · cases h
theorem u_lc2 (hs : Si E ad wi src) (hg : Sg g st js) (ht : Sb E ad tt ft) (hs1 : Si E ad wi1 src1) (hg1 : Sg g1 st1 js1) (ht1 : Sb E ad tt1 ft1) (he : Se E ad te fe) (hj : ∀ j ∈ js, j ∈ vs) (hj1 : ∀ j ∈ js1, j ∈ vs1) :
    Se E ad (tLc2 wi g tt wi1 g1 tt1 te vs vs1) (fLc2 src st ft src1 st1 ft1 fe vs vs1) := (m_lc2 hs hg ht hs1 hg1 ht1 he hj hj1).se lst_lc2
end
end Mv
namespace Mv
open PySem L2 Evl
def lkC : Ce → Ce
  | .ml ds => .d (.list ds)
  | c => c
def lockG (k : Nat → Bool) : Nat → En → En
  | _, [] => []
  | i, c :: cs => (if k i = true then lkC c else c) :: lockG k (i + 1) cs
def lockL (k : Nat → Bool) (Γ : En) : En := lockG k 0 Γ
theorem lockG_at {k : Nat → Bool} : ∀ {Γ : En} {j i : Nat} {c : Ce}, (lockG k j Γ)[i]? = some c → ∃ c0, Γ[i]? = some c0 ∧ c = (if k (j + i) = true then lkC c0 else c0)
  | [], j, i, c, h => by simp [lockG] at h
  | x :: Γ, j, 0, c, h => by
    simp only [lockG, List.getElem?_cons_zero, Option.some.injEq] at h
    exact ⟨x, rfl, h.symm⟩
  | x :: Γ, j, i + 1, c, h => by
    simp only [lockG, List.getElem?_cons_succ] at h
    obtain ⟨c0, h1, h2⟩ := lockG_at (Γ := Γ) (j := j + 1) h
    exact ⟨c0, h1, by rw [h2]; congr 3 <;> omega⟩
theorem lockG_len {k : Nat → Bool} : ∀ {Γ : En} {j : Nat}, (lockG k j Γ).length = Γ.length
  | [], _ => rfl
  | _ :: Γ, j => by simp [lockG, lockG_len (Γ := Γ)]
mutual
def noL : D → Bool
  | .list _ => false
  | .dict _ => false
  | .tuple xs => noLs xs
  | _ => true
def noLs : List D → Bool
  | [] => true
  | x :: xs => noL x && noLs xs
end
mutual
theorem Dq.cut {G G' : Hp} (h : ∀ b o, G b = some o → (∀ us, o ≠ .lst us) → G' b = some o) : ∀ {v : V} {d : D}, Dq G v d → noL d = true → Dq G' v d
  | _, _, .non, _ => .non
  | _, _, .bl b, _ => .bl b
  | _, _, .int i, _ => .int i
  | _, _, .str s, _ => .str s
  | _, _, .lst _ _, f => by simp [noL] at f
  | _, _, .tup e k, f => .tup (e.by fun o z e => h _ _ e fun _ q => by rcases z with rfl | ⟨_, rfl⟩ <;> cases q) (DqA.cut h k (by simpa [noL] using f))
  | _, _, .emp _ _, f => by simp [noL] at f
  | _, _, .dct _ _ _, f => by simp [noL] at f
theorem DqA.cut {G G' : Hp} (h : ∀ b o, G b = some o → (∀ us, o ≠ .lst us) → G' b = some o) : ∀ {vs : List V} {ds : List D}, DqA G vs ds → noLs ds = true → DqA G' vs ds
  | _, _, .nil, _ => .nil
  | _, _, .cons q k, f => by
    simp only [noLs, Bool.and_eq_true] at f
    exact .cons (Dq.cut h q f.1) (DqA.cut h k f.2)
end
structure Lkd (G H G' : Hp) (Γ : En) (σ : L2.St) : Prop where
  x : Ex G G'
  b : ∀ b : Addr, G' b = G b ∨ (G b = none ∧ (∃ us : List V, H b = some (.lst us) ∧ G' b = some (.lst us)) ∧ ∃ (i : Nat) (ds : List D), Γ[i]? = some (Ce.ml ds) ∧ σ[i]? = some (some (V.ref b)))
section
variable {G H G' H' G1 H1 G2 H2 : Hp} {σ : L2.St} {Γ Γ' : En} {k : Nat → Bool}
open Classical in
theorem Rel.lock (h : Rel G H σ Γ) (k : Nat → Bool) : ∃ G', Lkd G H G' Γ σ ∧ Rel G' H σ (lockL k Γ) := by
  let P : Addr → Prop := fun b => ∃ (i : Nat) (ds : List D), k i = true ∧ Γ[i]? = some (Ce.ml ds) ∧ σ[i]? = some (some (V.ref b))
  let G' : Hp := fun b => if P b then H b else G b
  have gP : ∀ b, P b → G b = none ∧ ∃ us, H b = some (.lst us) := by
    rintro b ⟨i, ds, _, e1, e2⟩
    obtain ⟨p, e3, m⟩ := h.c i _ e1
    rw [e2] at e3
    cases e3
    obtain ⟨us, e4, _⟩ := m.at_
    exact ⟨m.g, us, e4⟩
  have x : Ex G G' := fun b o e => by
    show (if P b then H b else G b) = some o
    by_cases p : P b
    · rw [(gP b p).1] at e; cases e
    · rw [if_neg p]; exact e
  have w : Ex G' H := fun b o e => by
    have e' : (if P b then H b else G b) = some o := e
    by_cases p : P b
    · rw [if_pos p] at e'; exact e'
    · rw [if_neg p] at e'; exact h.w b o e'
  have keepM : ∀ i (c : Ce) p, Γ[i]? = some c → isMut c = true → σ[i]? = some (some (.ref p)) → ((∃ ds, c = .ml ds) → k i = false) → ¬ P p := by
    rintro i c p e1 m e2 hk ⟨j, ds, kj, e3, e4⟩
    have := h.sep i j p c _ e1 e3 m rfl e2 e4
    subst this
    rw [e1] at e3
    cases e3
    rw [hk ⟨ds, rfl⟩] at kj
    cases kj
  refine ⟨G', ⟨x, fun b => ?_⟩, w, by show σ.length = (lockG k 0 Γ).length; rw [lockG_len]; exact h.len, fun i c e => ?_, fun i j p ci cj e1 e2 m1 m2 s1 s2 => ?_⟩
  · show (if P b then H b else G b) = G b ∨ _
    by_cases p : P b
    · have p' := p
      obtain ⟨i, ds, _, e1, e2⟩ := p'
      obtain ⟨g, us, eh⟩ := gP b p
      refine .inr ⟨g, ⟨us, eh, ?_⟩, i, ds, e1, e2⟩
      show (if P b then H b else G b) = _
      rw [if_pos p]; exact eh
    · exact .inl (if_neg p)
  · obtain ⟨c0, e0, rfl⟩ := lockG_at e
    rw [Nat.zero_add] at e ⊢
    have hc := h.c i c0 e0
    cases c0 with
    | un => by_cases hk : k i = true <;> simp only [hk, lkC, if_true, if_false] <;> trivial
    | d z =>
      have : (if k i = true then lkC (.d z) else Ce.d z) = .d z := by split <;> rfl
      rw [this]
      obtain ⟨v, e1, q⟩ := hc
      exact ⟨v, e1, q.mono x⟩
    | ml ds =>
      obtain ⟨p, e1, m⟩ := hc
      obtain ⟨us, e2, q⟩ := m.at_
      by_cases hk : k i = true
      · rw [if_pos hk]
        refine ⟨.ref p, e1, .lst ?_ (q.mono x)⟩
        show (if P p then H p else G p) = _
        rw [if_pos ⟨i, ds, hk, e0, e1⟩]; exact e2
      · rw [if_neg hk]
        have np := keepM i _ p e0 rfl e1 (fun _ => by simpa using hk)
        exact ⟨p, e1, by show (if P p then H p else G p) = none; rw [if_neg np]; exact m.g, us, e2, q.mono x⟩
    | fx v =>
      have : (if k i = true then lkC (.fx v) else Ce.fx v) = .fx v := by split <;> rfl
      rw [this]
      exact hc
    | md es =>
      have : (if k i = true then lkC (.md es) else Ce.md es) = .md es := by split <;> rfl
      rw [this]
      obtain ⟨p, e1, m⟩ := hc
      obtain ⟨us, e2, q⟩ := m.at_
      have np := keepM i _ p e0 rfl e1 (fun ⟨_, z⟩ => nomatch z)
      exact ⟨p, e1, by show (if P p then H p else G p) = none; rw [if_neg np]; exact m.g, us, e2, q.mono x⟩
  · obtain ⟨c1, f1, rfl⟩ := lockG_at e1
    obtain ⟨c2, f2, rfl⟩ := lockG_at e2
    have mm : ∀ {c : Ce} {b : Prop} [Decidable b], isMut (if b then lkC c else c) = true → isMut c = true := by
      intro c b _ hm
      split at hm
      · cases c <;> first | rfl | cases hm
      · exact hm
    exact h.sep i j p c1 c2 f1 f2 (mm m1) (mm m2) s1 s2
noncomputable def unlk (G G' G2 : Hp) : Hp := fun b => by
  classical exact if G' b = G b then G2 b else none
theorem Lkd.back (l : Lkd G H G' Γ σ) (s : Stp G' H G2 H2) : Stp G H (unlk G G' G2) H2 ∧ (∀ b o, G2 b = some o → (∀ us, o ≠ .lst us) → unlk G G' G2 b = some o) ∧ (∀ b, H b = none → unlk G G' G2 b = G2 b) := by
  classical
  have un : ∀ b, unlk G G' G2 b = if G' b = G b then G2 b else none := fun b => by unfold unlk; split <;> rename_i h <;> simp [h]
  refine ⟨⟨fun b o e => ?_, s.h, fun b o e => ?_, fun b h1 h2 h3 => ?_⟩, fun b o e ne => ?_, fun b e => ?_⟩
  · rcases l.b b with q | ⟨q, _⟩
    · rw [un, if_pos q]; exact s.g _ _ (l.x _ _ e)
    · rw [q] at e; cases e
  · rw [un] at e
    by_cases q : G' b = G b
    · rw [if_pos q] at e; exact s.w _ _ e
    · rw [if_neg q] at e; cases e
  · rw [un]
    by_cases q : G' b = G b
    · rw [if_pos q]; exact s.n b (q.trans h1) h2 h3
    · rw [if_neg q]
  · rw [un]
    by_cases q : G' b = G b
    · rw [if_pos q]; exact e
    · rcases l.b b with q2 | ⟨_, ⟨us, _, q2⟩, _⟩
      · exact (q q2).elim
      · rw [s.g _ _ q2] at e; cases e; exact (ne us rfl).elim
  · rw [un]
    by_cases q : G' b = G b
    · rw [if_pos q]
    · rcases l.b b with q2 | ⟨_, ⟨us, q2, _⟩, _⟩
      · exact (q q2).elim
      · rw [e] at q2; cases q2
variable {E : XK} {ad : Str → Addr} {te : TE} {tt : TT} {fe ft : En → Re}
def fLk (fe : En → Re) (Γ : En) : Re := match fe (lockL (fun _ => true) Γ) with
  | some (.val d) => if noL d = true then some (.val d) else none
  | r => r
def fLkB (fe : En → Re) (Γ : En) : Re := fe (lockL (fun _ => true) Γ)
def fLkM (fe : En → Re) (Γ : En) : Re := match fe (lockL (fun _ => true) Γ) with
  | some (.val (.list ds)) => if noLs ds = true then some (.val (.list ds)) else none
  | some (.exc x) => some (.exc x)
  | _ => none
theorem u_lkB (h : Sb E ad tt ft) : Sb E ad tt (fLkB ft) := fun σ Γ G H R r e Q q => by
  obtain ⟨G', l, R'⟩ := R.lock (fun _ => true)
  refine h σ _ G' H R' r e Q ?_
  cases r with
  | val d =>
    cases d with
    | bool b => exact fun G2 H2 s2 => q _ H2 (l.back s2).1
    | _ => exact q
  | exc x => exact fun G2 H2 s2 => q _ H2 (l.back s2).1
inductive Fl where
  | nx (Γ : En)
  | rt (d : D)
  | ex (x : Str)
  | bk (Γ : En)
  | ct (Γ : En)
abbrev Rf := Option Fl
structure RelS (G0 H0 G H : Hp) (σ : L2.St) (Γ : En) : Prop where
  r : Rel G H σ Γ
  s : Stp G0 H0 G H
  n : ∀ (i : Nat) (c : Ce) (p : Addr), Γ[i]? = some c → isMut c = true → σ[i]? = some (some (.ref p)) → H0 p = none
variable {G0 H0 : Hp}
theorem RelS.stp (h : RelS G0 H0 G H σ Γ) (s : Stp G H G' H') : RelS G0 H0 G' H' σ Γ := ⟨h.r.stp s, h.s.trans s, h.n⟩
variable (E ad)
def PoS (G0 H0 G : Hp) (D' : Ends) : Fl → Prop
  | .nx Γ => ∀ σ G2 H2, RelS G0 H0 G2 H2 σ Γ → Ex G G2 → D'.nx σ H2
  | .rt d => ∀ v G2 H2, Stp G0 H0 G2 H2 → Dq G2 v d → D'.rt v H2
  | .ex x => ∀ G2 H2, Stp G0 H0 G2 H2 → XE E ad x H2
  | .bk Γ => ∀ σ G2 H2, RelS G0 H0 G2 H2 σ Γ → Ex G G2 → D'.bk σ H2
  | .ct Γ => ∀ σ G2 H2, RelS G0 H0 G2 H2 σ Γ → Ex G G2 → D'.ct σ H2
def Ss (ts : TS) (fs : En → Rf) : Prop := ∀ G0 H0 σ Γ G H, RelS G0 H0 G H σ Γ → ∀ r, fs Γ = some r → ∀ D', PoS E ad G0 H0 G D' r → ts D' σ H
variable {E ad}
theorem PoS.mono {D' : Ends} {r : Fl} (h : PoS E ad G0 H0 G D' r) (x : Ex G G') : PoS E ad G0 H0 G' D' r := by
  cases r with
  | nx Γ => exact fun σ G2 H2 R e => h σ G2 H2 R (x.trans e)
  | rt d => exact h
  | ex x => exact h
  | bk Γ => exact fun σ G2 H2 R e => h σ G2 H2 R (x.trans e)
  | ct Γ => exact fun σ G2 H2 R e => h σ G2 H2 R (x.trans e)
variable {ts tu : TS} {fs fu : En → Rf} {g : TG} {st : Fs} {js : List Nat} {ta tb : TE} {fa fb : En → Re}
def fSeq (fs fu : En → Rf) (Γ : En) : Rf := match fs Γ with
  | some (.nx Γ1) => fu Γ1
  | r => r
def fNext (Γ : En) : Rf := some (.nx Γ)
def fAsg (fe : En → Re) (st : Fs) (Γ : En) : Rf := match fe Γ with
  | some (.val d) => match st d Γ with
    | some Γ1 => some (.nx Γ1)
    | none => none
  | some (.exc x) => some (.ex x)
  | none => none
def fAsgM (fe : En → Re) (i : Nat) (Γ : En) : Rf := match fe Γ with
  | some (.val (.list ds)) => some (.nx (Γ.set i (.ml ds)))
  | some (.exc x) => some (.ex x)
  | _ => none
def fRet (fe : En → Re) (Γ : En) : Rf := match fe (lockL (fun _ => true) Γ) with
  | some (.val d) => some (.rt d)
  | some (.exc x) => some (.ex x)
  | none => none
def fRetN (_ : En) : Rf := some (.rt .none)
def fDrop (fe : En → Re) (Γ : En) : Rf := match fe (lockL (fun _ => true) Γ) with
  | some (.val _) => some (.nx Γ)
  | some (.exc x) => some (.ex x)
  | none => none
def fIfS (ft : En → Re) (fs fu : En → Rf) (Γ : En) : Rf := match ft Γ with
  | some (.val (.bool b)) => if b = true then fs Γ else fu Γ
  | some (.exc x) => some (.ex x)
  | _ => none
def fRaise (x : Str) (_ : En) : Rf := some (.ex x)
def fFrz (k : Nat → Bool) (fs : En → Rf) (Γ : En) : Rf := fs (lockL k Γ)
theorem u_next : Ss E ad tNext fNext := fun G0 H0 σ Γ G H R r e D' q => by
  cases e
  exact q σ G H R (.refl G)
theorem u_seq (hs : Ss E ad ts fs) (hu : Ss E ad tu fu) : Ss E ad (tSeq ts tu) (fSeq fs fu) := fun G0 H0 σ Γ G H R r e D' q => by
  unfold fSeq at e
  split at e
  · rename_i Γ1 e1
    exact hs G0 H0 σ Γ G H R _ e1 { D' with nx := tu D' } fun σ2 G2 H2 R2 x => hu G0 H0 σ2 Γ1 G2 H2 R2 _ e _ (q.mono x)
  · rename_i ne
    refine hs G0 H0 σ Γ G H R _ e { D' with nx := tu D' } ?_
    cases r with
    | nx Γ1 => exact (ne Γ1 e).elim
    | _ => exact q
theorem u_asg (he : Se E ad te fe) (hg : Sg g st js) : Ss E ad (tAsg te g) (fAsg fe st) := fun G0 H0 σ Γ G H R r e D' q => by
  unfold fAsg at e
  split at e
  · rename_i d e1
    split at e
    · rename_i Γ1 e2
      cases e
      refine he σ Γ G H R.r _ e1 _ fun v G2 H2 s2 q2 => ?_
      have R2 := R.stp s2
      refine hg σ Γ G2 H2 R2.r v d Γ1 q2 e2 _ fun σ3 R3 l3 o3 m3 _ => q σ3 G2 H2 ⟨R3 G2 H2 (.refl _) R2.r, R2.s, fun i c p ec mc ep => ?_⟩ s2.g
      obtain ⟨h1, h2⟩ := m3 i c ec mc
      exact R2.n i c p h1 mc (h2 ▸ ep)
    · cases e
  · rename_i x e1
    cases e
    exact he σ Γ G H R.r _ e1 _ fun G2 H2 s2 => q G2 H2 (R.s.trans s2)
  · cases e
theorem RelS.setM {p : Addr} {ds : List D} {j : Nat} (R : RelS G0 H0 G H σ Γ) (s : Stp G H G' H') (hp : H p = none) (m : ML G' H' p ds) : RelS G0 H0 G' H' (σ.set j (some (.ref p))) (Γ.set j (.ml ds)) := by
  have R2 := R.stp s
  have apart : ∀ {i : Nat} {c : Ce}, Γ[i]? = some c → isMut c = true → σ[i]? ≠ some (some (.ref p)) := fun {i c} e mc z => by
    have := R.r.c i c e
    cases c with
    | ml d =>
      obtain ⟨p2, e2, m2⟩ := this
      rw [z] at e2; cases e2
      obtain ⟨us, e3, _⟩ := m2.at_
      rw [hp] at e3; cases e3
    | md d =>
      obtain ⟨p2, e2, m2⟩ := this
      rw [z] at e2; cases e2
      obtain ⟨us, e3, _⟩ := m2.at_
      rw [hp] at e3; cases e3
    | _ => cases mc
  refine ⟨⟨R2.r.w, by rw [List.length_set, List.length_set]; exact R2.r.len, fun i c e => ?_, fun i k q ci ck e1 e2 m1 m2 s1 s2 => ?_⟩, R2.s, fun i c q e mc eq => ?_⟩
  · rcases set_at e with ⟨rfl, hl, rfl⟩ | ⟨ne, e⟩
    · exact ⟨p, List.getElem?_set_self (by rw [R2.r.len]; exact hl), m⟩
    · rw [List.getElem?_set_ne (fun z => ne z.symm)]
      exact R2.r.c i c e
  · rcases set_at e1 with ⟨rfl, hl, rfl⟩ | ⟨ne, f1⟩
    · rcases set_at e2 with ⟨rfl, _, rfl⟩ | ⟨ne2, f2⟩
      · rfl
      · rw [List.getElem?_set_self (by rw [R2.r.len]; exact hl)] at s1
        cases s1
        rw [List.getElem?_set_ne (fun z => ne2 z.symm)] at s2
        exact (apart f2 m2 s2).elim
    · rw [List.getElem?_set_ne (fun z => ne z.symm)] at s1
      rcases set_at e2 with ⟨rfl, hl, rfl⟩ | ⟨ne2, f2⟩
      · rw [List.getElem?_set_self (by rw [R2.r.len]; exact hl)] at s2
        cases s2
        exact (apart f1 m1 s1).elim
      · rw [List.getElem?_set_ne (fun z => ne2 z.symm)] at s2
        exact R2.r.sep i k q ci ck f1 f2 m1 m2 s1 s2
  · rcases set_at e with ⟨rfl, hl, rfl⟩ | ⟨ne, e⟩
    · rw [List.getElem?_set_self (by rw [R2.r.len]; exact hl)] at eq
      cases eq
      exact h_old R.s hp
    · rw [List.getElem?_set_ne (fun z => ne z.symm)] at eq
      exact R2.n i c q e mc eq
theorem u_asgM {i : Nat} (he : Sm E ad te fe) : Ss E ad (tAsg te (gName i)) (fAsgM fe i) := fun G0 H0 σ Γ G H R r e D' q => by
  unfold fAsgM at e
  split at e
  · rename_i ds e1
    cases e
    exact he σ Γ G H R.r _ e1 (fun v H2 => D'.nx (σ.set i (some v)) H2) fun p G2 H2 s2 hp m => q _ G2 H2 (R.setM s2 hp m) s2.g
  · rename_i x e1
    cases e
    exact he σ Γ G H R.r _ e1 _ fun G2 H2 s2 => q G2 H2 (R.s.trans s2)
  · cases e
theorem RelS.lock (R : RelS G0 H0 G H σ Γ) (k : Nat → Bool) : ∃ G', Ex G G' ∧ RelS G0 H0 G' H σ (lockL k Γ) := by
  obtain ⟨G', l, R'⟩ := R.r.lock k
  refine ⟨G', l.x, R', ⟨R.s.g.trans l.x, R.s.h, R'.w, fun b h1 h2 h3 => ?_⟩, fun i c p e m ep => ?_⟩
  · rcases l.b b with q | ⟨_, _, i, ds, e1, e2⟩
    · rw [q]; exact R.s.n b h1 h2 h3
    · exact (h2 (R.n i _ b e1 rfl e2)).elim
  · obtain ⟨c0, e0, rfl⟩ := lockG_at e
    have mm : isMut c0 = true := by
      split at m
      · cases c0 <;> first | rfl | cases m
      · exact m
    exact R.n i c0 p e0 mm ep
theorem u_ret (he : Se E ad te fe) : Ss E ad (tRet te) (fRet fe) := fun G0 H0 σ Γ G H R r e D' q => by
  obtain ⟨G', x, R'⟩ := R.lock (fun _ => true)
  unfold fRet at e
  split at e
  · rename_i d e1
    cases e
    exact he σ _ G' H R'.r _ e1 _ fun v G2 H2 s2 q2 => q v G2 H2 (R'.s.trans s2) q2
  · rename_i x e1
    cases e
    exact he σ _ G' H R'.r _ e1 _ fun G2 H2 s2 => q G2 H2 (R'.s.trans s2)
  · cases e
theorem u_drop (he : Se E ad te fe) : Ss E ad (tDrop te) (fDrop fe) := fun G0 H0 σ Γ G H R r e D' q => by
  obtain ⟨G', l, R'⟩ := R.r.lock (fun _ => true)
  unfold fDrop at e
  split at e
  · rename_i d e1
    cases e
    refine he σ _ G' H R' _ e1 _ fun v G2 H2 s2 q2 => ?_
    have s3 := (l.back s2).1
    exact q σ _ H2 (R.stp s3) s3.g
  · rename_i x e1
    cases e
    exact he σ _ G' H R' _ e1 _ fun G2 H2 s2 => q _ H2 (R.s.trans (l.back s2).1)
  · cases e
theorem u_ifS (ht : Sb E ad tt ft) (hs : Ss E ad ts fs) (hu : Ss E ad tu fu) : Ss E ad (tIfS tt ts tu) (fIfS ft fs fu) := fun G0 H0 σ Γ G H R r e D' q => by
  unfold fIfS at e
  split at e
  · rename_i b e1
    refine ht σ Γ G H R.r _ e1 _ fun G2 H2 s2 => ?_
    cases b with
    | true =>
      rw [if_pos rfl] at e ⊢
      exact hs G0 H0 σ Γ G2 H2 (R.stp s2) _ e _ (q.mono s2.g)
    | false =>
      rw [if_neg (by decide)] at e ⊢
      exact hu G0 H0 σ Γ G2 H2 (R.stp s2) _ e _ (q.mono s2.g)
  · rename_i x e1
    cases e
    exact ht σ Γ G H R.r _ e1 _ fun G2 H2 s2 => q G2 H2 (R.s.trans s2)
  · cases e
theorem u_raise {x : Str} (hx : tmOf x = none := by decide) : Ss E ad (fun _ _ H => E (.ref (ad x)) none H) (fRaise x) := fun G0 H0 σ Γ G H R r e D' q => by
  cases e
  exact (q G H R.s).plain hx
def cellOf (m : Bool) (d : D) : Option Ce := if m = true then (match d with
  | .list ds => some (.ml ds)
  | _ => none) else some (.d d)
def fPar (m1 m2 : Bool) (i j : Nat) (fa fb : En → Re) (Γ : En) : Rf := match fa Γ with
  | some (.val x) => match cellOf m1 x with
    | some c1 => match fb Γ with
      | some (.val y) => match cellOf m2 y with
        | some c2 => some (.nx ((Γ.set i c1).set j c2))
        | none => none
      | some (.exc x) => some (.ex x)
      | none => none
    | none => none
  | some (.exc x) => some (.ex x)
  | none => none
def Sx (E : XK) (ad : Str → Addr) (m : Bool) (te : TE) (f : En → Re) : Prop := if m = true then Sm E ad te f else Se E ad te f
theorem RelS.setD {v : V} {d : D} {j : Nat} (R : RelS G0 H0 G H σ Γ) (q : Dq G v d) : RelS G0 H0 G H (σ.set j (some v)) (Γ.set j (.d d)) := ⟨R.r.set q, R.s, fun i c p e mc ep => by
  rcases set_at e with ⟨rfl, hl, rfl⟩ | ⟨ne, e⟩
  · cases mc
  · rw [List.getElem?_set_ne (fun z => ne z.symm)] at ep
    exact R.n i c p e mc ep⟩
theorem par_snd {m2 : Bool} {i j : Nat} {c1 : Ce} {v : V} {D' : Ends} {r : Fl} (h2 : Sx E ad m2 tb fb) (R2 : Rel G H σ Γ) (R3 : RelS G0 H0 G H (σ.set i (some v)) (Γ.set i c1))
    (e : (match fb Γ with
      | some (.val y) => match cellOf m2 y with
        | some c2 => some (Fl.nx ((Γ.set i c1).set j c2))
        | none => none
      | some (.exc x) => some (.ex x)
      | none => none) = some r) (q : PoS E ad G0 H0 G D' r) : tCons tb tNil σ H fun vs H3 => ∃ v' w, v :: vs = [v', w] ∧ D'.nx ((σ.set i (some v')).set j (some w)) H3 := by
  split at e
  · rename_i y e2
    split at e
    · rename_i c2 k2
      cases e
      cases m2 with
      | false =>
        have h2' : Se E ad tb fb := h2
        cases k2
        exact h2' σ Γ G H R2 _ e2 _ fun u G3 H3 s3 q3 => ⟨v, u, rfl, q _ G3 H3 ((R3.stp s3).setD q3) s3.g⟩
      | true =>
        have h2' : Sm E ad tb fb := h2
        cases y with
        | list ds =>
          cases k2
          exact h2' σ Γ G H R2 _ e2 (fun u H3 => tNil σ H3 fun us H3 => ∃ v' w, v :: u :: us = [v', w] ∧ D'.nx ((σ.set i (some v')).set j (some w)) H3) fun p2 G3 H3 s3 hp2 m2 => ⟨v, .ref p2, rfl, q _ G3 H3 (R3.setM s3 hp2 m2) s3.g⟩
        | _ => cases k2
    · cases e
  · rename_i x e2
    cases e
    cases m2 with
    | false => exact (show Se E ad tb fb from h2) σ Γ G H R2 _ e2 _ fun G3 H3 s3 => q G3 H3 (R3.s.trans s3)
    | true => exact (show Sm E ad tb fb from h2) σ Γ G H R2 _ e2 _ fun G3 H3 s3 => q G3 H3 (R3.s.trans s3)
  · cases e
theorem u_par {m1 m2 : Bool} {i j : Nat} (h1 : Sx E ad m1 ta fa) (h2 : Sx E ad m2 tb fb) : Ss E ad (tPar i j (tCons ta (tCons tb tNil))) (fPar m1 m2 i j fa fb) := fun G0 H0 σ Γ G H R r e D' q => by
  unfold fPar at e
  split at e
  · rename_i x e1
    split at e
    · rename_i c1 k1
      cases m1 with
      | false =>
        have h1' : Se E ad ta fa := h1
        cases k1
        exact h1' σ Γ G H R.r _ e1 _ fun v G2 H2 s2 q2 => par_snd h2 (R.r.stp s2) ((R.stp s2).setD q2) e (q.mono s2.g)
      | true =>
        have h1' : Sm E ad ta fa := h1
        cases x with
        | list ds1 =>
          cases k1
          exact h1' σ Γ G H R.r _ e1 (fun v H2 => tCons tb tNil σ H2 fun vs H3 => ∃ v' w, v :: vs = [v', w] ∧ D'.nx ((σ.set i (some v')).set j (some w)) H3) fun p G2 H2 s2 hp m => par_snd h2 (R.r.stp s2) (R.setM s2 hp m) e (q.mono s2.g)
        | _ => cases k1
    · cases e
  · rename_i x e1
    cases e
    cases m1 with
    | false => exact (show Se E ad ta fa from h1) σ Γ G H R.r _ e1 _ fun G3 H3 s3 => q G3 H3 (R.s.trans s3)
    | true => exact (show Sm E ad ta fa from h1) σ Γ G H R.r _ e1 _ fun G3 H3 s3 => q G3 H3 (R.s.trans s3)
  · cases e
def forGo (st : Fs) (body : En → Rf) : List D → En → Rf
  | [], Γ => some (.nx Γ)
  | a :: as, Γ => match st a Γ with
    | none => none
    | some Γ1 => match body Γ1 with
      | some (.nx Γ2) => forGo st body as Γ2
      | some (.ct Γ2) => forGo st body as Γ2
      | some (.bk Γ2) => some (.nx Γ2)
      | r => r
def fFor (src : En → Ra) (st : Fs) (body : En → Rf) (Γ : En) : Rf := match src Γ with
  | some (.vals as) => forGo st body as Γ
  | some (.exc x) => some (.ex x)
  | none => none
theorem u_for {wi : TI} {src : En → Ra} (hs : Si E ad wi src) (hg : Sg g st js) (hb : Ss E ad ts fs) : Ss E ad (tFor wi g ts) (fFor src st fs) := fun G0 H0 σ Γ G H R r e D' q => by
  unfold fFor at e
  split at e
  · rename_i as e1
    refine hs σ Γ G H R.r _ e1 _ fun J G1 H1 s1 wl0 => ?_
    have wl := wl0.mono noT_ex
    refine ⟨fun i m σ' H' => m = as.length - i ∧ i ≤ as.length ∧ ∃ Γi Gi, RelS G0 H0 Gi H' σ' Γi ∧ Ex G1 Gi ∧ forGo st fs (as.drop i) Γi = some r, ⟨as.length, rfl, Nat.zero_le _, Γ, G1, R.stp s1, .refl _, e⟩, ?_⟩
    rintro i m σ' H' ⟨rfl, hi, Γi, Gi, Ri, xi, ei⟩
    have qi := q.mono (s1.g.trans xi)
    cases hd : as.drop i with
    | nil =>
      have el : i = as.length := by
        have := congrArg List.length hd
        rw [List.length_drop, List.length_nil] at this
        omega
      rw [hd] at ei
      cases ei
      exact .inl ⟨(wl i H' (xi.trans Ri.r.w)).2 el, qi σ' Gi H' Ri (.refl _)⟩
    | cons a as2 =>
      obtain ⟨ha, hd2⟩ := drop_at hd
      have hlt : i < as.length := (List.getElem?_eq_some_iff.mp ha).1
      obtain ⟨hgo, hy⟩ := (wl i H' (xi.trans Ri.r.w)).1 a ha
      refine .inr ⟨hgo, fun σ2 H2 => ∃ Γ2 G2, RelS G0 H0 G2 H2 σ2 Γ2 ∧ Ex G1 G2 ∧ forGo st fs (as.drop (i + 1)) Γ2 = some r, fun σ2 H2 hN => ⟨as.length - (i + 1), by omega, rfl, hlt, hN⟩, ?_⟩
      intro v H2 hyl
      obtain ⟨G2, s2, qv⟩ := hy v H2 hyl Gi xi Ri.r.w
      have R2 := Ri.stp s2
      have q2 := qi.mono s2.g
      rw [hd] at ei
      unfold forGo at ei
      cases hst : st a Γi with
      | none => rw [hst] at ei; cases ei
      | some Γ1 =>
        rw [hst] at ei
        dsimp only at ei
        refine hg σ' Γi G2 H2 R2.r v a Γ1 qv hst _ fun σ3 R3 l3 o3 m3 _ => ?_
        have RS3 : RelS G0 H0 G2 H2 σ3 Γ1 := ⟨R3 G2 H2 (.refl _) R2.r, R2.s, fun i c p ec mc ep => by
          obtain ⟨h1, h2⟩ := m3 i c ec mc
          exact R2.n i c p h1 mc (h2 ▸ ep)⟩
        split at ei
        · rename_i Γ2 eb
          exact hb G0 H0 σ3 Γ1 G2 H2 RS3 _ eb _ fun σ4 G4 H4 R4 x4 => ⟨Γ2, G4, R4, (xi.trans s2.g).trans x4, by rw [hd2]; exact ei⟩
        · rename_i Γ2 eb
          exact hb G0 H0 σ3 Γ1 G2 H2 RS3 _ eb _ fun σ4 G4 H4 R4 x4 => ⟨Γ2, G4, R4, (xi.trans s2.g).trans x4, by rw [hd2]; exact ei⟩
        · rename_i Γ2 eb
          cases ei
          exact hb G0 H0 σ3 Γ1 G2 H2 RS3 _ eb _ q2
        · rename_i n1 n2 n3
          refine hb G0 H0 σ3 Γ1 G2 H2 RS3 _ ei _ ?_
          cases r with
          | nx Γ2 => exact (n1 Γ2 ei).elim
          | ct Γ2 => exact (n2 Γ2 ei).elim
          | bk Γ2 => exact (n3 Γ2 ei).elim
          | _ => exact q2
  · rename_i x e1
    cases e
    exact hs σ Γ G H R.r _ e1 _ fun G2 H2 s2 => q G2 H2 (R.s.trans s2)
  · cases e
def fApp (i : Nat) (fe : En → Re) (Γ : En) : Rf := match Γ[i]? with
  | some (.ml ds) => match fe Γ with
    | some (.val d) => if small ds.length = true then some (.nx (Γ.set i (.ml (ds ++ [d])))) else none
    | some (.exc x) => some (.ex x)
    | none => none
  | _ => none
theorem RelS.mut {p : Addr} {ds ds2 : List D} {o : HO} {i : Nat} (R : RelS G0 H0 G H σ Γ) (e : Γ[i]? = some (.ml ds)) (ep : σ[i]? = some (some (.ref p))) (m : ML G (upd H p o) p ds2) : RelS G0 H0 G (upd H p o) σ (Γ.set i (.ml ds2)) := by
  have h0 := R.n i _ p e rfl ep
  have others : ∀ {k : Nat} {c : Ce} {q : Addr}, k ≠ i → Γ[k]? = some c → isMut c = true → σ[k]? = some (some (.ref q)) → q ≠ p := fun {k c q} ne ek mk eq z => ne (R.r.sep k i p c _ ek e mk rfl (z ▸ eq) ep)
  have s2 : Stp G0 H0 G (upd H p o) := R.s.mutd h0 m.g
  refine ⟨⟨s2.w, by rw [List.length_set]; exact R.r.len, fun k c ec => ?_, fun k l q ck cl e1 e2 m1 m2 s1 s2 => ?_⟩, s2, fun k c q ec mc eq => ?_⟩
  · rcases set_at ec with ⟨rfl, hl, rfl⟩ | ⟨ne, ec⟩
    · exact ⟨p, ep, m⟩
    · have hc := R.r.c k c ec
      cases c with
      | un => trivial
      | fx v => exact hc
      | d z => exact hc
      | ml es =>
        obtain ⟨q, eq, mq⟩ := hc
        exact ⟨q, eq, mq.other (others ne ec rfl eq)⟩
      | md es =>
        obtain ⟨q, eq, mq⟩ := hc
        exact ⟨q, eq, mq.other (others ne ec rfl eq)⟩
  · have inj : ∀ {k : Nat} {c : Ce}, (Γ.set i (.ml ds2))[k]? = some c → isMut c = true → ∃ c0, Γ[k]? = some c0 ∧ isMut c0 = true := fun {k c} ek mk => by
      rcases set_at ek with ⟨rfl, hl, rfl⟩ | ⟨ne, ek⟩
      · exact ⟨_, e, rfl⟩
      · exact ⟨c, ek, mk⟩
    obtain ⟨c1, f1, n1⟩ := inj e1 m1
    obtain ⟨c2, f2, n2⟩ := inj e2 m2
    exact R.r.sep k l q c1 c2 f1 f2 n1 n2 s1 s2
  · rcases set_at ec with ⟨rfl, hl, rfl⟩ | ⟨ne, ec⟩
    · exact R.n k _ q e rfl eq
    · exact R.n k c q ec mc eq
theorem u_app {K : PySem.W.Frag} {i : Nat} (he : Se E ad te fe) : Ss E ad (tDrop (tBM K "list" rAppend (tVar i) (tCons te tNil))) (fApp i fe) := fun G0 H0 σ Γ G H R r e D' q => by
  unfold fApp at e
  split at e
  · rename_i ds e1
    obtain ⟨p, ep, m⟩ := R.r.c i _ e1
    obtain ⟨us, eu, qu⟩ := m.at_
    split at e
    · rename_i d e2
      by_cases hs : small ds.length = true
      · rw [if_pos hs] at e
        cases e
        have sml := small_le hs
        refine ⟨.ref p, ep, .inl ⟨rfl, us, SqL.of eu⟩, he σ Γ G H R.r _ e2 _ fun v G2 H2 s2 q2 => ?_⟩
        have m2 := m.stp s2
        obtain ⟨us2, e3, q3⟩ := m2.at_
        refine ⟨p, us2, v, rfl, rfl, e3, by rw [q3.len, sizeLine_eq]; omega, ?_⟩
        exact q σ G2 _ ((R.stp s2).mut e1 ep ⟨m2.g, _, upd_same, q3.snoc q2⟩) s2.g
      · rw [if_neg hs] at e; cases e
    · rename_i x e2
      cases e
      exact ⟨.ref p, ep, .inl ⟨rfl, us, SqL.of eu⟩, he σ Γ G H R.r _ e2 _ fun G2 H2 s2 => q G2 H2 (R.s.trans s2)⟩
    · cases e
  · cases e
def bodyD (fs : En → Rf) (n : Nat) (ds : List D) : Re := match fs ((ds.map Ce.d) ++ List.replicate n .un) with
  | some (.nx _) => some (.val .none)
  | some (.rt d) => some (.val d)
  | some (.ex x) => some (.exc x)
  | _ => none
theorem rel_start {vs : List V} {ds : List D} (w : Ex G H) (h : DqA G vs ds) {n : Nat} : RelS G H G H ((vs.map some) ++ List.replicate n none) ((ds.map Ce.d) ++ List.replicate n .un) := by
  have nm : ∀ {i : Nat} {c : Ce}, ((ds.map Ce.d) ++ List.replicate n .un)[i]? = some c → isMut c = false ∧ CellOk G H (((vs.map some) ++ List.replicate n none)[i]?) c := fun {i c} e => by
    by_cases hi : i < ds.length
    · rw [List.getElem?_append_left (by rw [List.length_map]; exact hi), List.getElem?_map] at e
      obtain ⟨d, hd, rfl⟩ := Option.map_eq_some_iff.mp e
      obtain ⟨v, hv, q⟩ := h.getD hd
      refine ⟨rfl, v, ?_, q⟩
      rw [List.getElem?_append_left (by rw [List.length_map, h.len]; exact hi), List.getElem?_map, hv]; rfl
    · rw [List.getElem?_append_right (by rw [List.length_map]; omega), List.getElem?_replicate] at e
      split at e
      · cases e; exact ⟨rfl, trivial⟩
      · cases e
  refine ⟨⟨w, by simp [h.len], fun i c e => (nm e).2, fun i j p ci cj e1 _ m1 _ _ _ => ?_⟩, .refl w, fun i c p e m _ => ?_⟩
  · rw [(nm e1).1] at m1; cases m1
  · rw [(nm e).1] at m; cases m
theorem body_ok {vs : List V} {ds : List D} {r : Ou} {n : Nat} {Q : VK} (hs : Ss E ad ts fs) (w : Ex G H) (h : DqA G vs ds) (e : bodyD fs n ds = some r) (q : PoE E ad G H Q r) :
    ts { nx := fun _ H' => Q .non H', rt := Q } ((vs.map some) ++ List.replicate n none) H := by
  unfold bodyD at e
  split at e
  · rename_i Γ e1
    cases e
    exact hs G H _ _ G H (rel_start w h) _ e1 _ fun σ2 G2 H2 R x => q .non G2 H2 R.s .non
  · rename_i d e1
    cases e
    exact hs G H _ _ G H (rel_start w h) _ e1 _ q
  · rename_i x e1
    cases e
    exact hs G H _ _ G H (rel_start w h) _ e1 _ q
  · cases e
end
end Mv
namespace Mv
open PySem L2 Evl
def dI (ns : List Int) : D := .tuple (ns.map .int)
def dL (pl : List (List Int)) : D := .list (pl.map dI)
def prod (ns : List Int) : Int := ns.foldl (· * ·) 1
def grow (found : List (List Int)) (size : Int) : List (List Int) := found.flatMap fun b => (List.range size.toNat).map fun (i : Nat) => b ++ [(i : Int)]
def placesOf (n : List Int) : List (List Int) := n.foldl grow [[]]
def zeros (n : List Int) : List Int := List.replicate n.length 0
def addP : List Int → List Int → List Int → List Int
  | s :: n, x :: a, y :: b => ((x + y) % s) :: addP n a b
  | _, _, _ => []
structure OkD (n : List Int) : Prop where
  lo : 1 ≤ n.length
  hi : n.length ≤ 4
  sz : ∀ s ∈ n, 2 ≤ s ∧ s ≤ 24
  pr : prod n ≤ 24
theorem grow_len (found : List (List Int)) (size : Int) : (grow found size).length = found.length * size.toNat := by
  unfold grow
  induction found with
  | nil => simp
  | cons b l ih => rw [List.flatMap_cons, List.length_append, ih, List.length_map, List.length_range, List.length_cons, Nat.succ_mul, Nat.add_comm]
theorem places_len_take {n : List Int} (h : ∀ s ∈ n, 2 ≤ s) : ∀ i : Nat, ((placesOf (n.take i)).length : Int) = prod (n.take i) := by
  have key : ∀ (l : List Int), (∀ s ∈ l, 2 ≤ s) → ∀ (f : List (List Int)) (k : Int), (f.length : Int) = k → ((l.foldl grow f).length : Int) = l.foldl (· * ·) k := by
    intro l
    induction l with
    | nil => intro _ f k e; exact e
    | cons s l ih =>
      intro hs f k e
      refine ih (fun q hq => hs q (List.mem_cons_of_mem _ hq)) _ _ ?_
      rw [grow_len, Int.natCast_mul, e, Int.toNat_of_nonneg (by have := hs s (List.mem_cons_self ..); omega)]
  intro i
  exact key (n.take i) (fun s hs => h s (List.mem_of_mem_take hs)) [[]] 1 rfl
theorem prod_mono : ∀ {l : List Int}, (∀ s ∈ l, 2 ≤ s) → ∀ k : Int, 0 ≤ k → k ≤ l.foldl (· * ·) k
  | [], _, k, _ => Int.le_refl k
  | s :: l, h, k, hk => by
    have h2 := h s (List.mem_cons_self ..)
    have e : k ≤ k * s := by
      have := Int.mul_le_mul_of_nonneg_left (show (1 : Int) ≤ s by omega) hk
      omega
    exact Int.le_trans e (prod_mono (fun q hq => h q (List.mem_cons_of_mem _ hq)) _ (Int.le_trans hk e))
theorem prod_take {n : List Int} (h : ∀ s ∈ n, 2 ≤ s) (i : Nat) : prod (n.take i) ≤ prod n ∧ 1 ≤ prod (n.take i) := by
  have e : prod n = (n.drop i).foldl (· * ·) (prod (n.take i)) := by
    unfold prod
    rw [← List.foldl_append, List.take_append_drop]
  have p1 : 1 ≤ prod (n.take i) := prod_mono (fun s hs => h s (List.mem_of_mem_take hs)) 1 (by decide)
  refine ⟨?_, p1⟩
  rw [e]
  exact prod_mono (fun s hs => h s (List.mem_of_mem_drop hs)) _ (by omega)
theorem OkD.pl {n : List Int} (h : OkD n) (i : Nat) : (placesOf (n.take i)).length ≤ 24 := by
  have h1 := places_len_take (fun s hs => (h.sz s hs).1) i
  have h2 := (prod_take (fun s hs => (h.sz s hs).1) i).1
  have h3 := h.pr
  omega
def tyD : D → String
  | .none => "NoneType"
  | .bool _ => "bool"
  | .int _ => "int"
  | .str _ => "str"
  | .list _ => "list"
  | .tuple _ => "tuple"
  | .dict _ => "dict"
theorem tyO {K : PySem.W.Frag} {H : Hp} {a : Addr} {xs : List V} (h : TupA H a xs) : TyY K H (.ref a) (.type "tuple") := by
  obtain ⟨o, _, h⟩ := h
  rcases tupO_cases o xs with q | q
  · rw [q] at h; exact .x (.base (.tup h))
  · rw [q] at h; exact .x (.fTuple h)
theorem tyX_of {K : PySem.W.Frag} {G H : Hp} (e : Ex G H) {v : V} {d : D} (h : Dq G v d) : TyY K H v (.type (tyD d)) := by
  cases h with
  | non => exact .x (.base .non)
  | bl b => exact .x (.base (.bl b))
  | int i => exact .x (.base (.int i))
  | str x => exact .x (.base (.str x))
  | lst h _ => exact .x (.base (.lst (e _ _ h)))
  | tup h _ => exact tyO (h.mono e)
  | emp h _ => exact .x (.base (.dK (e _ _ h)))
  | dct h _ _ => exact .d (e _ _ h)
theorem kit_tab : (["NoneType", "bool", "int", "str", "list", "tuple", "dict"].all fun a => ["bool", "int", "list", "tuple", "dict"].all fun b => kitB a b == some (a == b || (a == "bool" && b == "int"))) = true := by decide +kernel
theorem kit_of_D (d : D) {c : String} (hc : c ∈ ["bool", "int", "list", "tuple", "dict"]) : kitB (tyD d) c = some (tyD d == c || (tyD d == "bool" && c == "int")) := by
  have h := List.all_eq_true.mp kit_tab (tyD d) (by cases d <;> simp [tyD])
  have h2 := List.all_eq_true.mp h c hc
  exact eq_of_beq h2
def isD (d : D) (c : String) : Bool := tyD d == c || (tyD d == "bool" && c == "int")
section
variable {K : PySem.W.Frag} {σ : L2.St} {G G' H H' : Hp} {ta tb te tx : TE} {t u : TT} {d e z : D} {ds es : List D}
def btw (lo hi : Int) : D → Bool
  | .int i => decide (lo ≤ i) && decide (i ≤ hi)
  | _ => false
end
theorem eqvI : ∀ (a b : List Int), PyData.eqvAll (a.map PyData.int) (b.map PyData.int) = decide (a = b)
  | [], [] => rfl
  | [], y :: b => by simp [PyData.eqvAll]
  | x :: a, [] => by simp [PyData.eqvAll]
  | x :: a, y :: b => by
    rw [List.map_cons, List.map_cons, PyData.eqvAll, PyData.eqv, eqvI a b]
    by_cases h : x = y <;> simp [h]
theorem flat_dI (a : List Int) : flatD (dI a) = true := by
  show flatDs (a.map PyData.int) = true
  induction a with
  | nil => rfl
  | cons x a ih => rw [List.map_cons, flatDs, ih]; rfl
theorem canLay_ints : ∀ a : List Int, PyData.canLayAll0 (a.map PyData.int) = true
  | [] => by simp [PyData.canLayAll0]
  | x :: a => by simp [PyData.canLayAll0, PyData.canLay0, canLay_ints a]
theorem depth_ints : ∀ a : List Int, PyData.depthAll (a.map PyData.int) ≤ 1
  | [] => by simp [PyData.depthAll]
  | x :: a => by
    have := depth_ints a
    (simp only [List.map_cons, PyData.depthAll, PyData.depth])
    omega
theorem shaped_dI (a : List Int) : SeqAt.shaped (dI a) = true := by
  unfold SeqAt.shaped dI
  rw [PyData.canLay0, canLay_ints, PyData.depth]
  have := depth_ints a
  simp
  omega
theorem eqv_dI (a b : List Int) : PyData.eqv (dI a) (dI b) = decide (a = b) := by
  unfold dI
  rw [PyData.eqv]
  exact eqvI a b
section
variable {K : PySem.W.Frag} {σ : L2.St} {G G' H H' : Hp} {ta tb te tx : TE} {t u : TT} {d e z : D} {ds es : List D} {D' : Ends} {tu tz : TS}
end
structure ExcC (K : PySem.W.Frag) (mg : Str → Option Value) (x : Str) (C : Addr) : Prop where
  ex : PySem.W.excIn K C [.type "ValueError", .type "Exception", .type "BaseException", .type "object"] "ValueError.__new__" = true
  g : mg x = some (.ref C)
  k : PySem.W.keepIn K (.ref C) = true
  b : PySem.W.subIn K (.ref C) (.type "BaseException") = some true
  t : PySem.W.typeIn K (.ref C) = some (.type "type")
def stK (l c : Addr) (left turn : Int) : List (Key × V) := [(Sum.inr ("large" : Str), .ref l), (Sum.inr ("cells" : Str), .ref c), (Sum.inr ("left" : Str), .int left), (Sum.inr ("turn" : Str), .int turn)]
theorem ne1 : ¬ ((Sum.inr ("large" : Str) : Key) = Sum.inr ("cells" : Str)) := fun h => absurd (Sum.inr.inj h) (by decide +kernel)
theorem ne2 : ¬ ((Sum.inr ("large" : Str) : Key) = Sum.inr ("left" : Str)) := fun h => absurd (Sum.inr.inj h) (by decide +kernel)
theorem ne3 : ¬ ((Sum.inr ("large" : Str) : Key) = Sum.inr ("turn" : Str)) := fun h => absurd (Sum.inr.inj h) (by decide +kernel)
theorem ne4 : ¬ ((Sum.inr ("cells" : Str) : Key) = Sum.inr ("left" : Str)) := fun h => absurd (Sum.inr.inj h) (by decide +kernel)
theorem ne5 : ¬ ((Sum.inr ("cells" : Str) : Key) = Sum.inr ("turn" : Str)) := fun h => absurd (Sum.inr.inj h) (by decide +kernel)
theorem ne6 : ¬ ((Sum.inr ("left" : Str) : Key) = Sum.inr ("turn" : Str)) := fun h => absurd (Sum.inr.inj h) (by decide +kernel)
section
variable (l c : Addr) (left turn x : Int)
theorem v_large : valV (stK l c left turn) (Sum.inr ("large" : Str)) = some (.ref l) := valV_pos rfl
theorem v_cells : valV (stK l c left turn) (Sum.inr ("cells" : Str)) = some (.ref c) := by unfold stK; rw [valV_neg ne1, valV_pos rfl]
theorem v_left : valV (stK l c left turn) (Sum.inr ("left" : Str)) = some (.int left) := by unfold stK; rw [valV_neg ne2, valV_neg ne4, valV_pos rfl]
theorem v_turn : valV (stK l c left turn) (Sum.inr ("turn" : Str)) = some (.int turn) := by unfold stK; rw [valV_neg ne3, valV_neg ne5, valV_neg ne6, valV_pos rfl]
theorem p_left : putK (stK l c left turn) (Sum.inr ("left" : Str)) (.int x) = stK l c x turn := by
  have e : ((stK l c left turn).any fun kv => decide (kv.1 = Sum.inr ("left" : Str))) = true := by rw [valV_any, v_left]; rfl
  unfold putK
  rw [if_pos e]
  unfold stK
  simp only [List.map_cons, List.map_nil]
  rw [if_neg ne2, if_neg ne4, if_true, if_neg (fun h => ne6 h.symm)]
theorem p_turn : putK (stK l c left turn) (Sum.inr ("turn" : Str)) (.int x) = stK l c left x := by
  have e : ((stK l c left turn).any fun kv => decide (kv.1 = Sum.inr ("turn" : Str))) = true := by rw [valV_any, v_turn]; rfl
  unfold putK
  rw [if_pos e]
  unfold stK
  simp only [List.map_cons, List.map_nil]
  rw [if_neg ne3, if_neg ne5, if_neg ne6, if_true]
end
structure StAt (H : Hp) (s l c : Addr) (T : Int) : Prop where
  ex : ∃ (lg cs : List Int) (left turn : Int), H s = some (.dK (stK l c left turn)) ∧ H l = some (.lst (lg.map V.int)) ∧ H c = some (.lst (cs.map V.int)) ∧ (∀ x ∈ lg, 0 ≤ x) ∧ (∀ x ∈ cs, 0 ≤ x) ∧ 0 ≤ left ∧ 0 ≤ turn ∧ turn ≤ T
  lc : l ≠ c
structure Wd (G H : Hp) (s l c : Addr) (T : Int) : Prop where
  w : Ex G H
  st : StAt H s l c T
  gs : G s = none
  gl : G l = none
  gc : G c = none
theorem StAt.mono {H H' : Hp} {s l c : Addr} {T : Int} (x : StAt H s l c T) (e : Ex H H') : StAt H' s l c T := by
  obtain ⟨⟨lg, cs, left, turn, h1, h2, h3, h⟩, q⟩ := x
  exact ⟨⟨lg, cs, left, turn, e _ _ h1, e _ _ h2, e _ _ h3, h⟩, q⟩
theorem StAt.ge {H : Hp} {s l c : Addr} {T T' : Int} (x : StAt H s l c T) (e : T ≤ T') : StAt H s l c T' := by
  obtain ⟨⟨lg, cs, left, turn, h1, h2, h3, h4, h5, h6, h7, h8⟩, q⟩ := x
  exact ⟨⟨lg, cs, left, turn, h1, h2, h3, h4, h5, h6, h7, by omega⟩, q⟩
theorem StAt.at {H : Hp} {s l c : Addr} {T : Int} (x : StAt H s l c T) : (∃ o, H s = some o ∧ ∀ xs, o ≠ .tup xs) ∧ (∃ o, H l = some o ∧ ∀ xs, o ≠ .tup xs) ∧ ∃ o, H c = some o ∧ ∀ xs, o ≠ .tup xs := by
  obtain ⟨⟨lg, cs, left, turn, h1, h2, h3, h⟩, q⟩ := x
  exact ⟨⟨_, h1, fun _ z => nomatch z⟩, ⟨_, h2, fun _ z => nomatch z⟩, ⟨_, h3, fun _ z => nomatch z⟩⟩
theorem StAt.apart {H : Hp} {s l c : Addr} {T : Int} (x : StAt H s l c T) : s ≠ l ∧ s ≠ c := by
  obtain ⟨⟨lg, cs, left, turn, h1, h2, h3, h⟩, q⟩ := x
  exact ⟨ne_of h1 h2 (by intro z; cases z), ne_of h1 h3 (by intro z; cases z)⟩
theorem Wd.stp {G H G' H' : Hp} {s l c : Addr} {T : Int} (x : Wd G H s l c T) (p : Stp G H G' H') : Wd G' H' s l c T := by
  obtain ⟨⟨o1, e1, m1⟩, ⟨o2, e2, m2⟩, o3, e3, m3⟩ := x.st.at
  have gone : ∀ {b : Addr} {o : HO}, G b = none → H b = some o → (∀ xs, o ≠ .tup xs) → G' b = none := fun {b o} q e m => p.n b q (by rw [e]; intro z; cases z) fun xs z => m xs (Option.some.inj (e.symm.trans z))
  exact ⟨p.w, x.st.mono p.h, gone x.gs e1 m1, gone x.gl e2 m2, gone x.gc e3 m3⟩
structure StS (S : List Addr) (G H G' H' : Hp) : Prop where
  g : Ex G G'
  h : ∀ b o, b ∉ S → H b = some o → H' b = some o
  k : ∀ b, b ∈ S → H b ≠ none → H' b ≠ none ∧ ((∀ xs, H b ≠ some (.tup xs)) → ∀ xs, H' b ≠ some (.tup xs))
  w : Ex G' H'
  n : ∀ b, G b = none → H b ≠ none → (∀ xs, H b ≠ some (.tup xs)) → G' b = none
theorem kept_some {H H' : Hp} (h : Ex H H') {b : Addr} (q : H b ≠ none) : H' b ≠ none := by
  cases e : H b with
  | none => exact (q e).elim
  | some o => rw [h b o e]; exact fun z => nomatch z
theorem kept_mut {H H' : Hp} (h : Ex H H') {b : Addr} (q : H b ≠ none) (m : ∀ xs, H b ≠ some (.tup xs)) : H' b ≠ none ∧ ∀ xs, H' b ≠ some (.tup xs) := by
  cases e : H b with
  | none => exact (q e).elim
  | some o => rw [h b o e]; exact ⟨(fun z => nomatch z), fun xs z => m xs (e.trans z)⟩
theorem Stp.toS {S : List Addr} {G H G' H' : Hp} (p : Stp G H G' H') : StS S G H G' H' := ⟨p.g, fun b o _ q => p.h b o q, fun b _ q => ⟨kept_some p.h q, fun m => (kept_mut p.h q m).2⟩, p.w, p.n⟩
theorem StS.keep {S : List Addr} {G H G' H' : Hp} (a : StS S G H G' H') {c : Addr} (q : H c ≠ none) (m : ∀ xs, H c ≠ some (.tup xs)) : H' c ≠ none ∧ ∀ xs, H' c ≠ some (.tup xs) := by
  by_cases hc : c ∈ S
  · exact ⟨(a.k c hc q).1, (a.k c hc q).2 m⟩
  · cases e : H c with
    | none => exact (q e).elim
    | some o => rw [a.h c o hc e]; exact ⟨(fun z => nomatch z), fun xs z => m xs (e.trans z)⟩
theorem StS.trans {S : List Addr} {G H G1 H1 G2 H2 : Hp} (a : StS S G H G1 H1) (b : StS S G1 H1 G2 H2) : StS S G H G2 H2 :=
  ⟨a.g.trans b.g, fun c o hc q => b.h c o hc (a.h c o hc q), fun c hc q => ⟨(b.k c hc (a.k c hc q).1).1, fun m => (b.k c hc (a.k c hc q).1).2 ((a.k c hc q).2 m)⟩, b.w, fun c h1 h2 m => b.n c (a.n c h1 h2 m) (a.keep h2 m).1 (a.keep h2 m).2⟩
theorem StS.refl {S : List Addr} {G H : Hp} (e : Ex G H) : StS S G H G H := (Stp.refl e).toS
theorem q_whileW {c : TT} {tb tz : TS} {D' : Ends} {σ : L2.St} {H : Hp} (W : Nat → L2.St → Hp → Prop) (Nd : L2.St → Hp → Prop) (h0 : ∃ m, W m σ H)
    (hs : ∀ R : L2.St → Hp → Prop, (∀ σ' H', Nd σ' H' → R σ' H') → ∀ m σ H, W m σ H → c σ H fun b H1 => if b = true then ∃ N : L2.St → Hp → Prop, (∀ σ' H', N σ' H' → ∃ m', m' < m ∧ W m' σ' H') ∧ tb { D' with nx := N, ct := N, bk := R } σ H1 else R σ H1)
    (hd : ∀ σ' H', Nd σ' H' → tz D' σ' H') : tSeq (tWhile c tb) tz D' σ H := ⟨W, h0, fun m σ H hw => hs (tz D') hd m σ H hw⟩
theorem q_asgW {te : TE} {tz : TS} {D' : Ends} {i : Nat} {σ : L2.St} {H : Hp} (Pv : V → Hp → Prop) (h : ∀ Q : VK, (∀ v H', Pv v H' → Q v H') → te σ H Q) (k : ∀ v H', Pv v H' → tz D' (σ.set i (some v)) H') : tSeq (tAsg te (gName i)) tz D' σ H := h _ k
def SpDraw : Sp := fun vs H Q _ => ∃ (G : Hp) (s l c : Addr) (T n : Int), vs = [.ref s, .int n] ∧ Wd G H s l c T ∧ 0 < n ∧ n < 1073741824 ∧ T < 1000000000000 ∧
  ∀ r H', 0 ≤ r → r < n → Wd G H' s l c (T + 1) → StS [s, l, c] G H G H' → Q (.int r) H'
theorem st_get {i : Nat} {key : Str} {σ : L2.St} {H : Hp} {s : Addr} {kvs : List (Key × V)} {v : V} {Q : VK} (hσ : σ[i]? = some (some (.ref s))) (hd : H s = some (.dK kvs)) (hv : valV kvs (Sum.inr key) = some v) (q : Q v H) :
    tDGet (tVar i) (tC (.str key)) σ H Q := ⟨.ref s, hσ, s, v, rfl, by have := DGet.k (k := Sum.inr key) hd; rw [hv] at this; exact this, q⟩
theorem dp_ints {K : PySem.W.Frag} {H : Hp} {a : Addr} {ns : List Int} (h : H a = some (.lst (ns.map V.int))) : Dp K H (.ref a) (.list (ns.map PyData.int)) := by
  refine .lst (SqL.of h) ?_
  clear h
  induction ns with
  | nil => exact .nil
  | cons x ns ih => exact .cons (.int x) ih
theorem shaped_lI (a : List Int) : SeqAt.shaped (.list (a.map PyData.int)) = true := by
  unfold SeqAt.shaped
  rw [PyData.canLay0, canLay_ints, PyData.depth]
  have := depth_ints a
  simp
  omega
theorem eqv_nil (a : List Int) : PyData.eqv (.list (a.map PyData.int)) (.list []) = a.isEmpty := by
  rw [PyData.eqv]
  cases a <;> simp [PyData.eqvAll]
theorem ne_nil {K : PySem.W.Frag} {H : Hp} {a : Addr} {ns : List Int} {σ : L2.St} {Q : VK} (h : H a = some (.lst (ns.map V.int))) (q : ∀ p, H p = none → Q (.bl (!ns.isEmpty)) (upd H p (.lst []))) :
    tLst tNil σ H fun y H2 => rNeD K (.ref a) y H2 Q := ⟨Nat.zero_le _, fun p hp => ⟨.list (ns.map PyData.int), .list [], dp_ints (by rw [upd_ne (ne_of_none h hp)]; exact h), .lst (SqL.of upd_same) .nil, shaped_lI ns, by decide +kernel, by
  rw [eqv_nil]; exact q p hp⟩⟩
section
variable {K : PySem.W.Frag} {σ : L2.St} {G G' H H' : Hp} {ta tb te tx : TE} {t u : TT} {d e z : D} {ds es : List D} {D' : Ends} {tu tz : TS}
end
def stepF (line : List (List Int)) : List (List Int) := line.flatMap fun t => ((List.range 23).filter fun (i : Nat) => decide (prod t * (2 + (i : Int)) < 25)).map fun (i : Nat) => t ++ [2 + (i : Int)]
def linF : Nat → List (List Int)
  | 0 => [[]]
  | n + 1 => stepF (linF n)
def fndF : Nat → List (List Int)
  | 0 => []
  | n + 1 => fndF n ++ linF (n + 1)
def fewD : List (List Int) := fndF 4
def okB (n : List Int) : Bool := decide (1 ≤ n.length) && decide (n.length ≤ 4) && n.all (fun s => decide (2 ≤ s) && decide (s ≤ 24)) && decide (prod n ≤ 24)
theorem okB_ok {n : List Int} (h : okB n = true) : OkD n := by
  simp only [okB, Bool.and_eq_true, decide_eq_true_eq, List.all_eq_true] at h
  exact ⟨h.1.1.1, h.1.1.2, h.1.2, h.2⟩
theorem few_ok : fewD.all okB = true := by decide +kernel
theorem opd_U {G : Hp} (n : Int) : UnD (rU fun i => .int (-i)) G (.int n) (.int (-n)) := fun x G1 H1 a b hx Q q => by
  cases hx
  exact ⟨n, rfl, q _ G1 H1 (.refl b) (.int _)⟩
theorem StS.mut {S : List Addr} {G H G' H' : Hp} {p : Addr} {o : HO} (a : StS S G H G' H') (hp : H p = none) (gp : G' p = none) : StS S G H G' (upd H' p o) := by
  have np : ∀ {b : Addr} {u : HO}, H b = some u → b ≠ p := fun e z => by rw [z, hp] at e; cases e
  refine ⟨a.g, fun b u hb q => by rw [upd_ne (np q)]; exact a.h b u hb q, fun b hb q => ?_, fun b u q => ?_, a.n⟩
  · by_cases e : b = p
    · exact (q (e ▸ hp)).elim
    · rw [upd_ne e]; exact a.k b hb q
  · have e : b ≠ p := fun z => by rw [z, gp] at q; cases q
    rw [upd_ne e]; exact a.w b u q
theorem Wd.mut {G H : Hp} {s l c p : Addr} {T : Int} {o : HO} (a : Wd G H s l c T) (gp : G p = none) (e1 : p ≠ s) (e2 : p ≠ l) (e3 : p ≠ c) : Wd G (upd H p o) s l c T := by
  obtain ⟨⟨⟨lg, cs, left, turn, h1, h2, h3, h⟩, q⟩, _⟩ := id (And.intro a.st trivial)
  refine ⟨fun b u q => ?_, ⟨⟨lg, cs, left, turn, by rw [upd_ne e1.symm]; exact h1, by rw [upd_ne e2.symm]; exact h2, by rw [upd_ne e3.symm]; exact h3, h⟩, q⟩, a.gs, a.gl, a.gc⟩
  have e : b ≠ p := fun z => by rw [z, gp] at q; cases q
  rw [upd_ne e]; exact a.w b u q
inductive InP : List Int → List Int → Prop
  | nil : InP [] []
  | cons {x s : Int} {p n : List Int} : 0 ≤ x → x < s → InP p n → InP (x :: p) (s :: n)
theorem InP.snoc {p n : List Int} {x s : Int} (h : InP p n) (h1 : 0 ≤ x) (h2 : x < s) : InP (p ++ [x]) (n ++ [s]) := by
  induction h with
  | nil => exact .cons h1 h2 .nil
  | cons a b _ ih => exact .cons a b ih
theorem InP.len {p n : List Int} (h : InP p n) : p.length = n.length := by
  induction h with
  | nil => rfl
  | cons _ _ _ ih => rw [List.length_cons, List.length_cons, ih]
theorem InP.grown {p n : List Int} (h : InP p n) : ∀ {found : List (List Int)} {b : List Int}, b ∈ found → b ++ p ∈ n.foldl grow found := by
  induction h with
  | nil => intro found b hb; rw [List.append_nil]; exact hb
  | @cons x s p n h1 h2 _ ih =>
    intro found b hb
    have : b ++ [x] ∈ grow found s := by
      unfold grow
      refine List.mem_flatMap.mpr ⟨b, hb, List.mem_map.mpr ⟨x.toNat, List.mem_range.mpr (by omega), ?_⟩⟩
      rw [Int.toNat_of_nonneg h1]
    have := ih this
    rw [List.append_assoc] at this
    exact this
theorem InP.mem {p n : List Int} (h : InP p n) : p ∈ placesOf n := h.grown (List.mem_singleton.mpr rfl)
def mulP : List Int → List Int → Int → List Int
  | s :: n, x :: a, k => ((x * k) % s) :: mulP n a k
  | _, _, _ => []
def isPlace (n : List Int) (d : D) : Bool := match d with
  | .tuple xs => decide (xs.length = n.length) && (xs.zip n).all fun q => btw 0 (q.2 - 1) q.1
  | _ => false
theorem few_turn : (fewD.all fun n => (placesOf n).all fun p => ((List.range 24).find? fun (i : Nat) => decide (mulP n p ((i : Int) + 1) = zeros n)).isSome && isPlace n (dI p)) = true := by decide +kernel
section
variable {K : PySem.W.Frag} {σ : L2.St} {G G' H H' : Hp} {te : TE} {D' : Ends} {tz : TS} {ds : List D}
end
def cutD (ds : List D) (lo hi : Option Int) : List D := (ds.drop (HT.sIx ds.length 0 lo)).take (HT.sIx ds.length ds.length hi - HT.sIx ds.length 0 lo)
section
variable {K : PySem.W.Frag} {σ : L2.St} {G G' H H' : Hp} {te : TE} {tl th : TO} {ds : List D}
end
theorem cut_hi {ds : List D} (i : Nat) (h : i ≤ ds.length) : cutD ds (some (i : Int)) none = ds.drop i := by
  unfold cutD
  rw [HT.sIx_none, HT.sIx_nat, Nat.min_eq_left h, List.take_of_length_le (by rw [List.length_drop]; exact Nat.le_refl _)]
section
variable {K : PySem.W.Frag} {σ : L2.St} {G G' H H' : Hp} {ta te : TE} {tr : TA} {ds : List D} {d : D}
end
section
variable {P : Program} {w : World} {mg : Str → Option Value} {base : Heap} {K : PySem.W.Frag}
end
def takeP : List Int → List Int → List Int → List Int
  | s :: n, x :: a, y :: b => ((x - y) % s) :: takeP n a b
  | _, _, _ => []
abbrev Rows := List (List Int)
def rowD : D → List Int
  | .tuple xs => xs.map fun d => match d with | .int i => i | _ => 0
  | _ => []
def dT (P : Rows) : D := .tuple (P.map dI)
def ins {α : Type} (lt : α → α → Bool) (p : α) : List α → List α
  | [] => [p]
  | q :: l => if lt q p then q :: ins lt p l else p :: q :: l
def strict {α : Type} (lt : α → α → Bool) : List α → Bool
  | [] => true
  | p :: l => l.all (lt p) && strict lt l
theorem place_zip : ∀ {n : List Int} {xs : List D}, xs.length = n.length → ((xs.zip n).all fun q => btw 0 (q.2 - 1) q.1) = true → ∃ p, xs = p.map PyData.int ∧ InP p n
  | [], [], _, _ => ⟨[], rfl, .nil⟩
  | s :: n, x :: xs, hl, h => by
    rw [List.zip_cons_cons, List.all_cons, Bool.and_eq_true] at h
    obtain ⟨p, rfl, hp⟩ := place_zip (by simpa using hl) h.2
    cases x with
    | int i =>
      have hb : (decide (0 ≤ i) && decide (i ≤ s - 1)) = true := h.1
      simp only [Bool.and_eq_true, decide_eq_true_eq] at hb
      exact ⟨i :: p, rfl, .cons hb.1 (by omega) hp⟩
    | _ => exact absurd h.1 (by intro z; cases z)
  | s :: n, [], hl, _ => by simp at hl
  | [], x :: xs, hl, _ => by simp at hl
theorem place_inv {n : List Int} {d : D} (h : isPlace n d = true) : ∃ p, d = dI p ∧ InP p n := by
  cases d with
  | tuple xs =>
    have h : (decide (xs.length = n.length) && (xs.zip n).all fun q => btw 0 (q.2 - 1) q.1) = true := h
    simp only [Bool.and_eq_true, decide_eq_true_eq] at h
    obtain ⟨p, rfl, hp⟩ := place_zip h.1 h.2
    exact ⟨p, rfl, hp⟩
  | _ => exact absurd h (by intro z; cases z)
theorem rowD_dI (p : List Int) : rowD (dI p) = p := by
  show (p.map PyData.int).map _ = p
  rw [List.map_map]
  exact (List.map_congr_left fun _ _ => rfl).trans (List.map_id p)
theorem lex_is : ∀ a b : List Int, HT.lexLt a b = PySem.W.dataLt (dI a) (dI b) := by
  have key : ∀ a b : List Int, HT.lexLt a b = decide (a < b) := by
    intro a
    induction a with
    | nil => intro b; cases b <;> simp [HT.lexLt]
    | cons x a ih =>
      intro b
      cases b with
      | nil => simp [HT.lexLt]
      | cons y b =>
        rw [HT.lexLt, ih]
        by_cases e : x = y
        · subst e; simp [List.cons_lt_cons_iff]
        · rw [if_neg e]; simp [List.cons_lt_cons_iff, e]
  intro a b
  rw [key]
  exact (PySem.W.dataLt_ints a b).symm
section
variable {α : Type} {lt : α → α → Bool}
end
theorem flat_rows : ∀ P : Rows, flatDs (P.map dI) = true
  | [] => rfl
  | p :: P => by rw [List.map_cons, flatDs, flat_dI, flat_rows P]; rfl
theorem flat_dT (P : Rows) : flatD (dT P) = true := flat_rows P
theorem lay_dI (p : List Int) : PyData.canLay0 (dI p) = true := by unfold dI; rw [PyData.canLay0]; exact canLay_ints p
theorem lay_rows : ∀ P : Rows, PyData.canLayAll0 (P.map dI) = true
  | [] => by simp [PyData.canLayAll0]
  | p :: P => by rw [List.map_cons, PyData.canLayAll0, lay_dI, lay_rows P]; rfl
theorem lay_dT (P : Rows) : PyData.canLay0 (dT P) = true := by unfold dT; rw [PyData.canLay0]; exact lay_rows P
theorem dep_dI (p : List Int) : PyData.depth (dI p) ≤ 2 := by
  unfold dI; rw [PyData.depth]; have := depth_ints p; omega
theorem dep_rows : ∀ P : Rows, PyData.depthAll (P.map dI) ≤ 2
  | [] => by simp [PyData.depthAll]
  | p :: P => by rw [List.map_cons, PyData.depthAll]; have := dep_dI p; have := dep_rows P; omega
theorem dep_dT (P : Rows) : PyData.depth (dT P) ≤ 3 := by
  unfold dT; rw [PyData.depth]; have := dep_rows P; omega
theorem shaped_dT (P : Rows) : SeqAt.shaped (dT P) = true := by
  unfold SeqAt.shaped; rw [lay_dT]; have := dep_dT P; simp; omega
theorem shaped_rowsL (P : Rows) : SeqAt.shaped (.list (P.map dI)) = true := by
  unfold SeqAt.shaped; rw [PyData.canLay0, lay_rows, PyData.depth]; have := dep_rows P; simp; omega
theorem eqv_rows : ∀ P Q : Rows, PyData.eqvAll (P.map dI) (Q.map dI) = decide (P = Q)
  | [], [] => by simp [PyData.eqvAll]
  | [], q :: Q => by simp [PyData.eqvAll]
  | p :: P, [] => by simp [PyData.eqvAll]
  | p :: P, q :: Q => by
    rw [List.map_cons, List.map_cons, PyData.eqvAll, eqv_dI, eqv_rows P Q]
    by_cases h : p = q <;> simp [h]
theorem eqv_dT (P Q : Rows) : PyData.eqv (dT P) (dT Q) = decide (P = Q) := by
  unfold dT; rw [PyData.eqv]; exact eqv_rows P Q
theorem any_rows (P : Rows) (q : List Int) : ((P.map dI).any fun z => PyData.eqv z (dI q)) = P.any fun c => decide (c = q) := by
  rw [List.any_map]
  congr 1
  funext c
  exact eqv_dI c q
theorem alike_dI (p q : List Int) : PySem.W.alike (dI p) (dI q) = true := by unfold dI; rw [PySem.W.alike]; exact PySem.W.alike_ints p q
section
variable {K : PySem.W.Frag} {σ : L2.St} {G : Hp} {t : TT} {te : TE}
end
theorem room65 {k : Nat} {A : Around} (r : Room k A) : A.units + 64 + 1 < cLine := by have := r.un; omega
theorem few_inP {n p : List Int} (hn : n ∈ fewD) (hp : p ∈ placesOf n) : InP p n := by
  have h := List.all_eq_true.mp (List.all_eq_true.mp few_turn n hn) p hp
  simp only [Bool.and_eq_true] at h
  obtain ⟨q, e, hq⟩ := place_inv h.2
  have : p = q := by rw [← rowD_dI p, e, rowD_dI]
  rw [this]; exact hq
theorem few_strict : (fewD.all fun n => strict HT.lexLt (placesOf n)) = true := by decide +kernel
theorem strict_nodup {α : Type} {lt : α → α → Bool} (ir : ∀ a, lt a a = false) : ∀ {l : List α}, strict lt l = true → l.Nodup
  | [], _ => .nil
  | x :: l, h => by
    simp only [strict, Bool.and_eq_true, List.all_eq_true] at h
    refine List.nodup_cons.mpr ⟨fun hx => ?_, strict_nodup ir h.2⟩
    have := h.1 x hx
    rw [ir x] at this; cases this
theorem lex_irr : ∀ a : List Int, HT.lexLt a a = false
  | [] => rfl
  | x :: a => by rw [HT.lexLt, if_pos rfl]; exact lex_irr a
theorem few_nodup {n : List Int} (hn : n ∈ fewD) : (placesOf n).Nodup := strict_nodup lex_irr (List.all_eq_true.mp few_strict n hn)
theorem addP_in : ∀ {n a b : List Int}, a.length = n.length → b.length = n.length → (∀ s ∈ n, 0 < s) → InP (addP n a b) n
  | [], [], [], _, _, _ => .nil
  | s :: n, x :: a, y :: b, h1, h2, h => .cons (Int.emod_nonneg _ (by have := h s (.head _); omega)) (Int.emod_lt_of_pos _ (h s (.head _))) (addP_in (by simpa using h1) (by simpa using h2) fun s hs => h s (.tail _ hs))
  | s :: n, [], _, h, _, _ => by simp at h
  | s :: n, _ :: _, [], _, h, _ => by simp at h
  | [], _ :: _, _, h, _, _ => by simp at h
  | [], [], _ :: _, _, h, _ => by simp at h
theorem takeP_in : ∀ {n a b : List Int}, a.length = n.length → b.length = n.length → (∀ s ∈ n, 0 < s) → InP (takeP n a b) n
  | [], [], [], _, _, _ => .nil
  | s :: n, x :: a, y :: b, h1, h2, h => .cons (Int.emod_nonneg _ (by have := h s (.head _); omega)) (Int.emod_lt_of_pos _ (h s (.head _))) (takeP_in (by simpa using h1) (by simpa using h2) fun s hs => h s (.tail _ hs))
  | s :: n, [], _, h, _, _ => by simp at h
  | s :: n, _ :: _, [], _, h, _ => by simp at h
  | [], _ :: _, _, h, _, _ => by simp at h
  | [], [], _ :: _, _, h, _ => by simp at h
structure MovesOk (n : List Int) (M : Rows) : Prop where
  inp : ∀ p ∈ M, InP p n
  len : M.length = (placesOf n).length
end Mv
namespace Mv
open PySem L2 Evl
section
variable {K : PySem.W.Frag} {P : Program} {w : World}
def oI (f : Int → Int → D) (x y : D) : Option D := match x, y with
  | .int i, .int j => some (f i j)
  | _, _ => none
def oIc (c : Int → Int → Bool) (f : Int → Int → D) (x y : D) : Option D := match x, y with
  | .int i, .int j => if c i j = true then some (f i j) else none
  | _, _ => none
theorem oI_some {f : Int → Int → D} {x y z : D} (h : oI f x y = some z) : ∃ i j, x = .int i ∧ y = .int j ∧ z = f i j := by
  unfold oI at h
  split at h
  · cases h; exact ⟨_, _, rfl, rfl, rfl⟩
  · cases h
theorem oIc_some {c : Int → Int → Bool} {f : Int → Int → D} {x y z : D} (h : oIc c f x y = some z) : ∃ i j, x = .int i ∧ y = .int j ∧ c i j = true ∧ z = f i j := by
  unfold oIc at h
  split at h
  · split at h
    · rename_i hc; cases h; exact ⟨_, _, rfl, rfl, hc, rfl⟩
    · cases h
  · cases h
theorem os_I0 {g : Int → Int → V} {f : Int → Int → D} (h : ∀ i j G, Dq G (g i j) (f i j)) : OpS (rI0 g) (oI f) := fun x y z e G => by
  obtain ⟨i, j, rfl, rfl, rfl⟩ := oI_some e
  exact opd_I0 (h i j)
theorem os_Ic {C : Int → Int → Prop} {c : Int → Int → Bool} {g : Int → Int → V} {f : Int → Int → D} (hc : ∀ i j, c i j = true → C i j) (h : ∀ i j G, Dq G (g i j) (f i j)) : OpS (rI C g) (oIc c f) := fun x y z e G => by
  obtain ⟨i, j, rfl, rfl, k, rfl⟩ := oIc_some e
  exact opd_I (hc i j k) (h i j)
def oAdd := oI fun i j => .int (i + j)
def oSub := oI fun i j => .int (i - j)
def oLt := oI fun i j => .bool (decide (i < j))
def oLe := oI fun i j => .bool (decide (i ≤ j))
def oGt := oI fun i j => .bool (decide (j < i))
def cMod (_ j : Int) : Bool := decide (0 < j)
def cMul (i j : Int) : Bool := (decide (-18446744073709551616 < i) && decide (i < 18446744073709551616)) || (decide (-18446744073709551616 < j) && decide (j < 18446744073709551616))
def oMod := oIc cMod fun i j => .int (i % j)
def oMul := oIc cMul fun i j => .int (i * j)
theorem os_add : OpS (rI0 fun i j => .int (i + j)) oAdd := os_I0 fun _ _ _ => .int _
theorem os_sub : OpS (rI0 fun i j => .int (i - j)) oSub := os_I0 fun _ _ _ => .int _
theorem os_lt : OpS (rI0 fun i j => .bl (decide (i < j))) oLt := os_I0 fun _ _ _ => .bl _
theorem os_le : OpS (rI0 fun i j => .bl (decide (i ≤ j))) oLe := os_I0 fun _ _ _ => .bl _
theorem os_gt : OpS (rI0 fun i j => .bl (decide (j < i))) oGt := os_I0 fun _ _ _ => .bl _
theorem os_mod : OpS (rI (fun _ j => 0 < j) fun i j => .int (i % j)) oMod := os_Ic (fun _ _ h => of_decide_eq_true h) fun _ _ _ => .int _
theorem os_mul : OpS (rI CMul fun i j => .int (i * j)) oMul := os_Ic (fun i j h => by
  have h2 : ((-18446744073709551616 < i ∧ i < 18446744073709551616) ∨ (-18446744073709551616 < j ∧ j < 18446744073709551616)) := by simpa [cMul] using h
  exact h2) fun _ _ _ => .int _
def oNeg (x : D) : Option D := match x with
  | .int i => some (.int (-i))
  | _ => none
theorem us_neg : UnS (rU fun i => .int (-i)) oNeg := fun x z e G => by
  unfold oNeg at e
  split at e
  · cases e; exact opd_U _
  · cases e
def oEqA (x y : D) : Option D := match x, y with
  | .int i, .int j => some (.bool (decide (i = j)))
  | .bool i, .bool j => some (.bool ((i == j)))
  | .str i, .str j => some (.bool (decide (i = j)))
  | .none, .none => some (.bool true)
  | .none, .int _ => some (.bool false)
  | .int _, .none => some (.bool false)
  | .none, .bool _ => some (.bool false)
  | .bool _, .none => some (.bool false)
  | .none, .str _ => some (.bool false)
  | .str _, .none => some (.bool false)
  | .int _, .str _ => some (.bool false)
  | .str _, .int _ => some (.bool false)
  | .bool _, .str _ => some (.bool false)
  | .str _, .bool _ => some (.bool false)
  | _, _ => none
def oNeA (x y : D) : Option D := match x, y with
  | .int i, .int j => some (.bool (!decide (i = j)))
  | .bool i, .bool j => some (.bool (!(i == j)))
  | .str i, .str j => some (.bool (!decide (i = j)))
  | .none, .none => some (.bool false)
  | .none, .int _ => some (.bool true)
  | .int _, .none => some (.bool true)
  | .none, .bool _ => some (.bool true)
  | .bool _, .none => some (.bool true)
  | .none, .str _ => some (.bool true)
  | .str _, .none => some (.bool true)
  | .int _, .str _ => some (.bool true)
  | .str _, .int _ => some (.bool true)
  | .bool _, .str _ => some (.bool true)
  | .str _, .bool _ => some (.bool true)
  | _, _ => none
theorem dec_str {i j : Str} : decide (V.str i = V.str j) = decide (i = j) := by
  rw [Bool.eq_iff_iff]
  simp
theorem os_eqA : OpS rEq oEqA := fun x y z e G => by
  unfold oEqA at e
  split at e
  · cases e
    intro x y G1 H1 a b hx hy Q q
    cases hx; cases hy
    refine ⟨rfl, ?_⟩
    rename_i i j
    rw [show decide (V.int i = V.int j) = decide (i = j) from by simp]
    exact q _ G1 H1 (.refl b) (.bl _)
  · cases e
    intro x y G1 H1 a b hx hy Q q
    cases hx; cases hy
    refine ⟨rfl, ?_⟩
    rw [dec_bl]
    exact q _ G1 H1 (.refl b) (.bl _)
  · cases e
    intro x y G1 H1 a b hx hy Q q
    cases hx; cases hy
    refine ⟨rfl, ?_⟩
    rw [dec_str]
    exact q _ G1 H1 (.refl b) (.bl _)
  · cases e
    intro x y G1 H1 a b hx hy Q q
    cases hx; cases hy
    refine ⟨rfl, ?_⟩
    rw [decide_eq_true rfl]
    exact q _ G1 H1 (.refl b) (.bl _)
  · cases e
    intro x y G1 H1 a b hx hy Q q
    cases hx; cases hy
    refine ⟨rfl, ?_⟩
    rw [decide_eq_false (fun z => by cases z)]
    exact q _ G1 H1 (.refl b) (.bl _)
  · cases e
    intro x y G1 H1 a b hx hy Q q
    cases hx; cases hy
    refine ⟨rfl, ?_⟩
    rw [decide_eq_false (fun z => by cases z)]
    exact q _ G1 H1 (.refl b) (.bl _)
  · cases e
    intro x y G1 H1 a b hx hy Q q
    cases hx; cases hy
    refine ⟨rfl, ?_⟩
    rw [decide_eq_false (fun z => by cases z)]
    exact q _ G1 H1 (.refl b) (.bl _)
  · cases e
    intro x y G1 H1 a b hx hy Q q
    cases hx; cases hy
    refine ⟨rfl, ?_⟩
    rw [decide_eq_false (fun z => by cases z)]
    exact q _ G1 H1 (.refl b) (.bl _)
  · cases e
    intro x y G1 H1 a b hx hy Q q
    cases hx; cases hy
    refine ⟨rfl, ?_⟩
    rw [decide_eq_false (fun z => by cases z)]
    exact q _ G1 H1 (.refl b) (.bl _)
  · cases e
    intro x y G1 H1 a b hx hy Q q
    cases hx; cases hy
    refine ⟨rfl, ?_⟩
    rw [decide_eq_false (fun z => by cases z)]
    exact q _ G1 H1 (.refl b) (.bl _)
  · cases e
    intro x y G1 H1 a b hx hy Q q
    cases hx; cases hy
    refine ⟨rfl, ?_⟩
    rw [decide_eq_false (fun z => by cases z)]
    exact q _ G1 H1 (.refl b) (.bl _)
  · cases e
    intro x y G1 H1 a b hx hy Q q
    cases hx; cases hy
    refine ⟨rfl, ?_⟩
    rw [decide_eq_false (fun z => by cases z)]
    exact q _ G1 H1 (.refl b) (.bl _)
  · cases e
    intro x y G1 H1 a b hx hy Q q
    cases hx; cases hy
    refine ⟨rfl, ?_⟩
    rw [decide_eq_false (fun z => by cases z)]
    exact q _ G1 H1 (.refl b) (.bl _)
  · cases e
    intro x y G1 H1 a b hx hy Q q
    cases hx; cases hy
    refine ⟨rfl, ?_⟩
    rw [decide_eq_false (fun z => by cases z)]
    exact q _ G1 H1 (.refl b) (.bl _)
  · cases e
theorem os_neA : OpS rNe oNeA := fun x y z e G => by
  unfold oNeA at e
  split at e
  · cases e
    intro x y G1 H1 a b hx hy Q q
    cases hx; cases hy
    refine ⟨rfl, ?_⟩
    rename_i i j
    rw [show decide (V.int i = V.int j) = decide (i = j) from by simp]
    exact q _ G1 H1 (.refl b) (.bl _)
  · cases e
    intro x y G1 H1 a b hx hy Q q
    cases hx; cases hy
    refine ⟨rfl, ?_⟩
    rw [dec_bl]
    exact q _ G1 H1 (.refl b) (.bl _)
  · cases e
    intro x y G1 H1 a b hx hy Q q
    cases hx; cases hy
    refine ⟨rfl, ?_⟩
    rw [dec_str]
    exact q _ G1 H1 (.refl b) (.bl _)
  · cases e
    intro x y G1 H1 a b hx hy Q q
    cases hx; cases hy
    refine ⟨rfl, ?_⟩
    rw [decide_eq_true rfl]
    exact q _ G1 H1 (.refl b) (.bl _)
  · cases e
    intro x y G1 H1 a b hx hy Q q
    cases hx; cases hy
    refine ⟨rfl, ?_⟩
    rw [decide_eq_false (fun z => by cases z)]
    exact q _ G1 H1 (.refl b) (.bl _)
  · cases e
    intro x y G1 H1 a b hx hy Q q
    cases hx; cases hy
    refine ⟨rfl, ?_⟩
    rw [decide_eq_false (fun z => by cases z)]
    exact q _ G1 H1 (.refl b) (.bl _)
  · cases e
    intro x y G1 H1 a b hx hy Q q
    cases hx; cases hy
    refine ⟨rfl, ?_⟩
    rw [decide_eq_false (fun z => by cases z)]
    exact q _ G1 H1 (.refl b) (.bl _)
  · cases e
    intro x y G1 H1 a b hx hy Q q
    cases hx; cases hy
    refine ⟨rfl, ?_⟩
    rw [decide_eq_false (fun z => by cases z)]
    exact q _ G1 H1 (.refl b) (.bl _)
  · cases e
    intro x y G1 H1 a b hx hy Q q
    cases hx; cases hy
    refine ⟨rfl, ?_⟩
    rw [decide_eq_false (fun z => by cases z)]
    exact q _ G1 H1 (.refl b) (.bl _)
  · cases e
    intro x y G1 H1 a b hx hy Q q
    cases hx; cases hy
    refine ⟨rfl, ?_⟩
    rw [decide_eq_false (fun z => by cases z)]
    exact q _ G1 H1 (.refl b) (.bl _)
  · cases e
    intro x y G1 H1 a b hx hy Q q
    cases hx; cases hy
    refine ⟨rfl, ?_⟩
    rw [decide_eq_false (fun z => by cases z)]
    exact q _ G1 H1 (.refl b) (.bl _)
  · cases e
    intro x y G1 H1 a b hx hy Q q
    cases hx; cases hy
    refine ⟨rfl, ?_⟩
    rw [decide_eq_false (fun z => by cases z)]
    exact q _ G1 H1 (.refl b) (.bl _)
  · cases e
    intro x y G1 H1 a b hx hy Q q
    cases hx; cases hy
    refine ⟨rfl, ?_⟩
    rw [decide_eq_false (fun z => by cases z)]
    exact q _ G1 H1 (.refl b) (.bl _)
  · cases e
    intro x y G1 H1 a b hx hy Q q
    cases hx; cases hy
    refine ⟨rfl, ?_⟩
    rw [decide_eq_false (fun z => by cases z)]
    exact q _ G1 H1 (.refl b) (.bl _)
  · cases e
def oCatT (x y : D) : Option D := match x, y with
  | .tuple as, .tuple bs => if small (as.length + bs.length) = true then some (.tuple (as ++ bs)) else none
  | _, _ => none
def oCat (x y : D) : Option D := match x, y with
  | .list as, .list bs => if small (as.length + bs.length) = true then some (.list (as ++ bs)) else none
  | _, _ => none
theorem os_catT : OpS (rCatA K) oCatT := fun x y z e G => by
  unfold oCatT at e
  split at e
  · split at e
    · rename_i h; cases e; exact opd_catT (small_line h)
    · cases e
  · cases e
theorem os_cat : OpS rCat oCat := fun x y z e G => by
  unfold oCat at e
  split at e
  · split at e
    · rename_i h; cases e; exact opd_cat (small_line h)
    · cases e
  · cases e
def oRepT (x y : D) : Option D := match x, y with
  | .tuple as, .int k => if (!as.isEmpty && decide (1 ≤ k) && decide (k ≤ 1000) && Nat.ble as.length 1000) = true then some (.tuple (List.replicate k.toNat as).flatten) else none
  | _, _ => none
theorem os_repT : OpS (rRepA K) oRepT := fun x y z e G => by
  unfold oRepT at e
  split at e
  · rename_i as k
    split at e
    · rename_i h
      simp only [Bool.and_eq_true, decide_eq_true_eq, Bool.not_eq_true', Nat.ble_eq] at h
      cases e
      have ek : ((k.toNat : Nat) : Int) = k := Int.toNat_of_nonneg (by omega)
      have := opd_rep (K := K) (G := G) (as := as) (k := k.toNat) (fun z => by rw [z] at h; simp at h) (by omega) (by omega) h.2
      rw [ek] at this
      exact this
    · cases e
  · cases e
def fine (d : D) : Bool := flatD d && SeqAt.shaped d
def oEq (x y : D) : Option D := if (fine x && fine y) = true then some (.bool (PyData.eqv x y)) else none
def oNe (x y : D) : Option D := if (fine x && fine y) = true then some (.bool (!PyData.eqv x y)) else none
theorem fine_both {x y : D} (h : (fine x && fine y) = true) : (flatD x = true ∧ SeqAt.shaped x = true) ∧ flatD y = true ∧ SeqAt.shaped y = true := by
  simpa [fine] using h
theorem os_eq : OpS (rEqD K) oEq := fun x y z e G => by
  unfold oEq at e
  split at e
  · rename_i h
    obtain ⟨⟨a, b⟩, c, d⟩ := fine_both h
    cases e; exact opd_eq a c b d
  · cases e
theorem os_ne : OpS (rNeD K) oNe := fun x y z e G => by
  unfold oNe at e
  split at e
  · rename_i h
    obtain ⟨⟨a, b⟩, c, d⟩ := fine_both h
    cases e; exact opd_ne a c b d
  · cases e
def oIn (neg : Bool) (x y : D) : Option D := if (fine x && fine y) = true then (match y with
  | .list ds => some (.bool (if neg then !ds.any fun z => PyData.eqv z x else ds.any fun z => PyData.eqv z x))
  | .tuple ds => some (.bool (if neg then !ds.any fun z => PyData.eqv z x else ds.any fun z => PyData.eqv z x))
  | _ => none) else none
theorem os_in {neg : Bool} : OpS (rInA K neg) (oIn neg) := fun x y z e G => by
  unfold oIn at e
  split at e
  · rename_i h
    obtain ⟨⟨a, b⟩, c, d⟩ := fine_both h
    split at e
    · cases e; exact opd_inL a c b d
    · cases e; exact opd_inT a c b d
    · cases e
  · cases e
def intsOf : List D → Option (List Int)
  | [] => some []
  | .int i :: ds => match intsOf ds with
    | some is => some (i :: is)
    | none => none
  | _ :: _ => none
theorem ints_of : ∀ {ds : List D} {is : List Int}, intsOf ds = some is → ds = is.map PyData.int
  | [], is, h => by cases h; rfl
  | .int i :: ds, is, h => by
    unfold intsOf at h
    cases e : intsOf ds with
    | none => rw [e] at h; cases h
    | some js => rw [e] at h; cases h; rw [List.map_cons, ← ints_of e]
  | .none :: _, _, h => by cases h
  | .bool _ :: _, _, h => by cases h
  | .str _ :: _, _, h => by cases h
  | .list _ :: _, _, h => by cases h
  | .tuple _ :: _, _, h => by cases h
  | .dict _ :: _, _, h => by cases h
def ixD (as : List D) (i : Int) : Option D := if 0 ≤ i then as[i.toNat]? else if -(as.length : Int) ≤ i then as[(i + as.length).toNat]? else none
theorem ix_at {G : Hp} {xs : List V} {as : List D} {i : Int} {z : D} (h : DqA G xs as) (e : ixD as i = some z) : ∃ v, atI xs i = some v ∧ Dq G v z := by
  unfold ixD at e
  unfold atI ixN
  by_cases h0 : 0 ≤ i
  · rw [if_pos h0] at e
    obtain ⟨v, hv, q⟩ := h.getD e
    have hl := (List.getElem?_eq_some_iff.mp hv).1
    rw [if_pos h0, if_pos (by omega)]
    exact ⟨v, hv, q⟩
  · rw [if_neg h0] at e
    by_cases h1 : -(as.length : Int) ≤ i
    · rw [if_pos h1] at e
      obtain ⟨v, hv, q⟩ := h.getD e
      rw [if_neg h0, if_pos (by rw [h.len]; exact h1), h.len]
      exact ⟨v, hv, q⟩
    · rw [if_neg h1] at e; cases e
def oIxT (x y : D) : Option D := match x, y with
  | .tuple as, .int i => ixD as i
  | _, _ => none
def oIxL (x y : D) : Option D := match x, y with
  | .list as, .int i => ixD as i
  | _, _ => none
theorem os_ixT : OpS (rIxT K) oIxT := fun x y z e G => by
  unfold oIxT at e
  split at e
  · intro x y G1 H1 a b hx hy Q q
    cases hx with
    | @tup p xs _ hp hxs =>
      cases hy
      obtain ⟨v, hv, hd⟩ := ix_at hxs e
      exact ⟨p, xs, _, v, rfl, rfl, TupA.sq (TupA.mono hp b), hv, q v G1 H1 (.refl b) hd⟩
  · cases e
theorem os_ixL : OpS (rIxL K) oIxL := fun x y z e G => by
  unfold oIxL at e
  split at e
  · intro x y G1 H1 a b hx hy Q q
    cases hx with
    | @lst p xs _ hp hxs =>
      cases hy
      obtain ⟨v, hv, hd⟩ := ix_at hxs e
      exact ⟨p, xs, _, v, rfl, rfl, SqL.of (b _ _ hp), hv, q v G1 H1 (.refl b) hd⟩
  · cases e
variable {E : XK} {ad : Str → Addr} {te : TE} {fe fl fh : En → Re} {tl th : TO}
def Sp2 (to : TO) (f : En → Option (Option Int)) : Prop := ∀ σ Γ G H, Rel G H σ Γ → ∀ o, f Γ = some o → ∀ Q : Option Int → Hp → Prop, (∀ G2 H2, Stp G H G2 H2 → Q o H2) → to σ H Q
def pNone (_ : En) : Option (Option Int) := some none
theorem p_none : Sp2 tNoPart pNone := fun σ Γ G H R r e Q q => by
  cases e
  exact q G H (.refl R.w)
def pSome (fe : En → Re) (Γ : En) : Option (Option Int) := match fe Γ with
  | some (.val (.int i)) => some (some i)
  | _ => none
theorem p_some (h : Se E ad te fe) : Sp2 (tPart te) (pSome fe) := fun σ Γ G H R r e Q q => by
  unfold pSome at e
  split at e
  · rename_i i e1
    cases e
    refine h σ Γ G H R _ e1 _ fun v G2 H2 s2 q2 => ?_
    cases q2
    exact ⟨i, rfl, q G2 H2 s2⟩
  · cases e
def fSl (k : Bool) (fe : En → Re) (fl fh : En → Option (Option Int)) (Γ : En) : Re := match fe Γ with
  | some (.val z) => match sqOf k z, fl Γ, fh Γ with
    | some ds, some l, some h => some (.val (sq k (cutD ds l h)))
    | _, _, _ => none
  | some (.exc x) => some (.exc x)
  | none => none
def rSlK (K : PySem.W.Frag) : Bool → V → Option Int → Option Int → Hp → VK → Prop
  | true => rSlL K
  | false => rSlA K
theorem slice_end {k : Bool} {G H : Hp} {v : V} {ds : List D} {lo hi : Option Int} {Q : VK} (w : Ex G H) (q : Dq G v (sq k ds)) (h : ∀ v G2 H2, Stp G H G2 H2 → Dq G2 v (sq k (cutD ds lo hi)) → Q v H2) : rSlK K k v lo hi H Q := by
  cases k with
  | true =>
    cases q with
    | @lst a xs _ ha hxs =>
      have e := hxs.len
      refine ⟨a, xs, rfl, SqL.of (w _ _ ha), fun p hp => ?_⟩
      have s5 := Stp.new (o := .lst (cutV xs lo hi)) w hp
      have key : DqA G (cutV xs lo hi) (cutD ds lo hi) := by
        unfold cutV cutD
        rw [e]
        exact (hxs.drop _).take _
      exact h _ _ _ s5 (.lst upd_same (key.mono s5.g))
  | false =>
    cases q with
    | @tup a xs _ ha hxs =>
      have e := hxs.len
      refine ⟨a, xs, rfl, TupA.sq (TupA.mono ha w), fun ⟨c1, c2⟩ => ?_, fun _ p o hp od => ?_⟩
      · have z : cutD ds lo hi = ds := by
          unfold cutD
          rw [← e, c1, c2, Nat.sub_zero, List.drop_zero, e, List.take_length]
        rw [z] at h
        exact h _ G H (.refl w) (.tup ha hxs)
      · have s5 := Stp.new (o := tupO o (cutV xs lo hi)) w hp
        have key : DqA G (cutV xs lo hi) (cutD ds lo hi) := by
          unfold cutV cutD
          rw [e]
          exact (hxs.drop _).take _
        exact h _ _ _ s5 (.tup (.new od) (key.mono s5.g))
theorem u_sl {k : Bool} {fl fh : En → Option (Option Int)} (he : Se E ad te fe) (hl : Sp2 tl fl) (hh : Sp2 th fh) : Se E ad (tSl (rSlK K k) te tl th) (fSl k fe fl fh) := fun σ Γ G H R r e Q q => by
  unfold fSl at e
  split at e
  · rename_i z e1
    split at e
    · rename_i ds l h e2 e3 e4
      have ez := sq_of e2
      subst ez
      cases e
      refine he σ Γ G H R _ e1 _ fun v G2 H2 s2 q2 => ?_
      refine hl σ Γ G2 H2 (R.stp s2) _ e3 _ fun G3 H3 s3 => ?_
      refine hh σ Γ G3 H3 ((R.stp s2).stp s3) _ e4 _ fun G4 H4 s4 => ?_
      exact slice_end s4.w (q2.mono (s3.g.trans s4.g)) fun v5 G5 H5 s5 q5 => q v5 G5 H5 (((s2.trans s3).trans s4).trans s5) q5
    · cases e
  · rename_i x e1
    cases e
    exact he σ Γ G H R _ e1 _ q
  · cases e
variable {ta tb : TE} {fa fb : En → Re} {tas : TA} {fas : En → Ra}
def oLen (ds : List D) : Option D := match ds with
  | [.list as] => some (.int as.length)
  | [.tuple as] => some (.int as.length)
  | _ => none
theorem cs_len : CaS (rLenA K) oLen := fun ds z e G => by
  unfold oLen at e
  split at e
  · cases e; exact cad_lenL
  · cases e; exact cad_lenT
  · cases e
def boolsOf : List D → Option (List Bool)
  | [] => some []
  | .bool i :: ds => match boolsOf ds with
    | some is => some (i :: is)
    | none => none
  | _ :: _ => none
theorem bools_of : ∀ {ds : List D} {is : List Bool}, boolsOf ds = some is → ds = is.map PyData.bool
  | [], is, h => by cases h; rfl
  | .bool i :: ds, is, h => by
    unfold boolsOf at h
    cases e : boolsOf ds with
    | none => rw [e] at h; cases h
    | some js => rw [e] at h; cases h; rw [List.map_cons, ← bools_of e]
  | .none :: _, _, h => by cases h
  | .int _ :: _, _, h => by cases h
  | .str _ :: _, _, h => by cases h
  | .list _ :: _, _, h => by cases h
  | .tuple _ :: _, _, h => by cases h
  | .dict _ :: _, _, h => by cases h
def oAll (ds : List D) : Option D := match ds with
  | [.list as] => match boolsOf as with
    | some bs => some (.bool (bs.all id))
    | none => none
  | _ => none
theorem cs_all : CaS (rAll K) oAll := fun ds z e G => by
  unfold oAll at e
  split at e
  · split at e
    · rename_i h
      cases e
      rw [bools_of h]
      exact cad_all
    · cases e
  · cases e
def oTuple (ds : List D) : Option D := match ds with
  | [.list as] => some (.tuple as)
  | [.tuple as] => some (.tuple as)
  | _ => none
theorem cs_tuple : CaS (rTupOf K) oTuple := fun ds z e G => by
  unfold oTuple at e
  split at e
  · cases e; exact cad_tuple
  · cases e
    intro vs G1 H1 x w h Q q
    cases h with
    | cons h k =>
      cases k
      cases h with
      | @tup p xs _ hp hx => exact ⟨_, _, rfl, .inr ⟨TupA.sq (TupA.mono hp w), q _ G1 H1 (.refl w) (.tup hp hx)⟩⟩
  · cases e
def oInt (ds : List D) : Option D := match ds with
  | [.int i] => some (.int i)
  | _ => none
theorem cs_int : CaS (fun xs H Q => (∃ i, xs = [.int i] ∧ Q (.int i) H) ∨ ∃ k, xs = [.bl k] ∧ Q (.int (if k then 1 else 0)) H) oInt := fun ds z e G => by
  unfold oInt at e
  split at e
  · cases e; exact cad_int1
  · cases e
def isTupC : D → Bool
  | .tuple (_ :: _) => true
  | _ => false
def fIsi (c : String) (fe : En → Re) (Γ : En) : Re := match fe Γ with
  | some (.val d) => some (.val (.bool (isD d c)))
  | some (.exc x) => some (.exc x)
  | none => none
theorem u_isi {c : String} (hc : c ∈ ["bool", "int", "list", "tuple", "dict"]) (h : Se E ad te fe) : Se E ad (tCB (rIsiY K) (tCons te (tCons (tC (.ty c)) tNil))) (fIsi c fe) := fun σ Γ G H R r e Q q => by
  unfold fIsi at e
  split at e
  · rename_i d e1
    cases e
    exact h σ Γ G H R _ e1 _ fun v G2 H2 s2 hv => ⟨v, .ty c, .type (tyD d), .type c, isD d c, rfl, .ty c, tyX_of s2.w hv, kit_ty (kit_of_D d hc), q _ G2 H2 s2 (.bl _)⟩
  · rename_i x e1
    cases e
    exact h σ Γ G H R _ e1 _ q
  · cases e
end
end Mv
namespace Mv
open PySem L2 Evl
def guardN (k : Nat) (g : List D → Re) (ds : List D) : Re := if Nat.beq ds.length k = true then g ds else none
theorem guard_len {k : Nat} {g : List D → Re} {ds : List D} {r : Ou} (h : guardN k g ds = some r) : ds.length = k := by
  unfold guardN at h
  split at h
  · rename_i q; exact Nat.eq_of_beq_eq_true q
  · cases h
theorem guard_get {k : Nat} {g : List D → Re} {ds : List D} {r : Ou} (h : guardN k g ds = some r) : g ds = some r := by
  unfold guardN at h
  split at h
  · exact h
  · cases h
section
variable {E : XK} {ad : Str → Addr} {K : PySem.W.Frag} {G H : Hp} {ts : TS} {fs : En → Rf} {te : TE} {fe : En → Re} {tas : TA} {fas : En → Ra} {P : Program} {w : World}
theorem body_start {N : List Str} {k : Nat} {vs : List V} {ds : List D} {r : Ou} {n : Nat} {Q : VK} (hN : N.length = k + n) (hl : vs.length = k) (hs : Ss E ad ts fs) (w : Ex G H) (h : DqA G vs ds) (e : bodyD fs n ds = some r) (q : PoE E ad G H Q r) :
    ts { nx := fun _ H' => Q .non H', rt := Q } (L2.start N vs) H := by
  unfold L2.start
  have : N.length - vs.length = n := by omega
  rw [this]
  exact body_ok hs w h e q
def noEx (r : Re) : Re := match r with
  | some (.val d) => some (.val d)
  | _ => none
def fCall0 (g : List D → Re) (fas : En → Ra) (Γ : En) : Re := bndA (fas Γ) fun ds => noEx (g ds)
theorem u_call0 {E' : XK} {g : List D → Re} (h : Sa E ad tas fas) : Se E ad (tCall (SpF ad g) [] E' tas) (fCall0 g fas) := fun σ Γ G H R r e Q q => by
  rcases bndA_some e with ⟨ds, e1, e2⟩ | ⟨x, e1, rfl⟩
  · refine h σ Γ G H R _ e1 _ fun vs G2 H2 s2 q2 => ?_
    rw [List.append_nil]
    unfold noEx at e2
    split at e2
    · rename_i d e3
      cases e2
      exact ⟨G2, ds, _, s2.w, q2, e3, q.stp s2⟩
    · cases e2
  · exact h σ Γ G H R _ e1 _ q
def isLT : D → Bool
  | .list _ => true
  | .tuple _ => true
  | _ => false
def fIsiLT (fe : En → Re) (Γ : En) : Re := match fe Γ with
  | some (.val d) => some (.val (.bool (isLT d)))
  | some (.exc x) => some (.exc x)
  | none => none
def rowsOf : List D → Option (List (List Int))
  | [] => some []
  | .tuple xs :: ds => match intsOf xs, rowsOf ds with
    | some x, some l => some (x :: l)
    | _, _ => none
  | _ :: _ => none
theorem rows_of : ∀ {ds : List D} {l : List (List Int)}, rowsOf ds = some l → ds = l.map dI
  | [], l, h => by cases h; rfl
  | .tuple xs :: ds, l, h => by
    unfold rowsOf at h
    split at h
    · rename_i h1 h2
      cases h
      rw [List.map_cons, ← rows_of h2, ints_of h1]; rfl
    · cases h
  | .none :: _, _, h => by cases h
  | .bool _ :: _, _, h => by cases h
  | .int _ :: _, _, h => by cases h
  | .str _ :: _, _, h => by cases h
  | .list _ :: _, _, h => by cases h
  | .dict _ :: _, _, h => by cases h
end
end Mv
namespace Mv
open PySem PySem.Spec PyProof.Rows L2 Evl
section
variable {P : Program} {w : World}
variable {A : Around} {E : Value → Shared → Prop} {s : Shared}
end
section
variable {X : Cx}
end
section
variable {K : PySem.W.Frag} {P : Program} {w : World} {σ : L2.St} {G : Hp} {te : TE}
variable {E : XK} {ad : Str → Addr} {fe : En → Re}
end
end Mv
namespace Mv
open PySem L2 Evl
theorem add_take : ∀ {n a b : List Int}, InP a n → InP b n → addP n a (takeP n b a) = b
  | _, _, _, .nil, .nil => rfl
  | s :: n, x :: a, y :: b, .cons _ _ ha, .cons h1 h2 hb => by
    show ((x + (y - x) % s) % s) :: addP n a (takeP n b a) = _
    rw [add_take ha hb, Int.add_emod_emod]
    have e : x + (y - x) = y := by omega
    rw [e, Int.emod_eq_of_lt h1 h2]
theorem add_swap : ∀ (n z x y : List Int), addP n (addP n z x) y = addP n (addP n z y) x
  | [], _, _, _ => rfl
  | s :: n, [], [], [] => rfl
  | s :: n, [], [], _ :: _ => rfl
  | s :: n, [], _ :: _, [] => rfl
  | s :: n, [], _ :: _, _ :: _ => rfl
  | s :: n, _ :: _, [], [] => rfl
  | s :: n, _ :: _, [], _ :: _ => rfl
  | s :: n, _ :: _, _ :: _, [] => rfl
  | s :: n, u :: z, a :: x, b :: y => by
    show (((u + a) % s + b) % s) :: addP n (addP n z x) y = (((u + b) % s + a) % s) :: addP n (addP n z y) x
    rw [add_swap n z x y, Int.emod_add_emod, Int.emod_add_emod]
    have q : u + a + b = u + b + a := by omega
    rw [q]
def ledBy (n : List Int) (P B : Rows) : Rows := (P.zip B).map fun q => takeP n q.2 q.1
def DealOk (n : List Int) (M : Rows) : Prop := ∃ B : Rows, B.Perm (placesOf n) ∧ M = ledBy n (placesOf n) B
section
variable {n : List Int}
theorem perm_in (hn : n ∈ fewD) {B : Rows} (h : B.Perm (placesOf n)) : ∀ p ∈ B, InP p n := fun p hp => few_inP hn (h.mem_iff.mp hp)
theorem DealOk.ok (hn : n ∈ fewD) {M : Rows} (d : DealOk n M) : MovesOk n M := by
  obtain ⟨B, hB, rfl⟩ := d
  have okd := okB_ok (List.all_eq_true.mp few_ok n hn)
  refine ⟨fun p hp => ?_, by unfold ledBy; rw [List.length_map, List.length_zip, hB.length_eq, Nat.min_self]⟩
  obtain ⟨q, hq, rfl⟩ := (List.mem_map.mp hp)
  obtain ⟨h1, h2⟩ := List.of_mem_zip (a := q.1) (b := q.2) hq
  exact takeP_in (perm_in hn hB _ h2).len (few_inP hn h1).len fun s hs => by have := okd.sz s hs; omega
end
end Mv
namespace Mv
open PySem L2 Evl
theorem addP_comm : ∀ (n a b : List Int), addP n a b = addP n b a
  | [], _, _ => rfl
  | s :: n, [], [] => rfl
  | s :: n, [], _ :: _ => rfl
  | s :: n, _ :: _, [] => rfl
  | s :: n, x :: a, y :: b => by
    show (x + y) % s :: addP n a b = (y + x) % s :: addP n b a
    rw [addP_comm n a b, Int.add_comm]
theorem addP_cancel : ∀ {n a x y : List Int}, InP x n → InP y n → a.length = n.length → addP n a x = addP n a y → x = y
  | [], _, _, _, .nil, .nil, _, _ => rfl
  | s :: n, u :: a, x :: xs, y :: ys, .cons x0 x1 hx, .cons y0 y1 hy, hl, e => by
    have e' : (u + x) % s :: addP n a xs = (u + y) % s :: addP n a ys := e
    injection e' with e1 e2
    have h1 := addP_cancel hx hy (by simpa using hl) e2
    have h2 : (x - y) % s = 0 := by
      have : ((u + x) - (u + y)) % s = 0 := by rw [Int.sub_emod, e1, Int.sub_self, Int.zero_emod]
      have q : (u + x) - (u + y) = x - y := by omega
      rwa [q] at this
    have h3 : x = y := by
      obtain ⟨c, hc⟩ := Int.dvd_of_emod_eq_zero h2
      have : c = 0 := by
        rcases Int.lt_trichotomy c 0 with z | z | z
        · have := Int.mul_le_mul_of_nonneg_left (show c ≤ -1 by omega) (show 0 ≤ s by omega)
          omega
        · exact z
        · have := Int.mul_le_mul_of_nonneg_left (show 1 ≤ c by omega) (show 0 ≤ s by omega)
          omega
      rw [this, Int.mul_zero] at hc
      omega
    rw [h3, h1]
abbrev Bg := List (List Int × List Int)
def kI (p : List Int) : KK := p.map Sum.inl
theorem kD_kI (p : List Int) : kD (kI p) = dI p := by
  unfold kD kI dI
  rw [List.map_map]
  rfl
theorem kI_inj {p q : List Int} (h : kI p = kI q) : p = q := by
  have := congrArg kD h
  rw [kD_kI, kD_kI] at this
  have t : PyData.tuple (p.map PyData.int) = .tuple (q.map .int) := this
  injection t with t
  have same : ∀ {a b : List Int}, a.map PyData.int = b.map PyData.int → a = b := fun {a} => by
    induction a with
    | nil => intro b z; cases b with
      | nil => rfl
      | cons y b => simp at z
    | cons x a ih => intro b z; cases b with
      | nil => simp at z
      | cons y b =>
        rw [List.map_cons, List.map_cons] at z
        injection z with z1 z2
        injection z1 with z1
        rw [z1, ih z2]
  exact same t
def enc (B : Bg) : List (KK × D) := B.map fun q => (kI q.1, dI q.2)
def endB (n : List Int) (q : List Int × List Int) : List Int := addP n q.1 q.2
def atEnd (n : List Int) (B : Bg) (e : List Int) : Option (List Int × List Int) := B.find? fun q => decide (endB n q = e)
section
variable {n K : List Int} {S : Rows} {H : Bg} {t w m : List Int} {q : List Int × List Int}
structure BgOk (n : List Int) (H : Bg) : Prop where
  keys : (H.map (·.1)).Nodup
  inH : ∀ q ∈ H, InP q.1 n ∧ InP q.2 n
  ends : (H.map (endB n)).Nodup
structure Ps (n K : List Int) (S : Rows) (H : Bg) (t w m : List Int) : Prop where
  b : BgOk n H
  it : InP t n
  iw : InP w n
  im : InP m n
  ft : t ∉ H.map (·.1)
  fw : w ∉ H.map (·.1)
  seq : (S ++ [t, w]).Nodup
  inS : ∀ p ∈ S, InP p n
  chain : ∀ (i : Nat) (p mv : List Int), S[i]? = some p → (p, mv) ∈ H → ∃ r, (S ++ [t])[i + 1]? = some r ∧ addP n (addP n p mv) r = K
  key : addP n (addP n t m) w = K
theorem addP_inP {n a b : List Int} (h1 : InP a n) (h2 : InP b n) : InP (addP n a b) n := by
  have pos : ∀ {p n : List Int}, InP p n → ∀ s ∈ n, 0 < s := fun h => by
    induction h with
    | nil => intro s hs; cases hs
    | cons a b _ ih =>
      intro s hs
      rcases List.mem_cons.mp hs with e | e
      · rw [e]; omega
      · exact ih s e
  exact addP_in h1.len h2.len (pos h1)
theorem at_mem {B : Bg} {e : List Int} (h : atEnd n B e = some q) : q ∈ B ∧ endB n q = e :=
  ⟨List.mem_of_find?_eq_some h, by
    have z := List.find?_some (p := fun q => decide (endB n q = e)) h
    exact of_decide_eq_true z⟩
theorem end_one {B : Bg} (hk : (B.map (endB n)).Nodup) {x y : List Int × List Int} (hx : x ∈ B) (hy : y ∈ B) (e : endB n x = endB n y) : x = y := by
  induction B with
  | nil => cases hx
  | cons b B ih =>
    rw [List.map_cons, List.nodup_cons] at hk
    rcases List.mem_cons.mp hx with ex | ex <;> rcases List.mem_cons.mp hy with ey | ey
    · rw [ex, ey]
    · exact (hk.1 (List.mem_map.mpr ⟨y, ey, by rw [← e, ex]⟩)).elim
    · exact (hk.1 (List.mem_map.mpr ⟨x, ex, by rw [e, ey]⟩)).elim
    · exact ih hk.2 ex ey
theorem mem_key {B : Bg} {x : List Int × List Int} (h : x ∈ B) : x.1 ∈ B.map (·.1) := List.mem_map.mpr ⟨x, h, rfl⟩
theorem drop_snoc {l : List Int} (h : t ≠ l) : ((H ++ [(t, m)]).filter fun x => decide (x.1 ≠ l)) = (H.filter fun x => decide (x.1 ≠ l)) ++ [(t, m)] := by
  rw [List.filter_append, List.filter_cons_of_pos (by simpa using h)]
  rfl
theorem BgOk.filter (b : BgOk n H) (p : List Int × List Int → Bool) : BgOk n (H.filter p) :=
  ⟨b.keys.sublist ((List.filter_sublist (p := p)).map _), fun q hq => b.inH q ((List.mem_filter.mp hq).1), b.ends.sublist ((List.filter_sublist (p := p)).map _)⟩
theorem BgOk.snoc (b : BgOk n H) (hp : InP t n) (hm : InP m n) (ft : t ∉ H.map (·.1)) (fe : addP n t m ∉ H.map (endB n)) : BgOk n (H ++ [(t, m)]) := by
  refine ⟨?_, fun q hq => ?_, ?_⟩
  · (rw [List.map_append, List.nodup_append])
    refine ⟨b.keys, by simp, fun x hx y hy e => ?_⟩
    simp at hy
    rw [e, hy] at hx
    exact ft hx
  · rcases List.mem_append.mp hq with h | h
    · exact b.inH q h
    · simp at h; rw [h]; exact ⟨hp, hm⟩
  · (rw [List.map_append, List.nodup_append])
    refine ⟨b.ends, by simp, fun x hx y hy e => ?_⟩
    simp at hy
    rw [e, hy] at hx
    exact fe hx
theorem Ps.loser (p : Ps n K S H t w m) (h : atEnd n H (addP n t m) = some q) : q.1 ≠ t ∧ q.1 ≠ w ∧ q.1 ∉ S := by
  obtain ⟨hm, he⟩ := at_mem h
  refine ⟨fun z => p.ft (z ▸ mem_key hm), fun z => p.fw (z ▸ mem_key hm), fun z => ?_⟩
  obtain ⟨i, hi⟩ := List.mem_iff_getElem?.mp z
  obtain ⟨r, hr, hk⟩ := p.chain i q.1 q.2 hi hm
  have lt : i + 1 < (S ++ [t]).length := (List.getElem?_eq_some_iff.mp hr).1
  have hr2 : r ∈ S ++ [t] := List.mem_of_getElem? hr
  have ri : InP r n := by
    rcases List.mem_append.mp hr2 with h | h
    · exact p.inS r h
    · simp at h; rw [h]; exact p.it
  have e : r = w := by
    refine addP_cancel ri p.iw (addP_inP p.it p.im).len ?_
    have he' : addP n q.1 q.2 = addP n t m := he
    rw [he'] at hk
    rw [hk, p.key]
  have sq := p.seq
  have e2 : S ++ [t, w] = (S ++ [t]) ++ [w] := by simp
  rw [e2, List.nodup_append] at sq
  exact sq.2.2 r hr2 w (by simp) e
theorem Ps.next (p : Ps n K S H t w m) (h : atEnd n H (addP n t m) = some q) : Ps n K (S ++ [t]) ((H ++ [(t, m)]).filter fun x => decide (x.1 ≠ q.1)) w q.1 q.2 := by
  obtain ⟨hm, he⟩ := at_mem h
  obtain ⟨n1, n2, n3⟩ := p.loser h
  have he' : addP n q.1 q.2 = addP n t m := he
  rw [drop_snoc (Ne.symm n1)]
  have fe : addP n t m ∉ (H.filter fun x => decide (x.1 ≠ q.1)).map (endB n) := fun z => by
    obtain ⟨x, hx, hq⟩ := List.mem_map.mp z
    have h1 := List.mem_filter.mp hx
    have := end_one p.b.ends h1.1 hm (hq.trans he.symm)
    have h2 := of_decide_eq_true h1.2
    exact h2 (by rw [this])
  have ft : t ∉ (H.filter fun x => decide (x.1 ≠ q.1)).map (·.1) := fun z => by
    obtain ⟨x, hx, hq⟩ := List.mem_map.mp z
    exact p.ft (hq ▸ mem_key ((List.mem_filter.mp hx).1))
  have i2 := p.b.inH q hm
  have sq := p.seq
  have e2 : S ++ [t, w] = (S ++ [t]) ++ [w] := by simp
  rw [e2, List.nodup_append] at sq
  refine ⟨(p.b.filter _).snoc p.it p.im ft fe, p.iw, i2.1, i2.2, fun z => ?_, fun z => ?_, ?_, fun x hx => ?_, fun i x mv hi hx => ?_, ?_⟩
  · rw [List.map_append, List.mem_append] at z
    rcases z with z | z
    · obtain ⟨x, hx, hq⟩ := List.mem_map.mp z
      exact p.fw (hq ▸ mem_key ((List.mem_filter.mp hx).1))
    · simp at z
      exact sq.2.2 t (by simp) w (by simp) z.symm
  · rw [List.map_append, List.mem_append] at z
    rcases z with z | z
    · obtain ⟨x, hx, hq⟩ := List.mem_map.mp z
      exact of_decide_eq_true (List.mem_filter.mp hx).2 hq
    · simp at z; exact n1 z
  · have e3 : S ++ [t] ++ [w, q.1] = ((S ++ [t]) ++ [w]) ++ [q.1] := by simp
    rw [e3, List.nodup_append]
    refine ⟨List.nodup_append.mpr sq, by simp, fun x hx y hy e => ?_⟩
    simp at hy
    rw [e, hy] at hx
    simp at hx
    rcases hx with z | z | z
    · exact n3 z
    · exact n1 z
    · exact n2 z
  · rcases List.mem_append.mp hx with h | h
    · exact p.inS x h
    · simp at h; rw [h]; exact p.it
  · by_cases hl : i < S.length
    · rw [List.getElem?_append_left hl] at hi
      have hx2 : (x, mv) ∈ H := by
        rcases List.mem_append.mp hx with h | h
        · exact (List.mem_filter.mp h).1
        · simp at h
          have sq1 := sq.1
          rw [List.nodup_append] at sq1
          exact (sq1.2.2 x (List.mem_of_getElem? hi) t (by simp) h.1).elim
      obtain ⟨r, hr, hk⟩ := p.chain i x mv hi hx2
      exact ⟨r, by rw [List.getElem?_append_left (List.getElem?_eq_some_iff.mp hr).1]; exact hr, hk⟩
    · have hlen : i < (S ++ [t]).length := (List.getElem?_eq_some_iff.mp hi).1
      rw [List.length_append] at hlen
      have ei : i = S.length := by simp at hlen; omega
      subst ei
      rw [List.getElem?_append_right (Nat.le_refl _)] at hi
      simp at hi
      subst hi
      have ex : mv = m := by
        rcases List.mem_append.mp hx with h | h
        · exact (ft (List.mem_map.mpr ⟨_, h, rfl⟩)).elim
        · simp at h; exact h
      refine ⟨w, ?_, by rw [ex]; exact p.key⟩
      rw [List.getElem?_append_right (by simp)]
      simp
  · rw [add_swap, addP_comm n w q.1, add_swap, he']
    exact p.key
theorem Ps.few (hn : n ∈ fewD) (p : Ps n K S H t w m) : S.length + 2 ≤ (placesOf n).length := by
  have : (S ++ [t, w]).length ≤ (placesOf n).length := nodup_len p.seq fun x hx => by
    rcases List.mem_append.mp hx with h | h
    · exact (p.inS x h).mem
    · simp at h
      rcases h with h | h
      · rw [h]; exact p.it.mem
      · rw [h]; exact p.iw.mem
  simpa using this
end
end Mv
namespace Mv
open PySem L2 Evl
def atKeyB (B : Bg) (p : List Int) : Option (List Int × List Int) := B.find? fun q => decide (q.1 = p)
theorem lk_enc (B : Bg) (p : List Int) : lkD (enc B) (kI p) = (atKeyB B p).map fun q => dI q.2 := by
  induction B with
  | nil => rfl
  | cons b B ih =>
    unfold lkD atKeyB enc at ih ⊢
    rw [List.map_cons, List.find?_cons, List.find?_cons]
    by_cases h : b.1 = p
    · rw [decide_eq_true h, decide_eq_true (congrArg kI h)]; rfl
    · rw [decide_eq_false h, decide_eq_false (fun z => h (kI_inj z))]; exact ih
theorem Ps.start {n : List Int} {B : Bg} {t w m : List Int} (b : BgOk n B) (it : InP t n) (iw : InP w n) (im : InP m n) (ft : t ∉ B.map (·.1)) (fw : w ∉ B.map (·.1)) (ne : t ≠ w) : Ps n (addP n (addP n t m) w) [] B t w m :=
  { b := b, it := it, iw := iw, im := im, ft := ft, fw := fw, seq := by simp [ne], inS := fun _ h => (by cases h), chain := fun _ _ _ h => (by simp at h), key := rfl }
end Mv
namespace Mv
open PySem L2 Evl
theorem takeP_inP {n a b : List Int} (h1 : InP a n) (h2 : InP b n) : InP (takeP n a b) n := by
  have pos : ∀ {p n : List Int}, InP p n → ∀ s ∈ n, 0 < s := fun h => by
    induction h with
    | nil => intro s hs; cases hs
    | cons a b _ ih =>
      intro s hs
      rcases List.mem_cons.mp hs with e | e
      · rw [e]; omega
      · exact ih s e
  exact takeP_in h1.len h2.len (pos h1)
section
variable {n : List Int} {B : Bg}
end
end Mv
namespace Mv
open PySem L2 Evl
def keyI : D → Option L2.Key
  | .int i => some (.inl i)
  | .str s => some (.inr s)
  | _ => none
def keysI : List D → Option KK
  | [] => some []
  | d :: ds => match keyI d, keysI ds with
    | some k, some ks => some (k :: ks)
    | _, _ => none
def keyOf0 : D → Option KK
  | .tuple ds => keysI ds
  | _ => none
def keyOf : D → Option KK
  | .tuple (d :: ds) => keysI (d :: ds)
  | _ => none
theorem keyI_some {d : D} {k : L2.Key} (h : keyI d = some k) : d = keyD k := by
  cases d with
  | int i => cases h; rfl
  | str s => cases h; rfl
  | _ => cases h
theorem keysI_some : ∀ {ds : List D} {k : KK}, keysI ds = some k → ds = k.map keyD
  | [], k, h => by cases h; rfl
  | d :: ds, k, h => by
    unfold keysI at h
    split at h
    · rename_i k1 ks e1 e2
      cases h
      rw [keyI_some e1, keysI_some e2]; rfl
    · cases h
theorem keyOf0_some {d : D} {k : KK} (h : keyOf0 d = some k) : d = kD k := by
  cases d with
  | tuple ds => rw [keysI_some (show keysI ds = some k from h)]; rfl
  | _ => cases h
theorem keyOf_some {d : D} {k : KK} (h : keyOf d = some k) : d = kD k := by
  cases d with
  | tuple ds =>
    cases ds with
    | nil => cases h
    | cons d ds => rw [keysI_some (show keysI (d :: ds) = some k from h)]; rfl
  | _ => cases h
theorem keyOf_ne {d : D} {k : KK} (h : keyOf d = some k) : k ≠ [] := fun z => by
  have e := keyOf_some h
  subst z
  rw [e] at h
  cases h
def dctGo : List (D × D) → Option (List (KK × D))
  | [] => some []
  | e :: es => match keyOf0 e.1, dctGo es with
    | some k, some r => some ((k, e.2) :: r)
    | _, _ => none
def dctOf : D → Option (List (KK × D))
  | .dict ps => dctGo ps
  | _ => none
theorem dctGo_some : ∀ {ps : List (D × D)} {es : List (KK × D)}, dctGo ps = some es → ps = es.map fun e => (kD e.1, e.2)
  | [], es, h => by cases h; rfl
  | (a, b) :: ps, es, h => by
    unfold dctGo at h
    split at h
    · rename_i k r e1 e2
      cases h
      rw [dctGo_some e2]
      show (a, b) :: _ = (kD k, b) :: _
      rw [← keyOf0_some e1]
    · cases h
theorem dctOf_some {d : D} {es : List (KK × D)} (h : dctOf d = some es) : d = dctD es := by
  cases d with
  | dict ps => rw [dctGo_some (show dctGo ps = some es from h)]
  | _ => cases h
section
variable {E : XK} {ad : Str → Addr} {K : PySem.W.Frag} {G H G' H' : Hp} {te td ty tx ta tb : TE} {fe fd fy fx fa fb : En → Re}
theorem u_emp : Se E ad tDNewK (fC (.dict [(.none, .none)])) := fun σ Γ G H R r e Q q => by
  cases e
  intro p hp
  have s := Stp.new (o := .dK []) R.w hp
  exact q _ _ _ s (.emp upd_same rfl)
def PoD (E : XK) (ad : Str → Addr) (G H : Hp) (Q : VK) : Ou → Prop
  | .val (.dict ps) => ∀ es, dctOf (.dict ps) = some es → ∀ p G2 H2, Stp G H G2 H2 → H p = none → MD G2 H2 p es → Q (.ref p) H2
  | .val _ => False
  | .exc x => ∀ G2 H2, Stp G H G2 H2 → XE E ad x H2
def Sd (E : XK) (ad : Str → Addr) (te : TE) (f : En → Re) : Prop := ∀ σ Γ G H, Rel G H σ Γ → ∀ r, f Γ = some r → ∀ Q : VK, PoD E ad G H Q r → te σ H Q
theorem keysI_map : ∀ k : KK, keysI (k.map keyD) = some k
  | [] => rfl
  | .inl i :: k => by show (match keyI (.int i), keysI (k.map keyD) with | some k, some ks => some (k :: ks) | _, _ => none) = _; rw [keysI_map k]; rfl
  | .inr i :: k => by show (match keyI (.str i), keysI (k.map keyD) with | some k, some ks => some (k :: ks) | _, _ => none) = _; rw [keysI_map k]; rfl
theorem dctGo_map : ∀ es : List (KK × D), dctGo (es.map fun e => (kD e.1, e.2)) = some es
  | [] => rfl
  | e :: es => by
    show (match keyOf0 (kD e.1), dctGo (es.map fun e => (kD e.1, e.2)) with | some k, some r => some ((k, e.2) :: r) | _, _ => none) = _
    rw [dctGo_map es, show keyOf0 (kD e.1) = some e.1 from keysI_map e.1]
theorem dctOf_dctD (es : List (KK × D)) : dctOf (dctD es) = some es := dctGo_map es
def dcGo (st : Fs) (ft fk fv : En → Re) (Γ : En) : List D → List (KK × D) → Option (List (KK × D))
  | [], acc => some acc
  | a :: as, acc => match st a Γ with
    | none => none
    | some Γ1 => match ft Γ1 with
      | some (.val (.bool b)) => if b = true then (match fk Γ1 with
        | some (.val y) => match keyOf y with
          | some k => match fv Γ1 with
            | some (.val z) => dcGo st ft fk fv Γ as (putD acc k z)
            | _ => none
          | none => none
        | _ => none) else dcGo st ft fk fv Γ as acc
      | _ => none
def fDc (src : En → Ra) (st : Fs) (ft fk fv : En → Re) (vs : List Nat) (Γ : En) : Re := match src Γ with
  | some (.vals as) => if small as.length = true then (match dcGo st ft fk fv (wipeC Γ vs) as [] with
    | some es => some (.val (dctD es))
    | none => none) else none
  | some (.exc x) => some (.exc x)
  | none => none
variable {wi : TI} {src : En → Ra} {g : TG} {st : Fs} {js vs : List Nat} {tt : TT} {ft : En → Re} {tk tv : TE} {fk fv : En → Re}
theorem md_dc (hs : Si E ad wi src) (hg : Sg g st js) (ht : Sb E ad tt ft) (hk : Se E ad tk fk) (hv : Se E ad tv fv) (hj : ∀ j ∈ js, j ∈ vs) : Sd E ad (tDcT wi g tt tk tv vs) (fDc src st ft fk fv vs) := fun σ Γ G H R r e Q q => by
  unfold fDc at e
  split at e
  · rename_i as e1
    by_cases hsm : small as.length = true
    · rw [if_pos hsm] at e
      have sml := small_le hsm
      split at e
      · rename_i es e2
        cases e
        refine hs σ Γ G H R _ e1 _ fun J G2 H2 s2 wl0 Dl hD => ?_
        have wl := wl0.mono noT_ex
        have gD : G2 Dl = none := fresh_back s2.w hD
        refine ⟨fun i m H3 => m = as.length - i ∧ i ≤ as.length ∧ ∃ acc, dcGo st ft fk fv (wipeC Γ vs) (as.drop i) acc = some es ∧ acc.length ≤ i ∧ MkD G2 H2 Dl acc H3, ⟨as.length, rfl, Nat.zero_le _, [], e2, Nat.le_refl _, MkD.start s2.w hD⟩, ?_⟩
        rintro i m H3 ⟨rfl, hi, acc, er, la, mk⟩
        obtain ⟨G3, kvs3, s3, g3, hvs3, hH3⟩ := mk
        have x23 : Ex G2 H3 := s3.g.trans s3.w
        cases hd : as.drop i with
        | nil =>
          have ei : i = as.length := by
            have := congrArg List.length hd
            rw [List.length_drop, List.length_nil] at this
            omega
          rw [hd] at er
          cases er
          exact .inl ⟨(wl i H3 x23).2 ei, q _ (dctOf_dctD _) Dl G3 H3 (s2.trans s3) (h_old s2 hD) ⟨g3, kvs3, hH3, hvs3⟩⟩
        | cons a as2 =>
          obtain ⟨ha, hd2⟩ := drop_at hd
          have hlt : i < as.length := (List.getElem?_eq_some_iff.mp ha).1
          obtain ⟨hgo, hy⟩ := (wl i H3 x23).1 a ha
          refine .inr ⟨hgo, fun H' => ∃ acc2, dcGo st ft fk fv (wipeC Γ vs) (as.drop (i + 1)) acc2 = some es ∧ acc2.length ≤ i + 1 ∧ MkD G2 H2 Dl acc2 H', fun H' hN => ⟨as.length - (i + 1), by omega, rfl, hlt, hN⟩, ?_⟩
          intro v H4 hyl
          obtain ⟨G4, s4, qv⟩ := hy v H4 hyl G3 s3.g s3.w
          rw [hd] at er
          unfold dcGo at er
          cases hst : st a (wipeC Γ vs) with
          | none => rw [hst] at er; cases er
          | some Γ1 =>
            rw [hst] at er
            dsimp only at er
            have R4 : Rel G4 H4 (wipe σ vs) (wipeC Γ vs) := ((R.stp s2).stp (s3.trans s4)).wipe vs
            refine hg _ _ _ _ R4 v a Γ1 qv hst _ fun σ2 RR l5 o5 _ _ => ⟨?_, ?_⟩
            · rw [wipe_off l5 o5 hj, wipe_two]
            · split at er
              · rename_i b eb
                have R5 := RR G4 H4 (.refl _) R4
                refine ht σ2 Γ1 G4 H4 R5 _ eb _ fun G5 H5 s5 => ?_
                have s35 := s4.trans s5
                have g5 : G5 Dl = none := s35.n Dl g3 (by rw [hH3]; intro z; cases z) (by rw [hH3]; intro xs z; cases z)
                have h5 : H5 Dl = some (.dT kvs3) := s35.h _ _ hH3
                cases b with
                | false =>
                  rw [if_neg (by decide)] at er ⊢
                  exact ⟨acc, by rw [hd2]; exact er, by omega, G5, kvs3, s3.trans s35, g5, hvs3.mono s35.g, h5⟩
                | true =>
                  rw [if_pos rfl] at er ⊢
                  split at er
                  · rename_i y ey
                    split at er
                    · rename_i k ek
                      split at er
                      · rename_i z ez
                        refine hk σ2 Γ1 G5 H5 (R5.stp s5) _ ey _ fun u G6 H6 s6 q6 => ?_
                        have h6 : H6 Dl = some (.dT kvs3) := s6.h _ _ h5
                        have g6 : G6 Dl = none := s6.n Dl g5 (by rw [h5]; intro z; cases z) (by rw [h5]; intro xs z; cases z)
                        refine hv σ2 Γ1 G6 H6 ((R5.stp s5).stp s6) _ ez _ fun w G7 H7 s7 q7 => ?_
                        have h7 : H7 Dl = some (.dT kvs3) := s7.h _ _ h6
                        have g7 : G7 Dl = none := s7.n Dl g6 (by rw [h6]; intro z; cases z) (by rw [h6]; intro xs z; cases z)
                        have s37 := (s35.trans s6).trans s7
                        rw [keyOf_some ek] at q6
                        obtain ⟨c, rfl, hc⟩ := q6.key (keyOf_ne ek)
                        have lp := putD_len acc k z
                        exact ⟨kvs3, k, c, rfl, s7.h _ _ (s6.w _ _ hc), h7, by rw [hvs3.len, sizeLine_eq]; omega, putD acc k z, by rw [hd2]; exact er, by omega, G7, putK kvs3 k w, (s3.trans s37).mutd hD g7, g7, (hvs3.mono s37.g).put (keyOf_ne ek) q7, upd_same⟩
                      · cases er
                    · cases er
                  · cases er
              · cases er
      · cases e
    · rw [if_neg hsm] at e; cases e
  · rename_i x e1
    cases e
    exact hs σ Γ G H R _ e1 _ q
  · cases e
theorem u_fix (h : Sd E ad te fe) (hd : ∀ Γ d, fe Γ = some (.val d) → ∃ es, d = dctD es) : Se E ad (tFix te) fe := fun σ Γ G H R r e Q q => by
  cases r with
  | val d =>
    obtain ⟨es, rfl⟩ := hd Γ d e
    refine h σ Γ G H R _ e _ fun es2 e2 p G2 H2 s h0 m => ?_
    rw [dctOf_dctD] at e2
    cases e2
    obtain ⟨kvs, h2, hp⟩ := m.at_
    refine ⟨p, .dT kvs, rfl, h2, True.intro, fun o => ?_⟩
    refine q _ (upd G2 p (.frz o (.dT kvs))) _ ⟨s.g.trans (.new m.g), fun b u e => ?_, fun b u e => ?_, fun b h1 h3 h4 => ?_⟩ (.dct upd_same (hp.mono (.new m.g)) rfl)
    · rw [upd_ne (fun z => by rw [z, h0] at e; cases e)]
      exact s.h _ _ e
    · by_cases z : b = p
      · rw [z, upd_same] at e ⊢; exact e
      · rw [upd_ne z] at e ⊢; exact s.w _ _ e
    · rw [upd_ne (fun z => h3 (by rw [z]; exact h0))]
      exact s.n b h1 h3 h4
  | exc x => exact h σ Γ G H R _ e _ q
theorem dct_dc (Γ : En) (d : D) (h : fDc src st ft fk fv vs Γ = some (.val d)) : ∃ es, d = dctD es := by
  unfold fDc at h
  split at h
  · split at h
    · split at h
      · cases h; exact ⟨_, rfl⟩
      · cases h
    · cases h
  · cases h
  · cases h
theorem u_dc (hs : Si E ad wi src) (hg : Sg g st js) (ht : Sb E ad tt ft) (hk : Se E ad tk fk) (hv : Se E ad tv fv) (hj : ∀ j ∈ js, j ∈ vs) : Se E ad (tFix (tDcT wi g tt tk tv vs)) (fDc src st ft fk fv vs) := u_fix (md_dc hs hg ht hk hv hj) dct_dc
end
end Mv
namespace Mv
open PySem L2 Evl
def intsI : List D → Option (List Int)
  | [] => some []
  | .int i :: ds => match intsI ds with
    | some r => some (i :: r)
    | none => none
  | _ => none
def rowI : D → Option (List Int)
  | .tuple ds => intsI ds
  | _ => none
theorem intsI_some : ∀ {ds : List D} {n : List Int}, intsI ds = some n → ds = n.map .int
  | [], n, h => by cases h; rfl
  | d :: ds, n, h => by
    cases d with
    | int i =>
      unfold intsI at h
      split at h
      · rename_i r e
        cases h
        rw [intsI_some e]; rfl
      · cases h
    | _ => cases h
theorem rowI_some {d : D} {n : List Int} (h : rowI d = some n) : d = dI n := by
  cases d with
  | tuple ds => rw [intsI_some (show intsI ds = some n from h)]; rfl
  | _ => cases h
def keyR : KK → Option (List Int)
  | [] => some []
  | .inl i :: k => match keyR k with
    | some r => some (i :: r)
    | none => none
  | .inr _ :: _ => none
theorem keyR_some : ∀ {k : KK} {p : List Int}, keyR k = some p → k = kI p
  | [], p, h => by cases h; rfl
  | .inl i :: k, p, h => by
    unfold keyR at h
    split at h
    · rename_i r e
      cases h
      rw [keyR_some e]; rfl
    · cases h
  | .inr _ :: _, p, h => by cases h
def bgI : List (KK × D) → Option Bg
  | [] => some []
  | e :: es => match keyR e.1, rowI e.2, bgI es with
    | some p, some m, some r => some ((p, m) :: r)
    | _, _, _ => none
theorem bgI_some : ∀ {es : List (KK × D)} {B : Bg}, bgI es = some B → es = enc B
  | [], B, h => by cases h; rfl
  | (k, d) :: es, B, h => by
    unfold bgI at h
    split at h
    · rename_i p m r e1 e2 e3
      cases h
      rw [bgI_some e3]
      show (k, d) :: enc r = (kI p, dI m) :: enc r
      rw [← keyR_some e1, ← rowI_some e2]
    · cases h
def bgOf (d : D) : Option Bg := match dctOf d with
  | some es => bgI es
  | none => none
theorem bgOf_some {d : D} {B : Bg} (h : bgOf d = some B) : d = dctD (enc B) := by
  unfold bgOf at h
  split at h
  · rename_i es e
    rw [dctOf_some e, bgI_some h]
  · cases h
theorem Cal.imp {P : Program} {w : World} {K : PySem.W.Frag} {mg : Str → Option Value} {base : Heap} {CX : CXT} {k : Nat} {x : Str} {ps : List Str} {sp sp' : Sp} (C : Cal P w K mg base CX k x ps sp) (h : ∀ vs H Q E, sp' vs H Q E → sp vs H Q E) : Cal P w K mg base CX k x ps sp' := by
  obtain ⟨f, fd, F, r⟩ := C.ex
  exact ⟨f, fd, F.imp h, r⟩
end Mv
namespace Mv
open PySem L2 Evl
theorem small_of {n : Nat} (h : n ≤ 1000) : small n = true := by unfold small; simp; omega
theorem zipT3_small {n a b : List Int} (h : n.length ≤ 1000) : small (zipT3 (a.map PyData.int) (b.map .int) (n.map .int)).length = true := by
  rw [zipT3_len]; exact small_of (by simp; omega)
theorem fCb_one {o : List D → Option D} {fe : En → Re} {Γ : En} {d : D} (h : fe Γ = some (.val d)) : fCb o (fCons fe fNil) Γ = ret (o [d]) := by
  unfold fCb fCons
  rw [h]; rfl
theorem fRet_val {fe : En → Re} {Γ : En} {d : D} (h : fe (lockL (fun _ => true) Γ) = some (.val d)) : fRet fe Γ = some (.rt d) := by
  unfold fRet
  rw [h]
theorem bodyD_rt {fs : En → Rf} {n : Nat} {ds : List D} {d : D} (h : fs ((ds.map Ce.d) ++ List.replicate n .un) = some (.rt d)) : bodyD fs n ds = some (.val d) := by
  unfold bodyD
  rw [h]
theorem guard_of {k : Nat} {g : List D → Re} {ds : List D} (h : ds.length = k) : guardN k g ds = g ds := by
  unfold guardN
  rw [if_pos (by rw [h]; exact Nat.beq_refl k)]
theorem fLc_of {src : En → Ra} {st : Fs} {ft fe : En → Re} {vs : List Nat} {Γ : En} {as ds : List D} (h1 : src Γ = some (.vals as)) (h2 : small as.length = true) (h3 : lcGo st ft fe (wipeC Γ vs) as = some ds) : fLc src st ft fe vs Γ = some (.val (.list ds)) := by
  unfold fLc
  rw [h1]
  dsimp only
  rw [if_pos h2, h3]
end Mv
namespace Mv
open PySem L2 Evl LamX
theorem tabs_keep {T : List (Addr × Str)} {H H' : Hp} (t : Tabs T H) (k : ∀ b o, ((∃ ps, o = .tbl ps) ∨ ∃ φ, o = .ext φ) → H b = some o → H' b = some o) : Tabs T H' := fun p hp => by
  obtain ⟨ps, h1, h2, h3⟩ := t p hp
  refine ⟨ps, k _ _ (.inl ⟨ps, rfl⟩) h1, h2, fun pos cv hc => ?_⟩
  obtain ⟨c, e1, e2⟩ := (h3 pos cv hc)
  exact ⟨c, e1, k _ _ (.inr ⟨_, rfl⟩) e2⟩
theorem st_apart {H : Hp} {s l c b : Addr} {T : Int} {o : HO} (x : StAt H s l c T) (h : H b = some o) (n : (∃ ps, o = .tbl ps) ∨ ∃ φ, o = .ext φ) : b ∉ [s, l, c] := by
  obtain ⟨⟨lg, cs, left, turn, h1, h2, h3, _⟩, _⟩ := x
  simp only [List.mem_cons, List.not_mem_nil, or_false, not_or]
  rcases n with ⟨ps, rfl⟩ | ⟨φ, rfl⟩
  · exact ⟨ne_of h h1 (fun z => nomatch z), ne_of h h2 (fun z => nomatch z), ne_of h h3 (fun z => nomatch z)⟩
  · exact ⟨ne_of h h1 (fun z => nomatch z), ne_of h h2 (fun z => nomatch z), ne_of h h3 (fun z => nomatch z)⟩
theorem tabs_sts {T : List (Addr × Str)} {G H G' H' : Hp} {s l c : Addr} {T0 : Int} (t : Tabs T H) (x : StAt H s l c T0) (ss : StS [s, l, c] G H G' H') : Tabs T H' := tabs_keep t fun b o n h => ss.h b o (st_apart x h n) h
structure Cw where
  TL : List (Addr × Str)
  i0 : Nat
  Z : Hp
structure RelW (X : Cw) (s l c : Addr) (T : Int) (G H : Hp) (σ : L2.St) (Γ : En) : Prop where
  r : Rel G H σ Γ
  wd : Wd G H s l c T
  st : Γ[X.i0]? = some (.fx (.ref s))
  ap : ∀ (i : Nat) (c' : Ce) (p : Addr), Γ[i]? = some c' → isMut c' = true → σ[i]? = some (some (.ref p)) → p ∉ [s, l, c]
  nt : ∀ (b : Addr) (ps : Array Value), G b ≠ some (.tbl ps)
  tb : Tabs X.TL H
  z : Ex X.Z G
section
variable {X : Cw} {s l c : Addr} {T T' : Int} {G H G' H' G1 H1 G2 H2 G0 H0 : Hp} {σ : L2.St} {Γ Γ' : En}
theorem sts_noT (nt : ∀ (b : Addr) (ps : Array Value), G b ≠ some (.tbl ps)) (x : StS [s, l, c] G H G2 H2) : StS [s, l, c] G H (noT G2) H2 := by
  refine ⟨fun b o e => noT_at (x.g _ _ e) fun ps z => nt b ps (z ▸ e), x.h, x.k, fun b o e => x.w _ _ (of_noT e).1, fun b h1 h2 h3 => noT_none (x.n b h1 h2 h3)⟩
theorem wd_noT (x : Wd G H s l c T) : Wd (noT G) H s l c T := ⟨fun b o e => x.w _ _ (of_noT e).1, x.st, noT_none x.gs, noT_none x.gl, noT_none x.gc⟩
theorem ml_sts {p : Addr} {ds : List D} (m : ML G H p ds) (hp : p ∉ [s, l, c]) (x : StS [s, l, c] G H G2 H2) : ML G2 H2 p ds := by
  obtain ⟨us, e, q⟩ := m.at_
  exact ⟨x.n p m.g (by rw [e]; intro z; cases z) (by rw [e]; intro _ z; cases z), us, x.h _ _ hp e, q.mono x.g⟩
theorem md_sts {p : Addr} {es : List (KK × D)} (m : MD G H p es) (hp : p ∉ [s, l, c]) (x : StS [s, l, c] G H G2 H2) : MD G2 H2 p es := by
  obtain ⟨us, e, q⟩ := m.at_
  exact ⟨x.n p m.g (by rw [e]; intro z; cases z) (by rw [e]; intro _ z; cases z), us, x.h _ _ hp e, q.mono x.g⟩
theorem RelW.sts (h : RelW X s l c T G H σ Γ) (x : StS [s, l, c] G H G2 H2) (wd : Wd G2 H2 s l c T') : RelW X s l c T' (noT G2) H2 σ Γ := by
  refine ⟨⟨fun b o e => x.w _ _ (of_noT e).1, h.r.len, fun i c' e => ?_, h.r.sep⟩, wd_noT wd, h.st, h.ap, fun b ps e => (of_noT e).2 ps rfl, tabs_sts h.tb h.wd.st x, h.z.trans (sts_noT h.nt x).g⟩
  have hc := h.r.c i c' e
  cases c' with
  | un => trivial
  | fx v => exact hc
  | d z => obtain ⟨v, e1, q⟩ := hc; exact ⟨v, e1, (q.mono x.g).noT⟩
  | ml ds =>
    obtain ⟨p, e1, m⟩ := hc
    have m2 := ml_sts m (h.ap i _ p e rfl e1) x
    obtain ⟨us, e2, q⟩ := m2.at_
    exact ⟨p, e1, noT_none m2.g, us, e2, q.noT⟩
  | md es =>
    obtain ⟨p, e1, m⟩ := hc
    have m2 := md_sts m (h.ap i _ p e rfl e1) x
    obtain ⟨us, e2, q⟩ := m2.at_
    exact ⟨p, e1, noT_none m2.g, us, e2, q.noT⟩
abbrev StN (s l c : Addr) (G H G' H' : Hp) : Prop := StS [s, l, c] G (noT H) G' (noT H')
theorem StN.of (nt : ∀ (b : Addr) (ps : Array Value), G b ≠ some (.tbl ps)) (x : StS [s, l, c] G H G2 H2) (wd : Wd G2 H2 s l c T') : StN s l c G H (noT G2) H2 := by
  refine ⟨fun b o e => noT_at (x.g _ _ e) fun ps z => nt b ps (z ▸ e), fun b o hb e => ?_, fun b hb q => ?_, fun b o e => ?_, fun b h1 h2 h3 => noT_none (x.n b h1 ?_ ?_)⟩
  · obtain ⟨e1, e2⟩ := of_noT e
    exact noT_at (x.h b o hb e1) e2
  · obtain ⟨⟨o1, e1, m1⟩, ⟨o2, e2, m2⟩, o3, e3, m3⟩ := wd.st.at
    obtain ⟨⟨lg, cs, left, turn, f1, f2, f3, _⟩, _⟩ := wd.st
    simp only [List.mem_cons, List.not_mem_nil, or_false] at hb
    rcases hb with z | z | z
    · rw [z, noT_at f1 fun _ z => by cases z]; exact ⟨(fun y => nomatch y), fun _ xs y => nomatch y⟩
    · rw [z, noT_at f2 fun _ z => by cases z]; exact ⟨(fun y => nomatch y), fun _ xs y => nomatch y⟩
    · rw [z, noT_at f3 fun _ z => by cases z]; exact ⟨(fun y => nomatch y), fun _ xs y => nomatch y⟩
  · obtain ⟨e1, e2⟩ := of_noT e
    exact noT_at (x.w _ _ e1) e2
  · intro z; exact h2 (noT_none z)
  · intro xs z; exact h3 xs (noT_at z fun _ z => by cases z)
theorem StN.cut (nt : ∀ (b : Addr) (ps : Array Value), G b ≠ some (.tbl ps)) (x : StN s l c G H G2 H2) : StN s l c G H (noT G2) H2 :=
  ⟨fun b o e => noT_at (x.g _ _ e) fun ps z => nt b ps (z ▸ e), x.h, x.k, fun b o e => x.w _ _ (of_noT e).1, fun b h1 h2 h3 => noT_none (x.n b h1 h2 h3)⟩
theorem ml_stN {p : Addr} {ds : List D} (m : ML G H p ds) (hp : p ∉ [s, l, c]) (x : StN s l c G H G2 H2) : ML G2 H2 p ds := by
  obtain ⟨us, e, q⟩ := m.at_
  have e' : noT H p = some (.lst us) := noT_at e fun _ z => by cases z
  exact ⟨x.n p m.g (by rw [e']; intro z; cases z) (by rw [e']; intro _ z; cases z), us, (of_noT (x.h _ _ hp e')).1, q.mono x.g⟩
theorem md_stN {p : Addr} {es : List (KK × D)} (m : MD G H p es) (hp : p ∉ [s, l, c]) (x : StN s l c G H G2 H2) : MD G2 H2 p es := by
  obtain ⟨us, e, q⟩ := m.at_
  have e' : noT H p = some (.dT us) := noT_at e fun _ z => by cases z
  exact ⟨x.n p m.g (by rw [e']; intro z; cases z) (by rw [e']; intro _ z; cases z), us, (of_noT (x.h _ _ hp e')).1, q.mono x.g⟩
theorem RelW.stN (h : RelW X s l c T G H σ Γ) (x : StN s l c G H G2 H2) (wd : Wd G2 H2 s l c T') (tb : Tabs X.TL H2) : RelW X s l c T' (noT G2) H2 σ Γ := by
  refine ⟨⟨fun b o e => (of_noT (x.w _ _ (of_noT e).1)).1, h.r.len, fun i c' e => ?_, h.r.sep⟩, wd_noT wd, h.st, h.ap, fun b ps e => (of_noT e).2 ps rfl, tb, h.z.trans (StN.cut h.nt x).g⟩
  have hc := h.r.c i c' e
  cases c' with
  | un => trivial
  | fx v => exact hc
  | d z => obtain ⟨v, e1, q⟩ := hc; exact ⟨v, e1, (q.mono x.g).noT⟩
  | ml ds =>
    obtain ⟨p, e1, m⟩ := hc
    have m2 := ml_stN m (h.ap i _ p e rfl e1) x
    obtain ⟨us, e2, q⟩ := m2.at_
    exact ⟨p, e1, noT_none m2.g, us, e2, q.noT⟩
  | md es =>
    obtain ⟨p, e1, m⟩ := hc
    have m2 := md_stN m (h.ap i _ p e rfl e1) x
    obtain ⟨us, e2, q⟩ := m2.at_
    exact ⟨p, e1, noT_none m2.g, us, e2, q.noT⟩
theorem RelW.toN (R : RelW X s l c T G H σ Γ) (p : Stp G H G2 H2) : StN s l c G H (noT G2) H2 := StN.of R.nt p.toS (R.wd.stp p)
theorem RelW.rf (R : RelW X s l c T G H σ Γ) : StN s l c G H G H := .refl fun b o e => noT_at (R.r.w _ _ e) fun ps z => R.nt b ps (z ▸ e)
theorem RelW.sl (h : RelW X s l c T G H σ Γ) : σ[X.i0]? = some (some (.ref s)) := h.r.c X.i0 _ h.st
abbrev WE := En → Int → (D → Int → Prop) → Prop
abbrev WA := En → Int → (List D → Int → Prop) → Prop
abbrev WB := En → Int → (Bool → Int → Prop) → Prop
def Sw (X : Cw) (te : TE) (F : WE) : Prop := ∀ s l c T σ Γ G H, RelW X s l c T G H σ Γ → ∀ post, F Γ T post → ∀ Q : VK, (∀ d T', post d T' → ∀ v G2 H2, RelW X s l c T' G2 H2 σ Γ → StN s l c G H G2 H2 → Dq G2 v d → Q v H2) → te σ H Q
def Swa (X : Cw) (ta : TA) (F : WA) : Prop := ∀ s l c T σ Γ G H, RelW X s l c T G H σ Γ → ∀ post, F Γ T post → ∀ Q : List V → Hp → Prop, (∀ d T', post d T' → ∀ v G2 H2, RelW X s l c T' G2 H2 σ Γ → StN s l c G H G2 H2 → DqA G2 v d → Q v H2) → ta σ H Q
def Swb (X : Cw) (tt : TT) (F : WB) : Prop := ∀ s l c T σ Γ G H, RelW X s l c T G H σ Γ → ∀ post, F Γ T post → ∀ Q : Bool → Hp → Prop, (∀ b T', post b T' → ∀ G2 H2, RelW X s l c T' G2 H2 σ Γ → StN s l c G H G2 H2 → Q b H2) → tt σ H Q
variable {E : XK} {ad : Str → Addr} {te ta tb : TE} {fe : En → Re} {tt tu : TT} {ft : En → Re} {tas tr : TA} {fas : En → Ra} {Fa Fb F : WE} {FA FR : WA} {FT FU : WB}
def pw (f : En → Re) : WE := fun Γ T post => match f Γ with
  | some (.val d) => post d T
  | _ => False
def pwb (f : En → Re) : WB := fun Γ T post => match f Γ with
  | some (.val (.bool b)) => post b T
  | _ => False
def pwa (f : En → Ra) : WA := fun Γ T post => match f Γ with
  | some (.vals ds) => post ds T
  | _ => False
theorem w_pure (h : Se E ad te fe) : Sw X te (pw fe) := fun s l c T σ Γ G H R post hp Q q => by
  unfold pw at hp
  split at hp
  · rename_i d e
    refine h σ Γ G H R.r _ e Q fun v G2 H2 s2 q2 => ?_
    have x := s2.toS (S := [s, l, c])
    exact q d T hp v (noT G2) H2 (R.sts x (R.wd.stp s2)) (R.toN s2) q2.noT
  · exact hp.elim
theorem w_pureb (h : Sb E ad tt ft) : Swb X tt (pwb ft) := fun s l c T σ Γ G H R post hp Q q => by
  unfold pwb at hp
  split at hp
  · rename_i d e
    refine h σ Γ G H R.r _ e Q fun G2 H2 s2 => ?_
    have x := s2.toS (S := [s, l, c])
    exact q d T hp (noT G2) H2 (R.sts x (R.wd.stp s2)) (R.toN s2)
  · exact hp.elim
def wNil : WA := fun _ T post => post [] T
def wCons (Fa : WE) (FR : WA) : WA := fun Γ T post => Fa Γ T fun d T1 => FR Γ T1 fun ds T2 => post (d :: ds) T2
theorem w_nil : Swa X tNil wNil := fun s l c T σ Γ G H R post hp Q q => q [] T hp [] G H R R.rf .nil
theorem w_cons (ha : Sw X ta Fa) (hr : Swa X tr FR) : Swa X (tCons ta tr) (wCons Fa FR) := fun s l c T σ Γ G H R post hp Q q =>
  ha s l c T σ Γ G H R _ hp _ fun d T1 h1 v G2 H2 R2 x2 q2 => hr s l c T1 σ Γ G2 H2 R2 _ h1 _ fun ds T2 h2 vs G3 H3 R3 x3 q3 => q (d :: ds) T2 h2 (v :: vs) G3 H3 R3 (x2.trans x3) (.cons (q2.mono x3.g) q3)
def wOp (o : D → D → Option D) (Fa Fb : WE) : WE := fun Γ T post => Fa Γ T fun x T1 => Fb Γ T1 fun y T2 => match o x y with
  | some z => post z T2
  | none => False
theorem w_op {r : R2} {o : D → D → Option D} (ho : OpS r o) (ha : Sw X ta Fa) (hb : Sw X tb Fb) : Sw X (tOp r ta tb) (wOp o Fa Fb) := fun s l c T σ Γ G H R post hp Q q =>
  ha s l c T σ Γ G H R _ hp _ fun d T1 h1 v G2 H2 R2 x2 q2 => hb s l c T1 σ Γ G2 H2 R2 _ h1 _ fun y T2 h2 u G3 H3 R3 x3 q3 => by
    split at h2
    · rename_i z ez
      refine ho d y z ez G3 v u G3 H3 (.refl _) R3.r.w (q2.mono x3.g) q3 Q fun w G4 H4 s4 q4 => ?_
      have x4 := s4.toS (S := [s, l, c])
      exact q z T2 h2 w (noT G4) H4 (R3.sts x4 (R3.wd.stp s4)) ((x2.trans x3).trans (R3.toN s4)) q4.noT
    · exact h2.elim
def wTup (FA : WA) : WE := fun Γ T post => FA Γ T fun ds T1 => small ds.length = true ∧ post (.tuple ds) T1
def wLst (FA : WA) : WE := fun Γ T post => FA Γ T fun ds T1 => small ds.length = true ∧ post (.list ds) T1
theorem w_tup (h : Swa X tas FA) : Sw X (tTup tas) (wTup FA) := fun s l c T σ Γ G H R post hp Q q =>
  h s l c T σ Γ G H R _ hp _ fun ds T1 ⟨sm, h1⟩ vs G2 H2 R2 x2 q2 => ⟨by rw [q2.len]; exact small_line sm, fun p o hp od => by
    have s3 := Stp.new (o := tupO o vs) R2.r.w hp
    have x3 := s3.toS (S := [s, l, c])
    exact q _ T1 h1 _ (noT _) _ (R2.sts x3 (R2.wd.stp s3)) (x2.trans (R2.toN s3)) (Dq.noT (.tup (.new od) (q2.mono s3.g)))⟩
def wCb (o : List D → Option D) (FA : WA) : WE := fun Γ T post => FA Γ T fun ds T1 => match o ds with
  | some z => post z T1
  | none => False
def wCall (g : List D → Re) (FA : WA) : WE := fun Γ T post => FA Γ T fun ds T1 => match g ds with
  | some (.val z) => post z T1
  | _ => False
def SpW (TL : List (Addr × Str)) (W : List D → Int → (D → Int → Prop) → Prop) : Sp := fun vs H Q _ => ∃ G s l c T vs' ds post, vs = .ref s :: vs' ∧ DqA G vs' ds ∧ Wd G H s l c T ∧ (∀ (b : Addr) (ps : Array Value), G b ≠ some (.tbl ps)) ∧ Tabs TL H ∧ W ds T post ∧
  ∀ z T', post z T' → ∀ v G' H', Wd G' H' s l c T' → StN s l c G H G' H' → Tabs TL H' → Dq G' v z → Q v H'
def wDraw (W : List D → Int → (D → Int → Prop) → Prop) (FA : WA) : WE := fun Γ T post => FA Γ T fun ds T1 => W ds T1 post
theorem w_draw {E' : XK} {W : List D → Int → (D → Int → Prop) → Prop} (h : Swa X tas FA) : Sw X (tCall (SpW X.TL W) [] E' (tCons (tVar X.i0) tas)) (wDraw W FA) := fun s l c T σ Γ G H R post hp Q q =>
  ⟨.ref s, R.sl, h s l c T σ Γ G H R _ hp _ fun ds T1 h1 vs G2 H2 R2 x2 q2 => by
    show SpW X.TL W ((V.ref s :: vs) ++ []) H2 Q E'
    rw [List.append_nil]
    refine ⟨G2, s, l, c, T1, vs, ds, post, rfl, q2, R2.wd, R2.nt, R2.tb, h1, fun z T' hz v G' H' wd x tb hv => ?_⟩
    exact q z T' hz v (noT G') H' (R2.stN x wd tb) (x2.trans (StN.cut R2.nt x)) hv.noT⟩
def wIf (FT : WB) (Fa Fb : WE) : WE := fun Γ T post => FT Γ T fun b T1 => if b = true then Fa Γ T1 post else Fb Γ T1 post
def wT (Fa : WE) : WB := fun Γ T post => Fa Γ T fun d T1 => match d with
  | .bool b => post b T1
  | _ => False
theorem w_test (h : Sw X te F) : Swb X (tTest te) (wT F) := fun s l c T σ Γ G H R post hp Q q =>
  h s l c T σ Γ G H R _ hp _ fun d T1 h1 v G2 H2 R2 x2 q2 => by
    split at h1
    · cases q2; exact ⟨_, rfl, q _ T1 h1 G2 H2 R2 x2⟩
    · exact h1.elim
theorem w_tB (h : Sw X te F) : Swb X (tB te) (wT F) := fun s l c T σ Γ G H R post hp Q q =>
  h s l c T σ Γ G H R _ hp _ fun d T1 h1 v G2 H2 R2 x2 q2 => by
    split at h1
    · cases q2; exact ⟨_, rfl, q _ T1 h1 G2 H2 R2 x2⟩
    · exact h1.elim
def wAnd (FT FU : WB) : WB := fun Γ T post => FT Γ T fun b T1 => if b = true then FU Γ T1 post else post false T1
def wOr (FT FU : WB) : WB := fun Γ T post => FT Γ T fun b T1 => if b = true then post true T1 else FU Γ T1 post
def wNot (FT : WB) : WB := fun Γ T post => FT Γ T fun b T1 => post (!b) T1
theorem w_and (ht : Swb X tt FT) (hu : Swb X tu FU) : Swb X (tAnd tt tu) (wAnd FT FU) := fun s l c T σ Γ G H R post hp Q q =>
  ht s l c T σ Γ G H R _ hp _ fun b T1 h1 G2 H2 R2 x2 => by
    cases b with
    | true =>
      rw [if_pos rfl] at h1 ⊢
      exact hu s l c T1 σ Γ G2 H2 R2 _ h1 Q fun d T' h G3 H3 R3 x3 => q d T' h G3 H3 R3 (x2.trans x3)
    | false =>
      rw [if_neg (by decide)] at h1 ⊢
      exact q false T1 h1 G2 H2 R2 x2
theorem w_not (ht : Swb X tt FT) : Swb X (tNot tt) (wNot FT) := fun s l c T σ Γ G H R post hp Q q =>
  ht s l c T σ Γ G H R _ hp _ fun b T1 h1 G2 H2 R2 x2 => q _ T1 h1 G2 H2 R2 x2
def wSl (k : Bool) (Fa Fb : WE) : WE := fun Γ T post => Fa Γ T fun z T1 => match sqOf k z with
  | some ds => Fb Γ T1 fun h T2 => match h with
    | .int i => post (sq k (cutD ds none (some i))) T2
    | _ => False
  | none => False
end
end Mv
namespace Mv
open PySem L2 Evl LamX
section
variable {X : Cw} {s l c : Addr} {T T' : Int} {G H G' H' G1 H1 G2 H2 G0 H0 : Hp} {σ σ' : L2.St} {Γ Γ' : En}
theorem RelW.wipe (R : RelW X s l c T G H σ Γ) {vs : List Nat} (hi : X.i0 ∉ vs) : RelW X s l c T G H (wipe σ vs) (wipeC Γ vs) := by
  refine ⟨R.r.wipe vs, R.wd, by rw [wipeC_off hi]; exact R.st, fun i c' p e m ep => ?_, R.nt, R.tb, R.z⟩
  rcases wipeC_at e with rfl | ⟨h1, h2⟩
  · cases m
  · rw [wipe_at, if_neg h1] at ep
    exact R.ap i c' p h2 m ep
theorem RelW.go {js : List Nat} (R : RelW X s l c T G H σ Γ) (r : Rel G H σ' Γ') (o : ∀ k : Nat, k ∉ js → σ'[k]? = σ[k]?) (m : ∀ (i : Nat) (c : Ce), Γ'[i]? = some c → isMut c = true → Γ[i]? = some c ∧ σ'[i]? = σ[i]?) (f : ∀ k : Nat, k ∉ js → Γ'[k]? = Γ[k]?) (hi : X.i0 ∉ js) : RelW X s l c T G H σ' Γ' := by
  refine ⟨r, R.wd, by rw [f X.i0 hi]; exact R.st, fun i c' p e mc ep => ?_, R.nt, R.tb, R.z⟩
  obtain ⟨e1, e2⟩ := m i c' e mc
  exact R.ap i c' p e1 mc (e2 ▸ ep)
variable {E : XK} {ad : Str → Addr} {te ta tb : TE} {fe : En → Re} {tt tu : TT} {wi : TI} {src : En → Ra} {g : TG} {st : Fs} {js vs : List Nat} {Fa Fb Fe F : WE} {FT FU : WB} {tas : TA} {FA : WA}
abbrev WS := En → Int → (En → Int → Prop) → (D → Int → Prop) → Prop
structure RelWS (X : Cw) (s l c : Addr) (G0 H0 : Hp) (T : Int) (G H : Hp) (σ : L2.St) (Γ : En) : Prop where
  r : RelW X s l c T G H σ Γ
  x : StN s l c G0 H0 G H
  n : ∀ (i : Nat) (c' : Ce) (p : Addr), Γ[i]? = some c' → isMut c' = true → σ[i]? = some (some (.ref p)) → noT H0 p = none
def Sws (X : Cw) (ts : TS) (F : WS) : Prop := ∀ s l c G0 H0 T σ Γ G H, RelWS X s l c G0 H0 T G H σ Γ → ∀ nx rt, F Γ T nx rt → ∀ D' : Ends,
  (∀ Γ' T', nx Γ' T' → ∀ σ' G2 H2, RelWS X s l c G0 H0 T' G2 H2 σ' Γ' → Ex G G2 → D'.nx σ' H2) → (∀ d T', rt d T' → ∀ v G2 H2, Wd G2 H2 s l c T' → StN s l c G0 H0 G2 H2 → Tabs X.TL H2 → Dq G2 v d → D'.rt v H2) → ts D' σ H
variable {ts tu : TS} {Fs Fu : WS} {fs : En → Rf}
theorem RelWS.sts (R : RelWS X s l c G0 H0 T G H σ Γ) (R2 : RelW X s l c T' G2 H2 σ Γ) (x : StN s l c G H G2 H2) : RelWS X s l c G0 H0 T' G2 H2 σ Γ := ⟨R2, R.x.trans x, R.n⟩
def pws (i0 : Nat) (f : En → Rf) : WS := fun Γ T nx rt => match f Γ with
  | some (.nx Γ') => Γ'[i0]? = Γ[i0]? ∧ nx Γ' T
  | some (.rt d) => rt d T
  | _ => False
open Classical in
noncomputable def oth (σ : L2.St) (Γ : En) (H : Hp) : Hp := fun b => if ∃ (i : Nat) (c' : Ce), Γ[i]? = some c' ∧ isMut c' = true ∧ σ[i]? = some (some (.ref b)) then none else H b
theorem oth_some {b : Addr} {o : HO} (h : oth σ Γ H b = some o) : H b = some o ∧ ¬ ∃ (i : Nat) (c' : Ce), Γ[i]? = some c' ∧ isMut c' = true ∧ σ[i]? = some (some (.ref b)) := by
  unfold oth at h
  split at h
  · cases h
  · rename_i q; exact ⟨h, q⟩
theorem oth_at {b : Addr} (h : ¬ ∃ (i : Nat) (c' : Ce), Γ[i]? = some c' ∧ isMut c' = true ∧ σ[i]? = some (some (.ref b))) : oth σ Γ H b = H b := by
  unfold oth; rw [if_neg h]
theorem w_stmt (h : Ss E ad ts fs) : Sws X ts (pws X.i0 fs) := fun s l c G0 H0 T σ Γ G H R nx rt hp D' hn hr => by
  have own : ∀ {b : Addr}, (∃ (i : Nat) (c' : Ce), Γ[i]? = some c' ∧ isMut c' = true ∧ σ[i]? = some (some (.ref b))) → noT H0 b = none ∧ G b = none ∧ b ∉ [s, l, c] ∧ ∀ o', H b = some o' → ¬ ((∃ ps, o' = .tbl ps) ∨ ∃ φ, o' = .ext φ) := fun {b} ⟨i, c', e, m, ep⟩ => by
    refine ⟨R.n i c' b e m ep, ?_⟩
    have hc := R.r.r.c i c' e
    cases c' with
    | ml d =>
      obtain ⟨p, e1, mm⟩ := hc
      rw [ep] at e1; cases e1
      obtain ⟨us, e2, _⟩ := mm.at_
      exact ⟨mm.g, R.r.ap i _ b e m ep, fun o' h z => by rw [e2] at h; cases h; rcases z with ⟨_, z⟩ | ⟨_, z⟩ <;> cases z⟩
    | md d =>
      obtain ⟨p, e1, mm⟩ := hc
      rw [ep] at e1; cases e1
      obtain ⟨us, e2, _⟩ := mm.at_
      exact ⟨mm.g, R.r.ap i _ b e m ep, fun o' h z => by rw [e2] at h; cases h; rcases z with ⟨_, z⟩ | ⟨_, z⟩ <;> cases z⟩
    | _ => cases m
  have wo : Ex G (oth σ Γ H) := fun b o e => by
    rw [oth_at (fun z => by rw [(own z).2.1] at e; cases e)]
    exact R.r.r.w _ _ e
  have start : RelS G (oth σ Γ H) G H σ Γ := ⟨R.r.r, ⟨.refl G, fun b o e => (oth_some e).1, R.r.r.w, fun b h1 _ _ => h1⟩, fun i c' p e m ep => by unfold oth; rw [if_pos ⟨i, c', e, m, ep⟩]⟩
  have notS : ∀ b, b ∈ [s, l, c] → oth σ Γ H b = H b := fun b hb => oth_at fun z => (own z).2.2.1 hb
  have wdo : Wd G (oth σ Γ H) s l c T := by
    obtain ⟨⟨lg, cs, left, turn, h1, h2, h3, h⟩, q⟩ := R.r.wd.st
    exact ⟨wo, ⟨⟨lg, cs, left, turn, (notS s (by simp)).trans h1, (notS l (by simp)).trans h2, (notS c (by simp)).trans h3, h⟩, q⟩, R.r.wd.gs, R.r.wd.gl, R.r.wd.gc⟩
  have step : ∀ {G2 H2 : Hp}, Stp G (oth σ Γ H) G2 H2 → Wd G2 H2 s l c T ∧ StN s l c G0 H0 (noT G2) H2 ∧ Tabs X.TL H2 := fun {G2 H2} x => by
    have wd2 := wdo.stp x
    refine ⟨wd2, ⟨R.x.g.trans fun b o e => noT_at (x.g _ _ e) fun ps z => R.r.nt b ps (z ▸ e), fun b o hb e => ?_, fun b hb e => ?_, fun b o e => ?_, fun b h1 h2 h3 => ?_⟩, tabs_keep R.r.tb fun b o k e => ?_⟩
    · obtain ⟨e1, e2⟩ := of_noT (R.x.h b o hb e)
      exact noT_at (x.h _ _ ((oth_at fun z => by rw [(own z).1] at e; cases e).trans e1)) e2
    · obtain ⟨⟨lg, cs, left, turn, f1, f2, f3, _⟩, _⟩ := wd2.st
      simp only [List.mem_cons, List.not_mem_nil, or_false] at hb
      rcases hb with z | z | z
      · rw [z, noT_at f1 fun _ z => by cases z]; exact ⟨(fun y => nomatch y), fun _ xs y => nomatch y⟩
      · rw [z, noT_at f2 fun _ z => by cases z]; exact ⟨(fun y => nomatch y), fun _ xs y => nomatch y⟩
      · rw [z, noT_at f3 fun _ z => by cases z]; exact ⟨(fun y => nomatch y), fun _ xs y => nomatch y⟩
    · obtain ⟨e1, e2⟩ := of_noT e
      exact noT_at (x.w _ _ e1) e2
    · have nz : ¬ ∃ (i : Nat) (c' : Ce), Γ[i]? = some c' ∧ isMut c' = true ∧ σ[i]? = some (some (.ref b)) := fun z => h2 (own z).1
      obtain ⟨k1, k2⟩ := R.x.keep h2 h3
      refine noT_none (x.n b (R.x.n b h1 h2 h3) ?_ ?_)
      · rw [oth_at nz]; intro z; exact k1 (noT_none z)
      · rw [oth_at nz]; intro xs z; exact k2 xs (noT_at z fun _ z => by cases z)
    · exact x.h _ _ ((oth_at fun z => (own z).2.2.2 o e k).trans e)
  unfold pws at hp
  split at hp
  · rename_i Γ' e
    obtain ⟨h0, hp⟩ := hp
    refine h G (oth σ Γ H) σ Γ G H start _ e D' fun σ' G2 H2 R2 x2 => ?_
    obtain ⟨wd2, xs2, tb2⟩ := step R2.s
    have R2n : RelS G (oth σ Γ H) (noT G2) H2 σ' Γ' := by
      refine ⟨⟨noT_w R2.r.w, R2.r.len, fun i c' e => ?_, R2.r.sep⟩, ⟨fun b o e => noT_at (R2.s.g _ _ e) fun ps z => R.r.nt b ps (z ▸ e), R2.s.h, noT_w R2.r.w, fun b h1 h2 h3 => noT_none (R2.s.n b h1 h2 h3)⟩, R2.n⟩
      have hc := R2.r.c i c' e
      cases c' with
      | un => trivial
      | fx v => exact hc
      | d z => obtain ⟨v, e1, q⟩ := hc; exact ⟨v, e1, q.noT⟩
      | ml ds => obtain ⟨p, e1, m⟩ := hc; obtain ⟨us, e2, q⟩ := m.at_; exact ⟨p, e1, noT_none m.g, us, e2, q.noT⟩
      | md ds => obtain ⟨p, e1, m⟩ := hc; obtain ⟨us, e2, q⟩ := m.at_; exact ⟨p, e1, noT_none m.g, us, e2, q.noT⟩
    refine hn Γ' T hp σ' (noT G2) H2 ⟨⟨R2n.r, wd_noT wd2, h0.trans R.r.st, fun i c' p e m ep hm => ?_, fun b ps e => (of_noT e).2 ps rfl, tb2, R.r.z.trans fun b o e => noT_at (x2 _ _ e) fun ps z => R.r.nt b ps (z ▸ e)⟩, xs2, fun i c' p e m ep => ?_⟩ fun b o e => noT_at (x2 _ _ e) fun ps z => R.r.nt b ps (z ▸ e)
    · have := R2.n i c' p e m ep
      rw [notS p hm] at this
      obtain ⟨⟨o1, a1, _⟩, ⟨o2, a2, _⟩, o3, a3, _⟩ := R.r.wd.st.at
      simp only [List.mem_cons, List.not_mem_nil, or_false] at hm
      rcases hm with rfl | rfl | rfl
      · rw [this] at a1; cases a1
      · rw [this] at a2; cases a2
      · rw [this] at a3; cases a3
    · have := R2.n i c' p e m ep
      cases e0 : noT H0 p with
      | none => rfl
      | some o =>
        by_cases hm : p ∈ [s, l, c]
        · rw [notS p hm] at this
          obtain ⟨⟨o1, a1, _⟩, ⟨o2, a2, _⟩, o3, a3, _⟩ := R.r.wd.st.at
          simp only [List.mem_cons, List.not_mem_nil, or_false] at hm
          rcases hm with rfl | rfl | rfl
          · rw [this] at a1; cases a1
          · rw [this] at a2; cases a2
          · rw [this] at a3; cases a3
        · have nz : ¬ ∃ (i : Nat) (c' : Ce), Γ[i]? = some c' ∧ isMut c' = true ∧ σ[i]? = some (some (.ref p)) := fun z => by rw [(own z).1] at e0; cases e0
          rw [oth_at nz] at this
          have h4 := (of_noT (R.x.h p o hm e0)).1
          rw [this] at h4
          cases h4
  · rename_i d e
    refine h G (oth σ Γ H) σ Γ G H start _ e D' fun v G2 H2 s2 q2 => ?_
    obtain ⟨wd2, xs2, tb2⟩ := step s2
    exact hr d T hp v (noT G2) H2 (wd_noT wd2) xs2 tb2 q2.noT
  · exact hp.elim
end
end Mv
namespace Mv
open PySem L2 Evl LamX
section
variable {X : Cw} {s l c : Addr} {T T' : Int} {G H G' H' G1 H1 G2 H2 G0 H0 : Hp} {σ σ' : L2.St} {Γ Γ' : En}
variable {E : XK} {ad : Str → Addr} {te ta tb : TE} {fe : En → Re} {tt tu : TT} {wi : TI} {src : En → Ra} {g : TG} {st : Fs} {js vs : List Nat} {Fa Fb Fe F : WE} {FT FU : WB} {tas : TA} {FA : WA} {ts tz : TS} {Fs' Fu : WS} {fs : En → Rf}
def wSeq (F1 F2 : WS) : WS := fun Γ T nx rt => F1 Γ T (fun Γ1 T1 => F2 Γ1 T1 nx rt) rt
theorem w_seq {F1 F2 : WS} (h1 : Sws X ts F1) (h2 : Sws X tz F2) : Sws X (tSeq ts tz) (wSeq F1 F2) := fun s l c G0 H0 T σ Γ G H R nx rt hp D' hn hr =>
  h1 s l c G0 H0 T σ Γ G H R _ rt hp { D' with nx := tz D' } (fun Γ' T' h σ' G2 H2 R2 x => h2 s l c G0 H0 T' σ' Γ' G2 H2 R2 nx rt h D' (fun Γ3 T3 h3 σ3 G3 H3 R3 x3 => hn Γ3 T3 h3 σ3 G3 H3 R3 (x.trans x3)) hr) hr
def wAsg (F : WE) (st : Fs) : WS := fun Γ T nx _ => F Γ T fun d T1 => match st d Γ with
  | some Γ1 => nx Γ1 T1
  | none => False
theorem w_asg (he : Sw X te F) (hg : Sg g st js) (hi : X.i0 ∉ js) : Sws X (tAsg te g) (wAsg F st) := fun s l c G0 H0 T σ Γ G H R nx rt hp D' hn hr =>
  he s l c T σ Γ G H R.r _ hp _ fun d T1 h1 v G2 H2 R2 x2 q2 => by
    split at h1
    · rename_i Γ1 e
      refine hg σ Γ G2 H2 R2.r v d Γ1 q2 e _ fun σ3 RR l3 o3 m3 f3 => ?_
      refine hn Γ1 T1 h1 σ3 G2 H2 ⟨R2.go (RR _ _ (.refl _) R2.r) o3 m3 f3 hi, R.x.trans x2, fun i c' p ec mc ep => ?_⟩ x2.g
      obtain ⟨e1, e2⟩ := m3 i c' ec mc
      exact R.n i c' p e1 mc (e2 ▸ ep)
    · exact h1.elim
def wRet (F : WE) : WS := fun Γ T _ rt => F Γ T rt
theorem w_ret (he : Sw X te F) : Sws X (tRet te) (wRet F) := fun s l c G0 H0 T σ Γ G H R nx rt hp D' hn hr =>
  he s l c T σ Γ G H R.r _ hp _ fun d T1 h1 v G2 H2 R2 x2 q2 => hr d T1 h1 v G2 H2 R2.wd (R.x.trans x2) R2.tb q2
def wDrop (F : WE) : WS := fun Γ T nx _ => F Γ T fun _ T1 => nx Γ T1
def wIfS (FT : WB) (F1 F2 : WS) : WS := fun Γ T nx rt => FT Γ T fun b T1 => if b = true then F1 Γ T1 nx rt else F2 Γ T1 nx rt
theorem w_ifS {F1 F2 : WS} (ht : Swb X tt FT) (h1 : Sws X ts F1) (h2 : Sws X tz F2) : Sws X (tIfS tt ts tz) (wIfS FT F1 F2) := fun s l c G0 H0 T σ Γ G H R nx rt hp D' hn hr =>
  ht s l c T σ Γ G H R.r _ hp _ fun b T1 hb G2 H2 R2 x2 => by
    cases b with
    | true =>
      rw [if_pos rfl] at hb ⊢
      exact h1 s l c G0 H0 T1 σ Γ G2 H2 (R.sts R2 x2) nx rt hb D' (fun Γ3 T3 h3 σ3 G3 H3 R3 x3 => hn Γ3 T3 h3 σ3 G3 H3 R3 (x2.g.trans x3)) hr
    | false =>
      rw [if_neg (by decide)] at hb ⊢
      exact h2 s l c G0 H0 T1 σ Γ G2 H2 (R.sts R2 x2) nx rt hb D' (fun Γ3 T3 h3 σ3 G3 H3 R3 x3 => hn Γ3 T3 h3 σ3 G3 H3 R3 (x2.g.trans x3)) hr
def wNext : WS := fun Γ T nx _ => nx Γ T
theorem w_next : Sws X tNext wNext := fun s l c G0 H0 T σ Γ G H R nx rt hp D' hn hr => hn Γ T hp σ G H R (.refl G)
def wFrz (k : Nat → Bool) (F : WS) : WS := fun Γ T nx rt => F (lockL k Γ) T nx rt
def wApp (i : Nat) (F : WE) : WS := fun Γ T nx _ => match Γ[i]? with
  | some (.ml ds) => F Γ T fun d T1 => small ds.length = true ∧ nx (Γ.set i (.ml (ds ++ [d]))) T1
  | _ => False
theorem RelWS.setD {v : V} {d : D} {j : Nat} (R : RelWS X s l c G0 H0 T G H σ Γ) (q : Dq G v d) (hj : X.i0 ≠ j) : RelWS X s l c G0 H0 T G H (σ.set j (some v)) (Γ.set j (.d d)) := by
  refine ⟨⟨R.r.r.set q, R.r.wd, by rw [List.getElem?_set_ne (fun z => hj z.symm)]; exact R.r.st, fun i c' p e mc ep => ?_, R.r.nt, R.r.tb, R.r.z⟩, R.x, fun i c' p e mc ep => ?_⟩
  · rcases set_at e with ⟨rfl, hl, rfl⟩ | ⟨ne, e⟩
    · cases mc
    · rw [List.getElem?_set_ne (fun z => ne z.symm)] at ep
      exact R.r.ap i c' p e mc ep
  · rcases set_at e with ⟨rfl, hl, rfl⟩ | ⟨ne, e⟩
    · cases mc
    · rw [List.getElem?_set_ne (fun z => ne z.symm)] at ep
      exact R.n i c' p e mc ep
end
def bodyW (F : WS) (k n : Nat) (ds : List D) (T : Int) (post : D → Int → Prop) : Prop := ds.length = k ∧ ∀ s : Addr, F (Ce.fx (.ref s) :: (ds.map Ce.d ++ List.replicate n .un)) T (fun _ T' => post .none T') post
def X0 (TL : List (Addr × Str)) : Cw := ⟨TL, 0, fun _ => none⟩
theorem startW {TL : List (Addr × Str)} {N : List Str} {k n : Nat} {ts : TS} {F : WS} {G H : Hp} {s l c : Addr} {T : Int} {vs : List V} {ds : List D} {post : D → Int → Prop} {Q : VK} (hN : N.length = 1 + k + n) (hs : Sws (X0 TL) ts F) (h : DqA G vs ds) (wd : Wd G H s l c T) (nt : ∀ (b : Addr) (ps : Array Value), G b ≠ some (.tbl ps)) (tb : Tabs TL H) (hb : bodyW F k n ds T post)
    (q : ∀ z T', post z T' → ∀ v G' H', Wd G' H' s l c T' → StN s l c G H G' H' → Tabs TL H' → Dq G' v z → Q v H') : ts { nx := fun _ H' => Q .non H', rt := Q } (L2.start N (.ref s :: vs)) H := by
  obtain ⟨hk, hF⟩ := hb
  have lv : vs.length = k := h.len.trans hk
  have e : L2.start N (.ref s :: vs) = some (.ref s) :: (vs.map some ++ List.replicate n none) := by
    unfold L2.start
    rw [List.length_cons, show N.length - (vs.length + 1) = n by omega]; rfl
  rw [e]
  have nm : ∀ {i : Nat} {c' : Ce}, (Ce.fx (.ref s) :: (ds.map Ce.d ++ List.replicate n .un))[i]? = some c' → isMut c' = false ∧ CellOk G H ((some (.ref s) :: (vs.map some ++ List.replicate n none))[i]?) c' := fun {i c'} e => by
    cases i with
    | zero => cases e; exact ⟨rfl, rfl⟩
    | succ i =>
      rw [List.getElem?_cons_succ] at e ⊢
      by_cases hi : i < ds.length
      · rw [List.getElem?_append_left (by rw [List.length_map]; exact hi), List.getElem?_map] at e
        obtain ⟨d, hd, rfl⟩ := Option.map_eq_some_iff.mp e
        obtain ⟨v, hv, q⟩ := h.getD hd
        refine ⟨rfl, v, ?_, q⟩
        rw [List.getElem?_append_left (by rw [List.length_map, h.len]; exact hi), List.getElem?_map, hv]; rfl
      · rw [List.getElem?_append_right (by rw [List.length_map]; omega), List.getElem?_replicate] at e
        split at e
        · cases e; exact ⟨rfl, trivial⟩
        · cases e
  have R : RelWS (X0 TL) s l c G H T G H (some (.ref s) :: (vs.map some ++ List.replicate n none)) (Ce.fx (.ref s) :: (ds.map Ce.d ++ List.replicate n .un)) := by
    refine ⟨⟨⟨wd.w, by simp [h.len], fun i c' e => (nm e).2, fun i j p ci cj e1 _ m1 _ _ _ => ?_⟩, wd, rfl, fun i c' p e m _ => ?_, nt, tb, fun b o e => nomatch e⟩, .refl fun b o e => noT_at (wd.w _ _ e) fun ps z => nt b ps (z ▸ e), fun i c' p e m _ => ?_⟩
    · rw [(nm e1).1] at m1; cases m1
    · rw [(nm e).1] at m; cases m
    · rw [(nm e).1] at m; cases m
  exact hs s l c G H T _ _ G H R _ _ (hF s) _ (fun Γ' T' h σ' G2 H2 R2 x => q _ T' h .non G2 H2 R2.r.wd R2.x R2.r.tb .non) fun d T' h v G2 H2 wd2 x2 tb2 q2 => q d T' h v G2 H2 wd2 x2 tb2 q2
end Mv
namespace Mv
open PySem L2 Evl LamX
def SpBegun (K : PySem.W.Frag) : Sp := fun vs H Q _ => ∃ (G : Hp) (a : Addr) (ns : List Int), vs = [.ref a] ∧ Ex G H ∧ SqL K H a (ns.map V.int) ∧ ns.length ≤ 1000 ∧ ∀ s l c H', Wd G H' s l c 0 → Ex H H' → Q (.ref s) H'
def W__law_draw (ds : List D) (T : Int) (post : D → Int → Prop) : Prop := ∃ n : Int, ds = [.int n] ∧ 0 < n ∧ n < 1073741824 ∧ T < 1000000000000 ∧ ∀ r, 0 ≤ r → r < n → post (.int r) (T + 1)
theorem pri_draw {TL : List (Addr × Str)} (vs : List V) (H : Hp) (Q : VK) (E : XK) (h : SpW TL W__law_draw vs H Q E) : SpDraw vs H Q E := by
  obtain ⟨G, s, l, c, T, vs', ds, post, rfl, hv, wd, nt, tb, ⟨n, rfl, n1, n2, hT, hp⟩, k⟩ := h
  cases hv with
  | @cons v0 vs d0 ds hv0 hn =>
    cases hn
    cases hv0
    exact ⟨G, s, l, c, T, n, rfl, wd, n1, n2, hT, fun r H' r0 r1 wd' ss => k _ _ (hp r r0 r1) _ (noT G) H' (wd_noT wd') (StN.of nt ss wd') (tabs_sts tb wd.st ss) (.int _)⟩
end Mv
namespace Mv
open PySem L2 Evl LamX
section
variable {X : Cw} {s l c : Addr} {T T' : Int} {G H G' H' G1 H1 G2 H2 G0 H0 : Hp} {σ : L2.St} {Γ Γ' : En} {K : PySem.W.Frag}
variable {E : XK} {ad : Str → Addr} {te ta tb : TE} {fe : En → Re} {tt tu : TT} {wi : TI} {src : En → Ra} {g : TG} {st : Fs} {js vs : List Nat} {Fa Fb Fe F : WE} {FT FU : WB} {tas : TA} {FA : WA}
def wIL (F : WE) : WA := fun Γ T post => F Γ T fun d T1 => match d with
  | .list as => post as T1
  | _ => False
def wIT (F : WE) : WA := fun Γ T post => F Γ T fun d T1 => match d with
  | .tuple as => post as T1
  | _ => False
def wR1 (FA : WA) : WA := fun Γ T post => FA Γ T fun ds T1 => match ds with
  | [.int j] => small j.toNat = true ∧ -1000000 ≤ j ∧ post (upFrom 0 j.toNat) T1
  | _ => False
def wZ2 (k1 k2 : Bool) (FA : WA) : WA := fun Γ T post => FA Γ T fun ds T1 => match ds with
  | [x, y] => match sqOf k1 x, sqOf k2 y with
    | some as, some bs => post (zipT as bs) T1
    | _, _ => False
  | _ => False
def onlyA (H : Hp) (a : Addr) : Hp := fun b => if b = a then H a else none
theorem onlyA_ex {H : Hp} {a : Addr} : Ex (onlyA H a) H := fun b o q => by
  unfold onlyA at q
  split at q
  · rename_i e; rw [e]; exact q
  · cases q
def XL (TL : List (Addr × Str)) (H : Hp) (a : Addr) : Cw := ⟨TL, 1, noT (onlyA H a)⟩
theorem XL_seq {TL : List (Addr × Str)} {H : Hp} {a : Addr} {ns : List Int} (hS : SqL K H a (ns.map V.int)) : ∀ H', Ex (XL TL H a).Z H' → SqL K H' a (ns.map V.int) := fun H' e => by
  have g : onlyA H a a = H a := if_pos rfl
  rcases hS with (z | ⟨o, z⟩) | z
  · exact .inl (.inl (e _ _ (noT_at (g.trans z) fun _ z => by cases z)))
  · exact .inl (.inr ⟨o, e _ _ (noT_at (g.trans z) fun _ z => by cases z)⟩)
  · exact .inr z
theorem law_go {TL : List (Addr × Str)} {N : List Str} {n : Nat} {ts : TS} {F : WS} {H : Hp} {a : Addr} {ns : List Int} {Q : VK} {E' : XK} (hN : N.length = 2 + n) (hs : Sws (XL TL H a) ts F) (hS : SqL K H a (ns.map V.int)) (hlen : ns.length ≤ 63) (hTL : ∀ p ∈ TL, H p.1 = some (.tbl #[]))
    (hF : ∀ s : Addr, F (Ce.fx (.ref a) :: Ce.fx (.ref s) :: List.replicate n .un) 0 (fun _ _ => False) (fun d _ => d = .bool true)) (q : ∀ H', Q (.bl true) H') :
    tSeq (tAsg (tCall (SpBegun K) [] E' (tCons (tVar 0) tNil)) (gName 1)) ts { nx := fun _ H' => Q .non H', rt := Q } (L2.start N [.ref a]) H := by
  have e : L2.start N [.ref a] = some (.ref a) :: none :: List.replicate n none := by
    unfold L2.start
    rw [List.length_singleton, show N.length - 1 = n + 1 by omega, List.replicate_succ]; rfl
  rw [e]
  refine ⟨.ref a, rfl, onlyA H a, a, ns, rfl, onlyA_ex, hS, by omega, fun s l c H1 wd1 e1 => ?_⟩
  dsimp only [gName]
  have ex00 : Ex (noT (onlyA H a)) (onlyA H a) := fun b o q => (of_noT q).1
  have wd := wd_noT wd1
  have nm : ∀ {i : Nat} {c' : Ce}, (Ce.fx (.ref a) :: Ce.fx (.ref s) :: List.replicate n Ce.un)[i]? = some c' → isMut c' = false ∧ CellOk (noT (onlyA H a)) H1 ((some (.ref a) :: some (.ref s) :: List.replicate n none : L2.St)[i]?) c' := fun {i c'} e => by
    match i with
    | 0 => cases e; exact ⟨rfl, rfl⟩
    | 1 => cases e; exact ⟨rfl, rfl⟩
    | i + 2 =>
      rw [List.getElem?_cons_succ, List.getElem?_cons_succ, List.getElem?_replicate] at e
      split at e
      · cases e; exact ⟨rfl, trivial⟩
      · cases e
  have R : RelWS (XL TL H a) s l c (noT (onlyA H a)) H1 0 (noT (onlyA H a)) H1 (some (.ref a) :: some (.ref s) :: List.replicate n none) (Ce.fx (.ref a) :: Ce.fx (.ref s) :: List.replicate n Ce.un) := by
    refine ⟨⟨⟨wd.w, by simp, fun i c' e => (nm e).2, fun i j p ci cj e1 _ m1 _ _ _ => ?_⟩, wd, rfl, fun i c' p e m _ => ?_, fun b ps z => (of_noT z).2 ps rfl, fun p hp => TabS.nil (e1 _ _ (hTL p hp)), .refl _⟩, .refl fun b o e => noT_at (wd.w _ _ e) fun ps z => (of_noT e).2 ps (z ▸ rfl), fun i c' p e m _ => ?_⟩
    · rw [(nm e1).1] at m1; cases m1
    · rw [(nm e).1] at m; cases m
    · rw [(nm e).1] at m; cases m
  exact hs s l c _ _ 0 _ _ _ _ R _ _ (hF s) _ (fun _ _ z => z.elim) fun d T' h v G2 H2 _ _ _ q2 => by
    rw [h] at q2
    cases q2
    exact q _
end
end Mv
namespace Mv
open PySem PySem.Spec L2 PyProof.Rows
def CauO (cls : Value) (d : Option Addr) (a : Addr) : HO := .ext fun h => ∃ (oe : Obj) (vs : Array Value), h.get? a = some oe ∧ Zc cls d oe ∧ oe.data = .fields vs
section
variable {X : Cx} {pins : List (Addr × Obj)} {σ : L2.St} {H : Hp} {s : Shared} {a : Addr} {oe : Obj}
theorem suite_pins (J : Inv (X.suite a ((a, oe) :: (X.pn ++ pins))) [] σ H s) (ok : X.Ok) : Inv X ((a, oe) :: pins) σ H s := by
  refine ⟨ok, J.os, J.bare, J.base, J.loc, J.cell, J.free, J.freeC, fun q hq => J.pin q ?_, J.hok, J.len⟩
  show q ∈ ((a, oe) :: (X.pn ++ pins)) ++ []
  rw [List.append_nil]
  rcases List.mem_append.mp hq with z | z
  · exact List.mem_cons_of_mem _ (List.mem_append_left _ z)
  · rcases (List.mem_cons.mp z) with z | z
    · rw [z]; exact List.mem_cons_self ..
    · exact List.mem_cons_of_mem _ (List.mem_append_right _ z)
theorem keep_exc {cls : Value} {d : Option Addr} (J : Inv X ((a, oe) :: pins) σ H s) (z : Zc cls d oe) (hd : ∃ vs, oe.data = .fields vs) (newAt : X.s_0.heap.get? a = none) (np : ∀ q ∈ X.pn ++ pins, q.1 ≠ a) : Inv X pins σ (upd H a (CauO cls d a)) s := by
  obtain ⟨vs, hv⟩ := hd
  obtain ⟨ga, na, nl, nfs, ncell⟩ := J.pin (a, oe) (List.mem_append_right _ (List.mem_cons_self ..))
  have stay : ∀ {b : Addr}, b ≠ a → upd H a (CauO cls d a) b = H b := fun e => upd_ne e
  have old : ∀ {b : Addr} {u : HO}, H b = some u → upd H a (CauO cls d a) b = some u := fun e => (upd_ne (ne_of_none e na)).trans e
  refine ⟨J.ok, J.os, J.bare, ⟨J.base.keep, J.base.slot, fun b o q n x => ?_, J.base.there, fun b xs q => old (J.base.tups b xs q), fun b o u q => old (J.base.frzs b o u q), fun b ps q => ?_⟩, J.loc, J.cell, ?_, fun x c q => ?_, fun q hq => ?_, ?_, J.len⟩
  · rw [stay (fun z => by rw [z, newAt] at q; cases q)]
    exact J.base.free b o q n x
  · obtain ⟨m, r⟩ := J.base.tbls b ps q
    exact ⟨m, old r⟩
  · rw [stay (fun z => nl z.symm)]; exact J.free
  · rw [stay ?_]
    · exact J.freeC x c q
    · intro e
      obtain ⟨w', o, r1, r2⟩ := J.cell x c q
      rw [e, ga] at r1
      cases r1
      exact ncell _ r2
  · obtain ⟨r1, r2, r3⟩ := J.pin q (by
      rcases List.mem_append.mp hq with z | z
      · exact (List.mem_append_left _ z)
      · exact List.mem_append_right _ (List.mem_cons_of_mem _ z))
    exact ⟨r1, by rw [stay (np q hq)]; exact r2, r3⟩
  · exact J.hok.laidN (fun _ _ q => q) na ⟨⟨oe, vs, ga, z, hv⟩, ⟨oe, ga⟩, fun _ _ ⟨o, v, q, r⟩ k => ⟨o, v, k o q, r⟩⟩
end
def wKeep (K : PySem.W.Frag) (c : Value) (i : Nat) (ts : Addr → Value → Option Addr → TS) (Wo : WX) (D : Ends) : WX := fun cls d σ H => ∃ b, PySem.W.exmOne K cls c = some b ∧
  (b = true → ∀ a, H a = none → ts a cls d { nx := fun τ H' => D.nx (τ.set i none) (upd H' a (CauO cls d a)), rt := fun v H' => D.rt v (upd H' a (CauO cls d a)), bk := fun τ H' => D.bk (τ.set i none) (upd H' a (CauO cls d a)), ct := fun τ H' => D.ct (τ.set i none) (upd H' a (CauO cls d a)) } (σ.set i (some (.ref a))) H) ∧
  (b = false → Wo cls d σ H)
section
variable {X : Cx} {x n : Str} {c : Value} {i : Nat} {body suite : List Stmt} {b₀ : Stmt} {pa pb pc : Pos} {tb : WX → TS} {ts : Addr → Value → Option Addr → TS} {Wo : WX}
theorem ps_try_keep (hst : X.stack = X.env :: X.outer) (hfr : X.env.frame = some X.env.locals) (hex : X.ex = []) (nd : X.N.Nodup) (ix : X.N[i]? = some n) (own : X.env.kindOf n = some .local) (nm : Names X x c) (tk : Takes X Wo)
    (bodyR : ∀ (W : WX) (pn : List (Addr × Obj)) (xe : Value → Shared → Prop), Takes (X.tr pn xe) W → PassesOwn (model X.prog X.w) X.A X.env xe → PSs (X.tr pn xe) body (tb W))
    (hu : ∀ (a : Addr) (oe : Obj) (cls : Value) (d : Option Addr) (pn : List (Addr × Obj)), Zc cls d oe → (∃ vs, oe.data = .fields vs) → PSs (X.suite a ((a, oe) :: pn)) (b₀ :: suite) (ts a cls d)) :
    PS X (.Try body [.ExceptHandler (some (.Name x pa)) (some n) (b₀ :: suite) pb] [] [] pc) (fun D σ H => tb (wKeep X.K c i ts Wo D) D σ H) := by
  refine ⟨fun pins s σ H D I h => wpAny_Try_except ?_⟩
  have good := I.ok
  have frm : X.A.frames = some (X.env :: X.outer) := by rw [good.frames, hst]
  refine wpAny_mono ((bodyR (wKeep X.K c i ts Wo D) (X.pn ++ pins) _ (fun u s' xx => ?_) PassesOwn.looking).run [] s σ H D (I.toTry _) h) (fun f s1 hsp => ?_) (fun e s1 he => he)
  · obtain ⟨a, B, sI, pins', τ, Hc, cls, d, rfl, Jt, ground, up, sky, na, os, ag, b, hb1, yes, no⟩ := xx
    have J : Inv X pins τ Hc sI := Jt.ofTry good
    have sky2 : Sky B (X.env :: X.outer) a (Zc cls d) X.env.locals s'.heap := by rw [← hst]; exact sky
    show (wpAny (model X.prog X.w) X.A (noteFrame (.ref a) X.env) _ _ _)
    refine Sky.land Zc.steady frm hfr sky2 fun g fl up2 => ?_
    have J2 : Inv X pins τ Hc { s' with heap := g } := J.landed ground fl.1 (up.trans up2) os ag
    obtain ⟨oe, vs, ge, ze, de⟩ := fl.there
    have out : a ∉ frs (X.env :: X.outer) := fun hm => by
      obtain ⟨_, o', e', hnf⟩ := fl.2.2.1.mem hm
      rw [ge] at e'
      cases e'
      exact hnf _ de
    have nL : a ≠ X.env.locals := fun z => out (List.mem_filterMap.mpr ⟨X.env, List.mem_cons_self, by rw [hfr, z]⟩)
    have nFs : a ∉ X.fs := fun hm => by
      obtain ⟨e, he, q⟩ := (List.mem_filterMap.mp hm)
      exact out (List.mem_filterMap.mpr ⟨e, List.mem_cons_of_mem _ he, q⟩)
    have nI : sI.heap.get? a = none := by
      cases e : sI.heap.get? a with
      | none => rfl
      | some o =>
        have z := ground a o e (by rw [hst]; exact out)
        rw [fl.2.1] at z
        cases z
    have newAt : X.s_0.heap.get? a = none := by
      cases e : (X.s_0.heap.get? a) with
      | none => rfl
      | some o =>
        obtain ⟨o', z⟩ := J.base.there a o e (by rw [hex]; exact List.not_mem_nil)
        rw [nI] at z
        cases z
    have np : ∀ q ∈ X.pn ++ pins, q.1 ≠ a := fun q hq e => by
      have z := (J.pin q hq).1
      rw [e, nI] at z
      cases z
    have U := J2.suite ge de na nL nFs
    refine (wpAny_handleBy_cons (codeAny_handlers_test ?_) (by intro q; cases q))
    have TT : PySem.W.Looks (model X.prog X.w) g (typeOf (.ref a)) cls := fun A Q E s k q => wpAny_typeOf_ref (k _ _ ge) (by rw [ze.1]; exact q)
    have MM := PySem.W.exm_one (M := model X.prog X.w) (J2.kIn) TT hb1
    have named : ∀ {Q : Value → Shared → Prop} {E : Value → Shared → Prop}, Q c { s' with heap := g } → wpAny (model X.prog X.w) (X.A.mark (some (.ref a))) (eval (.Name x pa) X.env) Q E { s' with heap := g } := fun {Q E} q => by
      obtain ⟨hg, hdbg, m | ⟨m, v, nn⟩⟩ := nm
      · exact ld_glob (X := X.suite a ((a, oe) :: (X.pn ++ pins))) U hg m q hdbg
      · exact ld_blt (X := X.suite a ((a, oe) :: (X.pn ++ pins))) U hg m v q nn hdbg
    refine named (MM.here ?_)
    cases b with
    | false =>
      show (wpAny _ X.A (handleBy (.ref a) X.env []) _ _ _)
      refine wpAny_handleBy_nil ?_
      obtain ⟨_, _, _, oo, us, T, oT, tt, ho, hz, hd, h1, _⟩ := id fl
      unfold PySem.passOn
      refine wpAny_bind (wpAny_field ho hd h1 ?_)
      (rw [if_neg (show ¬ ((Value.ref T == Value.none) = true) from by simp)])
      have away : wpAny (model X.prog X.w) X.A (setFlight (.ref a) X.env.frame) (fun _ s4 => wpAny (model X.prog X.w) X.A (throw (.ref a) : Sem Flow) (SP X pins D) X.xe s4) X.xe { s' with heap := g } := by
        rw [hfr]
        refine HandSPX.setFlight_upZ fl fun g4 held up4 => wpAny_throw (tk _ _ ?_)
        exact ⟨a, B, sI, pins, τ, Hc, cls, d, rfl, J, ground, (up.trans up2).trans up4, .inr (.inr (by rw [hst]; exact held)), na, os, ag, no rfl⟩
      first
        | exact wpAny_bind (wpAny_pure (wpAny_bind away))
        | exact wpAny_bind away
    | true =>
      refine codeAny_handlers_suite_as ?_
      refine HandSPX.lands_againZ fl fun g4 fl4 up4 => ?_
      have J4 : Inv X pins τ Hc { s' with heap := g4 } := J.landed ground fl4.1 ((up.trans up2).trans up4) os ag
      obtain ⟨o4, vs4, ge4, ze4, de4⟩ := fl4.there
      refine store_ok (X := X.suite a ((a, o4) :: (X.pn ++ pins))) (v := .ref a) (J4.suite ge4 de4 na nL nFs) nd ix (.inl own) rfl (fun s5 U5 => ?_) (.inr own)
      refine wpAny_mono ((hu a o4 cls d (X.pn ++ pins) ze4 ⟨_, de4⟩).run [] s5 _ Hc _ U5 (yes rfl a na)) (fun f s6 hsp => ?_) (fun _ _ z => False.elim z)
      have last : ∀ {τ6 : L2.St} {H6 : Hp} {Q : Shared → Prop}, Inv (X.suite a ((a, o4) :: (X.pn ++ pins))) [] τ6 H6 s6 → (∀ s7, Inv X pins (τ6.set i none) (upd H6 a (CauO cls d a)) s7 → Q s7) →
          wpAny (model X.prog X.w) X.A (do bindName X.env n .none; unbindBehindTheSuite X.env n pb) (fun _ s7 => Q s7) X.xe s6 := fun U6 hq => gone_ok (pins := (a, o4) :: pins) (suite_pins U6 good) nd ix own fun s7 J7 => hq s7 (keep_exc J7 ze4 ⟨_, de4⟩ newAt np)
      cases f with
      | next =>
        obtain ⟨τ6, H6, U6, q6⟩ := hsp
        exact last U6 fun s7 J7 => ⟨_, _, J7, q6⟩
      | brk =>
        obtain ⟨τ6, H6, U6, q6⟩ := hsp
        exact last U6 fun s7 J7 => ⟨_, _, J7, q6⟩
      | cont =>
        obtain ⟨τ6, H6, U6, q6⟩ := hsp
        exact last U6 fun s7 J7 => ⟨_, _, J7, q6⟩
      | ret u =>
        obtain ⟨v6, τ6, H6, U6, r6, q6⟩ := hsp
        exact last U6 fun s7 J7 => ⟨_, _, _, J7, r6, q6⟩
  cases f with
  | next => exact wpAny_execs_nil (hsp.elim fun τ h => h.elim fun H' h => ⟨τ, H', h.1.ofTry good, h.2⟩)
  | brk => exact hsp.elim fun τ h => h.elim fun H' h => ⟨τ, H', h.1.ofTry good, h.2⟩
  | cont => exact hsp.elim fun τ h => h.elim fun H' h => ⟨τ, H', h.1.ofTry good, h.2⟩
  | ret u => exact hsp.elim fun v h => h.elim fun τ h => h.elim fun H' h => ⟨v, τ, H', h.1.ofTry good, h.2⟩
end
def rIsK (K : PySem.W.Frag) (C : Addr) : List V → Hp → VK → Prop := fun xs H Q => ∃ (a : Addr) (cv : Value) (c : V) (b : Bool), xs = [.ref a, c] ∧ H a = some (CauO (.ref C) none a) ∧ ClsV c cv ∧ PySem.W.kitOne K (.ref C) cv = some b ∧ Q (.bl b) H
theorem call_isK {X : Cx} {C : Addr} (B : L2.ExcC X.K C) : CallR X (.builtin "isinstance") (rIsK X.K C) := by
  intro pins; intro s σ H xs us Q I r h
  obtain ⟨a, cv, c, b, rfl, ha, hc, e, q⟩ := h
  obtain ⟨ua, ub, rfl, r1, r2⟩ := vals2 r
  obtain rfl : ua = Value.ref a := r1
  have e2 := hc.eq r2
  subst e2
  obtain ⟨⟨oe, vs, hg, hz, hv⟩, _, _⟩ := I.hok a _ ha
  have J : PySem.W.InstAt s.heap a oe C none := by
    obtain ⟨oc, od, o3, o4⟩ := oe
    obtain ⟨h1, h2⟩ := hz
    dsimp only at h1 h2 hv
    subst h1 h2 hv
    exact ⟨hg, rfl, rfl, trivial⟩
  exact PySem.W.kia_one (PySem.W.handS_kitx_exc B.hg B.hk B.hs B.hd B.ha B.hn B.ht B.hm) I.kIn J e (fun z => nomatch z) fun tk => ⟨.bl b, H, I.kept (t' := tk) fun _ _ z => z, rfl, q⟩
end Mv
namespace Mv
open PySem L2 Evl LamX
theorem takes_len {X : Cx} {W : WX} (t : Takes X W) : Takes X (fun cls d σ H => σ.length = X.N.length → W cls d σ H) := fun u s' ⟨a, B, sI, pins, σ, H, cls, d, e, I, nb, up, sky, na, os, ag, w⟩ =>
  t u s' ⟨a, B, sI, pins, σ, H, cls, d, e, I, nb, up, sky, na, os, ag, w I.len⟩
def TTc (K : PySem.W.Frag) (CS : Addr) : (XK → Hp → VK → Prop) → Hp → VK → Prop := fun tl H Q =>
  tl (fun cls d H' => ∃ b, PySem.W.exmOne K cls (.ref CS) = some b ∧ (b = true → ∀ a, H' a = none → Q (.ref a) (upd H' a (CauO cls d a))) ∧ (b = false → False)) H fun _ H' => Q .non H'
structure ErrC (K : PySem.W.Frag) (mg : Str → Option Value) (C0 : Addr) (x : Str) (C : Addr) : Prop where
  m : mg x = some (.ref C)
  i : L2.ExcC K C
  e : PySem.W.exmOne K (.ref C) (.ref C0) = some true
  k : PySem.W.kitOne K (.ref C) (.ref C) = some true
section
variable {X : Cw} {s l c : Addr} {T T' : Int} {G H G' H' G1 H1 G2 H2 G0 H0 : Hp} {σ : L2.St} {Γ Γ' : En} {K : PySem.W.Frag}
theorem RelW.extN (R : RelW X s l c T G H σ Γ) (e : ExtN H H1) (tb : Tabs X.TL H1) : RelW X s l c T G H1 σ Γ ∧ StN s l c G H G H1 := by
  have w1 : Ex G H1 := fun b o q => e b o (R.r.w b o q) fun ps z => R.nt b ps (z ▸ q)
  have st1 : StAt H1 s l c T := by
    obtain ⟨⟨lg, cs, left, turn, h1, h2, h3, h⟩, q⟩ := R.wd.st
    exact ⟨⟨lg, cs, left, turn, e _ _ h1 (fun _ z => by cases z), e _ _ h2 (fun _ z => by cases z), e _ _ h3 (fun _ z => by cases z), h⟩, q⟩
  refine ⟨⟨⟨w1, R.r.len, fun i c' ec => ?_, R.r.sep⟩, ⟨w1, st1, R.wd.gs, R.wd.gl, R.wd.gc⟩, R.st, R.ap, R.nt, tb, R.z⟩, ⟨.refl G, fun b o hb q => ?_, fun b hb q => ?_, fun b o q => ?_, fun b h _ _ => h⟩⟩
  · have hc := R.r.c i c' ec
    cases c' with
    | un => trivial
    | fx v => exact hc
    | d z => exact hc
    | ml ds =>
      obtain ⟨p, e1, m⟩ := hc
      obtain ⟨us, e2, q⟩ := m.at_
      exact ⟨p, e1, m.g, us, e _ _ e2 (fun _ z => by cases z), q⟩
    | md es =>
      obtain ⟨p, e1, m⟩ := hc
      obtain ⟨us, e2, q⟩ := m.at_
      exact ⟨p, e1, m.g, us, e _ _ e2 (fun _ z => by cases z), q⟩
  · obtain ⟨e1, e2⟩ := of_noT q
    exact noT_at (e _ _ e1 e2) e2
  · obtain ⟨⟨lg, cs, left, turn, f1, f2, f3, _⟩, _⟩ := st1
    simp only [List.mem_cons, List.not_mem_nil, or_false] at hb
    rcases hb with z | z | z
    · rw [z, noT_at f1 fun _ z => by cases z]; exact ⟨(fun y => nomatch y), fun _ xs y => nomatch y⟩
    · rw [z, noT_at f2 fun _ z => by cases z]; exact ⟨(fun y => nomatch y), fun _ xs y => nomatch y⟩
    · rw [z, noT_at f3 fun _ z => by cases z]; exact ⟨(fun y => nomatch y), fun _ xs y => nomatch y⟩
  · exact noT_at (w1 _ _ q) fun ps z => R.nt b ps (z ▸ q)
variable {ad : Str → Addr} {fas : En → Ra} {tas : TA}
def raisesB (x : Str) (g : List D → Re) (fas : En → Ra) (Γ : En) : Prop := bndA (fas Γ) g = some (.exc x)
end
end Mv
namespace Mv
open PySem L2 Evl LamX
theorem pe_cal0 {X : Cx} {CX : CXT} {k : Nat} {x : Str} {sp : Sp} {E : XK} {p pos : Pos} (C : Cal X.prog X.w X.K X.mg X.base CX k x [] sp) (hr : Room k X.A) (hx : Passes CX X E) (hg : Gl X x := by rfl) (hdb : (x == ("__debug__" : Str)) = false := by decide) :
    PE X (.Call (.Name x p) [] [] pos) (tCall sp [] E tNil) := by
  obtain ⟨f, fd, F, hm, hk, hb⟩ := C.ex
  exact pe_call0 F hr hg hm hk hb .nil hx hdb
structure CalK (P : Program) (w : World) (K : PySem.W.Frag) (mg : Str → Option Value) (base : Heap) (CX : CXT) (k : Nat) (x : Str) (ps : List Str) (sp : Sp) : Prop where
  ex : ∃ (f : Addr) (fd : FuncData), FnOk P w K mg base CX k f fd ps sp ∧ mg x = some (.ref f) ∧ PySem.W.keepIn K (.ref f) = true ∧ ∀ ws : List Value, ws.length = ps.length → bindArgs fd ⟨[], ps.zip ws⟩ = pure (ps.zip ws)
theorem pe_calk0 {X : Cx} {CX : CXT} {k : Nat} {x : Str} {ps : List Str} {sp : Sp} {E : XK} {p pos : Pos} {kws : List Keyword} {t : TA} (C : CalK X.prog X.w X.K X.mg X.base CX k x ps sp) (hr : Room k X.A) (hx : Passes CX X E) (ha : PK X kws t)
    (hg : Gl X x := by rfl) (hall : (backToKw pos (keywordEach kws X.env)).all (·.1.isSome) = true := by rfl) (hks : (backToKw pos (keywordEach kws X.env)).filterMap (·.1) = ps := by rfl) (hdb : (x == ("__debug__" : Str)) = false := by decide)
    (hpl : ((backTo pos (starEach [] X.env)).any (·.1) || (backToKw pos (keywordEach kws X.env)).any (·.1.isNone)) = false := by rfl) : PE X (.Call (.Name x p) [] kws pos) (tCall sp [] E t) := by
  obtain ⟨f, fd, F, hm, hk, hb⟩ := C.ex
  refine ⟨fun pins s σ H Q I h => wpAny_Call_Name_kw (ld_glob I hg hm ?_ hdb)⟩
  refine PySem.W.callWith_KW0 (h₀ := X.base) I.ok.mod.kin hk hall (thn (ha.run pos pins s σ H _ I h) fun ws s2 ⟨zs, H2, I2, rz, q2⟩ => ⟨I2.kIn, ?_⟩) hpl
  rw [hks]
  have q2 : sp zs H2 Q E := by
    have z : sp (zs ++ []) H2 Q E := q2
    rwa [List.append_nil] at z
  have hl : ws.length = ps.length := by rw [← rz.length]; exact F.len _ _ _ _ q2
  refine wpAny_call (codeAny_mono (F.run X.A X.stack s2 H2 ⟨[], ps.zip ws⟩ ws zs Q E hr I2.env0 (.of_eq (hb ws hl)) rz q2) fun r s' hq => ?_)
  cases r with
  | error e => exact hx pins σ H2 s2 e s' I2 hq
  | ok fl =>
    cases fl with
    | ret u => exact I2.after hq
    | next => exact False.elim hq
    | brk => exact False.elim hq
    | cont => exact False.elim hq
theorem passF {P : Program} {w : World} {X : Cx} : Passes (L2.CX P w) X (fun _ _ _ => False) := fun _ _ _ _ _ _ _ ⟨_, _, _, _, _, _, _, _, _, _, _, _, z⟩ => z.elim
section
variable {X : Cw} {s l c : Addr} {T T' : Int} {G H G' H' G1 H1 G2 H2 G0 H0 : Hp} {σ : L2.St} {Γ Γ' : En} {K : PySem.W.Frag}
variable {E : XK} {ad : Str → Addr} {te ta tb : TE} {fe : En → Re} {Fa Fb Fe F : WE}
theorem RelWS.setM {p : Addr} {ds : List D} {j : Nat} (R : RelWS X s l c G0 H0 T G H σ Γ) (st : Stp G H G2 H2) (hp : H p = none) (m : ML G2 H2 p ds) (hj : X.i0 ≠ j) : RelWS X s l c G0 H0 T (noT G2) H2 (σ.set j (some (.ref p))) (Γ.set j (.ml ds)) := by
  have R1 := R.r.sts (st.toS (S := [s, l, c])) (R.r.wd.stp st)
  have x1 := R.x.trans (R.r.toN st)
  obtain ⟨us, e2, q⟩ := m.at_
  have apart : ∀ {i : Nat} {c' : Ce}, Γ[i]? = some c' → isMut c' = true → σ[i]? ≠ some (some (.ref p)) := fun {i c'} e mc z => by
    have := R.r.r.c i c' e
    cases c' with
    | ml d => obtain ⟨p2, e2, m2⟩ := this; rw [z] at e2; cases e2; obtain ⟨us, e3, _⟩ := m2.at_; rw [hp] at e3; cases e3
    | md d => obtain ⟨p2, e2, m2⟩ := this; rw [z] at e2; cases e2; obtain ⟨us, e3, _⟩ := m2.at_; rw [hp] at e3; cases e3
    | _ => cases mc
  have old0 : noT H0 p = none := by
    cases e : noT H0 p with
    | none => rfl
    | some o =>
      by_cases hb : p ∈ [s, l, c]
      · obtain ⟨⟨lg, cs, left, turn, f1, f2, f3, _⟩, _⟩ := R.r.wd.st
        simp only [List.mem_cons, List.not_mem_nil, or_false] at hb
        rcases hb with z | z | z
        · rw [z, f1] at hp; cases hp
        · rw [z, f2] at hp; cases hp
        · rw [z, f3] at hp; cases hp
      · have := (of_noT (R.x.h p o hb e)).1
        rw [hp] at this; cases this
  have pS : p ∉ [s, l, c] := fun hb => by
    obtain ⟨⟨lg, cs, left, turn, f1, f2, f3, _⟩, _⟩ := R.r.wd.st
    simp only [List.mem_cons, List.not_mem_nil, or_false] at hb
    rcases hb with z | z | z
    · rw [z, f1] at hp; cases hp
    · rw [z, f2] at hp; cases hp
    · rw [z, f3] at hp; cases hp
  have R2 := R.r.r.stp st
  refine ⟨⟨⟨R1.r.w, by rw [List.length_set, List.length_set]; exact R1.r.len, fun i c' e => ?_, fun i j' q' ci cj e1 e2' m1 m2 s1 s2 => ?_⟩, R1.wd, by rw [List.getElem?_set_ne (fun z => hj z.symm)]; exact R1.st, fun i c' q' e mc ep => ?_, R1.nt, R1.tb, R1.z⟩, x1, fun i c' q' e mc ep => ?_⟩
  · rcases set_at e with ⟨rfl, hl, rfl⟩ | ⟨ne, e⟩
    · exact ⟨p, by rw [List.getElem?_set_self (by rw [R.r.r.len]; exact hl)], noT_none m.g, us, e2, q.noT⟩
    · have := R1.r.c i c' e
      rw [List.getElem?_set_ne (fun z => ne z.symm)]
      exact this
  · rcases set_at e1 with ⟨rfl, hl, rfl⟩ | ⟨ne, k1⟩
    · rw [List.getElem?_set_self (by rw [R.r.r.len]; exact hl)] at s1
      cases s1
      rcases set_at e2' with ⟨rfl, _, _⟩ | ⟨ne2, k2⟩
      · rfl
      · rw [List.getElem?_set_ne (fun z => ne2 z.symm)] at s2
        exact (apart k2 m2 s2).elim
    · rw [List.getElem?_set_ne (fun z => ne z.symm)] at s1
      rcases set_at e2' with ⟨rfl, hl, rfl⟩ | ⟨ne2, k2⟩
      · rw [List.getElem?_set_self (by rw [R.r.r.len]; exact hl)] at s2
        cases s2
        exact (apart k1 m1 s1).elim
      · rw [List.getElem?_set_ne (fun z => ne2 z.symm)] at s2
        exact R.r.r.sep i j' q' ci cj k1 k2 m1 m2 s1 s2
  · rcases set_at e with ⟨rfl, hl, rfl⟩ | ⟨ne, e⟩
    · rw [List.getElem?_set_self (by rw [R.r.r.len]; exact hl)] at ep
      cases ep
      exact pS
    · rw [List.getElem?_set_ne (fun z => ne z.symm)] at ep
      exact R.r.ap i c' q' e mc ep
  · rcases set_at e with ⟨rfl, hl, rfl⟩ | ⟨ne, e⟩
    · rw [List.getElem?_set_self (by rw [R.r.r.len]; exact hl)] at ep
      cases ep
      exact old0
    · rw [List.getElem?_set_ne (fun z => ne z.symm)] at ep
      exact R.n i c' q' e mc ep
def wAsgL (i : Nat) (FA : WA) : WS := fun Γ T nx _ => FA Γ T fun ds T1 => small ds.length = true ∧ nx (Γ.set i (.ml ds)) T1
def wAndV (Fa Fb : WE) : WE := fun Γ T post => Fa Γ T fun d T1 => match d with
  | .bool b => if b = true then Fb Γ T1 post else post (.bool false) T1
  | _ => False
def wOrV (Fa Fb : WE) : WE := fun Γ T post => Fa Γ T fun d T1 => match d with
  | .bool b => if b = true then post (.bool true) T1 else Fb Γ T1 post
  | _ => False
def wNotV (Fa : WE) : WE := fun Γ T post => Fa Γ T fun d T1 => match d with
  | .bool b => post (.bool (!b)) T1
  | _ => False
end
end Mv
namespace Mv
open PySem L2 Evl LamX
def permL {α : Type} (is : List Nat) (xs : List α) : List α := is.filterMap fun i => xs[i]?
section
variable {E : XK} {ad : Str → Addr} {G H : Hp} {tas : TA} {fas : En → Ra} {X : Cw} {FA : WA}
def fCallP (is : List Nat) (n : Nat) (g : List D → Re) (fas : En → Ra) (Γ : En) : Re := bndA (fas Γ) fun ds => if Nat.beq ds.length n = true then g (permL is ds) else none
end
end Mv
namespace Mv
open PySem PySem.Spec PyProof.Rows L2 Evl LamX
section
variable {P : Program} {w : World} {mg : Str → Option Value} {base : Heap} {K : PySem.W.Frag}
end
end Mv
namespace Mv
open PySem L2 Evl
mutual
def sameD : D → D → Bool
  | .none, .none => true
  | .bool a, .bool b => a == b
  | .int a, .int b => decide (a = b)
  | .str a, .str b => decide (a = b)
  | .list a, .list b => sameDs a b
  | .tuple a, .tuple b => sameDs a b
  | _, _ => false
def sameDs : List D → List D → Bool
  | [], [] => true
  | a :: as, b :: bs => sameD a b && sameDs as bs
  | _, _ => false
end
mutual
theorem sameD_eq : ∀ {a b : D}, sameD a b = true → a = b
  | .none, .none, _ => rfl
  | .bool a, .bool b, h => by unfold sameD at h; rw [eq_of_beq h]
  | .int a, .int b, h => by unfold sameD at h; rw [of_decide_eq_true h]
  | .str a, .str b, h => by unfold sameD at h; rw [of_decide_eq_true h]
  | .list a, .list b, h => by unfold sameD at h; rw [sameDs_eq h]
  | .tuple a, .tuple b, h => by unfold sameD at h; rw [sameDs_eq h]
  | .none, .bool _, h => by cases h
  | .none, .int _, h => by cases h
  | .none, .str _, h => by cases h
  | .none, .list _, h => by cases h
  | .none, .tuple _, h => by cases h
  | .none, .dict _, h => by cases h
  | .bool _, .none, h => by cases h
  | .bool _, .int _, h => by cases h
  | .bool _, .str _, h => by cases h
  | .bool _, .list _, h => by cases h
  | .bool _, .tuple _, h => by cases h
  | .bool _, .dict _, h => by cases h
  | .int _, .none, h => by cases h
  | .int _, .bool _, h => by cases h
  | .int _, .str _, h => by cases h
  | .int _, .list _, h => by cases h
  | .int _, .tuple _, h => by cases h
  | .int _, .dict _, h => by cases h
  | .str _, .none, h => by cases h
  | .str _, .bool _, h => by cases h
  | .str _, .int _, h => by cases h
  | .str _, .list _, h => by cases h
  | .str _, .tuple _, h => by cases h
  | .str _, .dict _, h => by cases h
  | .list _, .none, h => by cases h
  | .list _, .bool _, h => by cases h
  | .list _, .int _, h => by cases h
  | .list _, .str _, h => by cases h
  | .list _, .tuple _, h => by cases h
  | .list _, .dict _, h => by cases h
  | .tuple _, .none, h => by cases h
  | .tuple _, .bool _, h => by cases h
  | .tuple _, .int _, h => by cases h
  | .tuple _, .str _, h => by cases h
  | .tuple _, .list _, h => by cases h
  | .tuple _, .dict _, h => by cases h
  | .dict _, .none, h => by cases h
  | .dict _, .bool _, h => by cases h
  | .dict _, .int _, h => by cases h
  | .dict _, .str _, h => by cases h
  | .dict _, .list _, h => by cases h
  | .dict _, .tuple _, h => by cases h
  | .dict _, .dict _, h => by cases h
theorem sameDs_eq : ∀ {a b : List D}, sameDs a b = true → a = b
  | [], [], _ => rfl
  | a :: as, b :: bs, h => by
    unfold sameDs at h
    rw [Bool.and_eq_true] at h
    rw [sameD_eq h.1, sameDs_eq h.2]
  | [], _ :: _, h => by cases h
  | _ :: _, [], h => by cases h
end
def isV (r : Re) (d : D) : Bool := match r with
  | some (.val z) => sameD z d
  | _ => false
def isX (r : Re) (x : Str) : Bool := match r with
  | some (.exc y) => decide (y = x)
  | _ => false
theorem isV_eq {r : Re} {d : D} (h : isV r d = true) : r = some (.val d) := by
  unfold isV at h
  split at h
  · rw [sameD_eq h]
  · cases h
theorem isX_eq {r : Re} {x : Str} (h : isX r x = true) : r = some (.exc x) := by
  unfold isX at h
  split at h
  · rw [of_decide_eq_true h]
  · cases h
theorem few_V {L : List (List Int)} {f : List Int → Re} {g : List Int → D} (h : (L.all fun n => isV (f n) (g n)) = true) {n : List Int} (hn : n ∈ L) : f n = some (.val (g n)) := isV_eq (List.all_eq_true.mp h n hn)
section
variable {α β : Type} {st : Fs} {ft fe : En → Re} {Γ Γ1 : En} {vs : List Nat} {src : En → Ra}
theorem lc_of (e : α → D) (p : α → Bool) (g : α → D) : ∀ (as : List α), (∀ a ∈ as, ∃ Γ1, st (e a) Γ = some Γ1 ∧ ft Γ1 = some (.val (.bool (p a))) ∧ (p a = true → fe Γ1 = some (.val (g a)))) → lcGo st ft fe Γ (as.map e) = some ((as.filter p).map g)
  | [], _ => rfl
  | a :: as, h => by
    obtain ⟨Γ1, h1, h2, h3⟩ := h a (List.mem_cons_self ..)
    have ih := lc_of e p g as fun b hb => h b (List.mem_cons_of_mem _ hb)
    rw [List.map_cons]
    unfold lcGo
    rw [h1]; dsimp only
    rw [h2]; dsimp only
    cases hp : p a with
    | true =>
      rw [if_pos rfl, h3 hp]; dsimp only
      rw [ih, List.filter_cons_of_pos hp]; rfl
    | false =>
      rw [if_neg (by decide), ih, List.filter_cons_of_neg (by rw [hp]; decide)]
theorem flc_of (e : α → D) (p : α → Bool) (g : α → D) (as : List α) (h1 : src Γ = some (.vals (as.map e))) (h2 : as.length ≤ 1000000) (h3 : ∀ a ∈ as, ∃ Γ1, st (e a) (wipeC Γ vs) = some Γ1 ∧ ft Γ1 = some (.val (.bool (p a))) ∧ (p a = true → fe Γ1 = some (.val (g a)))) :
    fLc src st ft fe vs Γ = some (.val (.list ((as.filter p).map g))) := by
  unfold fLc
  rw [h1]; dsimp only
  rw [if_pos (by unfold small; rw [List.length_map]; exact Nat.ble_eq_true_of_le h2), lc_of e p g as h3]
theorem flc_map (e : α → D) (g : α → D) (as : List α) (h1 : src Γ = some (.vals (as.map e))) (h2 : as.length ≤ 1000000) (h3 : ∀ a ∈ as, ∃ Γ1, st (e a) (wipeC Γ vs) = some Γ1 ∧ ft Γ1 = some (.val (.bool true)) ∧ fe Γ1 = some (.val (g a))) :
    fLc src st ft fe vs Γ = some (.val (.list (as.map g))) := by
  have := flc_of (vs := vs) (fe := fe) (ft := ft) (st := st) e (fun _ => true) g as h1 h2 fun a ha => (h3 a ha).imp fun Γ1 h => ⟨h.1, h.2.1, fun _ => h.2.2⟩
  rw [this, List.filter_eq_self.mpr fun _ _ => rfl]
theorem zipT_map (e : α → D) (f : β → D) : ∀ (as : List α) (bs : List β), zipT (as.map e) (bs.map f) = (as.zip bs).map fun q => .tuple [e q.1, f q.2]
  | [], _ => by cases ‹List β› <;> rfl
  | _ :: _, [] => rfl
  | a :: as, b :: bs => by simp only [List.map_cons, zipT, List.zip_cons_cons, zipT_map e f as bs]
theorem for_inv {body : En → Rf} (P : Nat → En → Prop) : ∀ (as : List D) (k : Nat) (Γ : En), P k Γ → (∀ (i : Nat) (a : D) (Γ : En), as[i]? = some a → P (k + i) Γ → ∃ Γ1, st a Γ = some Γ1 ∧ ∃ Γ2, body Γ1 = some (.nx Γ2) ∧ P (k + i + 1) Γ2) → ∃ Γ', forGo st body as Γ = some (.nx Γ') ∧ P (k + as.length) Γ'
  | [], k, Γ, h0, _ => ⟨Γ, rfl, h0⟩
  | a :: as, k, Γ, h0, h => by
    obtain ⟨Γ1, h1, Γ2, h2, h3⟩ := h 0 a Γ rfl h0
    obtain ⟨Γ', h4, h5⟩ := for_inv P as (k + 1) Γ2 h3 fun i b Γ e hp => by
      have q := h (i + 1) b Γ e (by rw [show k + (i + 1) = k + 1 + i from by omega]; exact hp)
      rw [show k + (i + 1) + 1 = k + 1 + i + 1 from by omega] at q
      exact q
    refine ⟨Γ', ?_, by rw [List.length_cons, show k + (as.length + 1) = k + 1 + as.length from by omega]; exact h5⟩
    unfold forGo
    rw [h1]; dsimp only
    rw [h2]; exact h4
end
section
variable {Γ Γ' : En} {T : Int} {d : D} {i0 : Nat}
theorem pw_of {f : En → Re} {post : D → Int → Prop} (h : f Γ = some (.val d)) (k : post d T) : pw f Γ T post := by
  unfold pw; rw [h]; exact k
theorem pwb_of {f : En → Re} {post : Bool → Int → Prop} {b : Bool} (h : f Γ = some (.val (.bool b))) (k : post b T) : pwb f Γ T post := by
  unfold pwb; rw [h]; exact k
theorem pws_nx {f : En → Rf} {nx : En → Int → Prop} {rt : D → Int → Prop} (h : f Γ = some (.nx Γ')) (e : Γ'[i0]? = Γ[i0]?) (k : nx Γ' T) : pws i0 f Γ T nx rt := by
  unfold pws; rw [h]; exact ⟨e, k⟩
theorem draw_of {n : Int} {post : D → Int → Prop} (h1 : 0 < n) (h2 : n < 1073741824) (hT : T < 1000000000000) (h : ∀ r : Nat, (r : Int) < n → post (.int r) (T + 1)) : W__law_draw [.int n] T post :=
  ⟨n, rfl, h1, h2, hT, fun r r0 r1 => by
    have := h r.toNat (by omega)
    rwa [Int.toNat_of_nonneg r0] at this⟩
theorem bodyW_of {F : WS} {k n : Nat} {ds : List D} {post : D → Int → Prop} (h1 : ds.length = k) (h : ∀ s : Addr, F (Ce.fx (.ref s) :: (ds.map Ce.d ++ List.replicate n .un)) T (fun _ T' => post .none T') post) : bodyW F k n ds T post := ⟨h1, h⟩
variable {nx : En → Int → Prop} {rt : D → Int → Prop} {post : D → Int → Prop} {postA : List D → Int → Prop} {postB : Bool → Int → Prop} {Fa Fb F : WE} {FA FR : WA} {FT FU : WB} {F1 F2 : WS} {st : Fs} {src : En → Ra} {vs : List Nat} {k : Nat → Bool} {g : List D → Re} {as : List D}
theorem wRet_of (h : F Γ T rt) : wRet F Γ T nx rt := h
theorem wSeq_of (h : F1 Γ T (fun Γ1 T1 => F2 Γ1 T1 nx rt) rt) : wSeq F1 F2 Γ T nx rt := h
theorem wCons_of (h : Fa Γ T fun d T1 => FR Γ T1 fun ds T2 => postA (d :: ds) T2) : wCons Fa FR Γ T postA := h
theorem wNil_of (h : postA [] T) : wNil Γ T postA := h
theorem wOp_of {o : D → D → Option D} (h : Fa Γ T fun x T1 => Fb Γ T1 fun y T2 => match o x y with | some z => post z T2 | none => False) : wOp o Fa Fb Γ T post := h
theorem wDraw_of {W : List D → Int → (D → Int → Prop) → Prop} (h : FA Γ T fun ds T1 => W ds T1 post) : wDraw W FA Γ T post := h
theorem wAsg_of (h : F Γ T fun d T1 => match st d Γ with | some Γ1 => nx Γ1 T1 | none => False) : wAsg F st Γ T nx rt := h
theorem wIfS_of (h : FT Γ T fun b T1 => if b = true then F1 Γ T1 nx rt else F2 Γ T1 nx rt) : wIfS FT F1 F2 Γ T nx rt := h
theorem wTup_of (h : FA Γ T fun ds T1 => small ds.length = true ∧ post (.tuple ds) T1) : wTup FA Γ T post := h
theorem wNext_of (h : nx Γ T) : wNext Γ T nx rt := h
theorem wT_of (h : Fa Γ T fun d T1 => match d with | .bool b => postB b T1 | _ => False) : wT Fa Γ T postB := h
theorem wNot_of (h : FT Γ T fun b T1 => postB (!b) T1) : wNot FT Γ T postB := h
theorem wAnd_of (h : FT Γ T fun b T1 => if b = true then FU Γ T1 postB else postB false T1) : wAnd FT FU Γ T postB := h
theorem raises_of {x : Str} {fas : En → Ra} {ds : List D} (h : fas Γ = some (.vals ds)) (k : g ds = some (.exc x)) : raisesB x g fas Γ := by
  unfold raisesB bndA
  rw [h]; exact k
end
end Mv
namespace Mv
open PySem PySem.Spec L2 LamX PyProof.Rows
def LamO (X : Cx) (k : Nat) (f c' : Addr) (t : XK → TE) : HO := .ext fun h => ∃ (params : Arguments) (body : Expr) (scope : Scope) (pm ctv : Value),
  h.get? f = some (PySem.W.kla_obj "<lambda>" (X.env.qual ++ "<lambda>") params body scope (cloFrom X.env.cells scope.names []) pm c' ctv) ∧ LamS X.env.scope scope ∧
  bindArgs (PySem.W.kla_fn "<lambda>" (X.env.qual ++ "<lambda>") params body scope (cloFrom X.env.cells scope.names []) pm (.ref c') ctv) ⟨[], []⟩ = pure [] ∧
  ∀ (A : Around) (outer : List Env) (s : Shared) (H : Hp) (E : XK), Room k (A.deeper (lamEnv X scope s.heap.objs.size f c')) → PE (lamCx X A outer s H E scope f c') body (t E)
section
variable {X : Cx} {pins : List (Addr × Obj)} {σ : L2.St} {H : Hp} {s : Shared} {f : Addr} {o : HO}
theorem track_new {ob : Obj} (J : Inv X pins σ H s) (hf : H f = none) (n0 : X.s_0.heap.get? f = none) (np : ∀ q ∈ X.pn ++ pins, q.1 ≠ f) (nl : f ≠ X.env.locals) (nc : ∀ x c, X.env.cells.lookup x = some c → c ≠ f) (hget : s.heap.get? f = some ob) (hp : ObjOk X.prog X.w (upd H f o) s.heap f o) : Inv X pins σ (upd H f o) s := by
  have away : ∀ {b : Addr}, b ≠ f → upd H f o b = H b := fun e => upd_ne e
  have old : ∀ {b : Addr} {u : HO}, H b = some u → upd H f o b = some u := fun e => (upd_ne (ne_of_none e hf)).trans e
  refine ⟨J.ok, J.os, J.bare, ⟨J.base.keep, J.base.slot, fun b u q n x => ?_, J.base.there, fun b xs q => old (J.base.tups b xs q), fun b u v q => old (J.base.frzs b u v q), fun b ps q => (J.base.tbls b ps q).imp fun m r => old r⟩, J.loc, J.cell, ?_, fun x c q => ?_, fun q hq => ?_, J.hok.laidN (fun _ _ q => q) hf hp, J.len⟩
  · rw [away (fun z => by rw [z, n0] at q; cases q)]
    exact J.base.free b u q n x
  · rw [away nl.symm]
    exact J.free
  · rw [away (nc x c q)]
    exact J.freeC x c q
  · obtain ⟨r1, r2, r3⟩ := J.pin q hq
    exact ⟨r1, by rw [away (np q hq)]; exact r2, r3⟩
theorem forget {φ : Heap → Prop} (J : Inv X pins σ H s) (hf : H f = some (.ext φ)) : Inv X pins σ (delH H f) s := by
  have away : ∀ {b : Addr}, b ≠ f → delH H f b = H b := fun e => delH_ne e
  have ne : ∀ {b : Addr} {u : HO}, H b = some u → (∀ ψ, u ≠ .ext ψ) → b ≠ f := fun e n z => by
    rw [z, hf] at e
    exact (n φ (Option.some.inj e).symm)
  have none_ : ∀ {b : Addr}, H b = none → delH H f b = none := fun {b} e => by
    by_cases z : b = f
    · rw [z]; exact delH_same
    · rw [away z]; exact e
  refine ⟨J.ok, J.os, J.bare, ⟨J.base.keep, J.base.slot, fun b u q n x => none_ (J.base.free b u q n x), J.base.there, fun b xs q => ?_, fun b u v q => ?_, fun b ps q => ?_⟩, J.loc, J.cell, none_ J.free, fun x c q => none_ (J.freeC x c q), fun q hq => ?_, fun b u e => ?_, J.len⟩
  · have e := J.base.tups b xs q
    rw [away (ne e fun _ z => by cases z)]; exact e
  · have e := J.base.frzs b u v q
    rw [away (ne e fun _ z => by cases z)]; exact e
  · obtain ⟨m, e⟩ := J.base.tbls b ps q
    exact ⟨m, by rw [away (ne e fun _ z => by cases z)]; exact e⟩
  · obtain ⟨r1, r2, r3⟩ := J.pin q hq
    exact ⟨r1, none_ r2, r3⟩
  · have nb : b ≠ f := fun z => by rw [z, delH_same] at e; cases e
    rw [away nb] at e
    exact (J.hok b u e).stay (fun _ _ _ q => q) (fun c q => by rw [away (ne q fun _ z => by cases z)]; exact q) fun c xs q => by rw [away (ne q fun _ z => by cases z)]; exact q
end
def tLamV (X : Cx) (k : Nat) (T : List (Addr × Str)) (t : XK → TE) : TE := fun σ H Q => Tabs T H ∧ ∀ (f c' : Addr) (H1 : Hp), ExtN H H1 → Tabs T H1 → H1 f = none → H1 c' = some (CodeO c' (X.env.qual ++ "<lambda>")) → Q (.ref f) (upd H1 f (LamO X k f c' t))
section
variable {X : Cx}
theorem pe_lam {T : List (Addr × Str)} {c P : Addr} {k : Nat} {params : Arguments} {body : Expr} {scope : Scope} {t : XK → TE} {at_ : Pos} (TB : TabB X.base X.mg c P) (hcode : X.env.code = .ref c) (hmT : (P, X.env.qual ++ "<lambda>") ∈ T) (hu : ∀ p ∈ T, p.1 = P → p.2 = X.env.qual ++ "<lambda>")
    (L : LamS X.env.scope scope) (hdef : defaultsOf params X.env = ([], [])) (hbind : ∀ (q : Str) (cl : List (Str × Addr)) (pm cv ctv : Value), bindArgs (PySem.W.kla_fn "<lambda>" q params body scope cl pm cv ctv) ⟨[], []⟩ = pure [])
    (hbody : ∀ (A : Around) (outer : List Env) (s : Shared) (H : Hp) (E : XK) (f c' : Addr), Room k (A.deeper (lamEnv X scope s.heap.objs.size f c')) → PE (lamCx X A outer s H E scope f c') body (t E)) (hex : X.ex = []) : PE X (.Lambda params body scope at_) (tLamV X k T t) := by
  refine ⟨fun pins s σ H Q I ⟨hT, h⟩ => PySem.W.kla_eval hdef ?_⟩
  obtain ⟨ps, hP, ht, ha⟩ := hT _ hmT
  have tabAt : s.heap.get? P = some { cls := .none, data := .fields ps } := I.hok P _ hP
  have bltAt : s.heap.BuiltinsAt X.mg P := TB.bm.keeps I.bk
  have fin : ∀ (h' : Heap) (tk : Nat) (c' : Addr) (pm ctv : Value) (H1 : Hp), s.heap.objs.size ≤ h'.objs.size → ExtN H H1 → Tabs T H1 → H1 h'.objs.size = none → H1 c' = some (CodeO c' (X.env.qual ++ "<lambda>")) →
      Inv X pins σ H1 { s with heap := h'.push (PySem.W.kla_obj "<lambda>" (X.env.qual ++ "<lambda>") params body scope (cloFrom X.env.cells scope.names []) pm c' ctv), toks := tk } →
      EP X pins σ Q (.ref h'.objs.size) { s with heap := h'.push (PySem.W.kla_obj "<lambda>" (X.env.qual ++ "<lambda>") params body scope (cloFrom X.env.cells scope.names []) pm c' ctv), toks := tk } := fun h' tk c' pm ctv H1 sz eN T1 n1 hco J => by
    have new_ : ∀ {b : Addr} {u : Obj}, s.heap.get? b = some u → b ≠ h'.objs.size := fun e => Nat.ne_of_lt (Nat.lt_of_lt_of_le (Heap.lt_size e) sz)
    have got := Heap.get?_push_size h' (o := PySem.W.kla_obj "<lambda>" (X.env.qual ++ "<lambda>") params body scope (cloFrom X.env.cells scope.names []) pm c' ctv) rfl
    refine ⟨.ref h'.objs.size, _, track_new (o := LamO X k h'.objs.size c' t) J n1 ?_ (fun q hq => new_ (I.pin q hq).1) ?_ (fun x c q => ?_) got ⟨⟨params, body, scope, pm, ctv, got, L, hbind _ _ _ _ _, fun A outer s H E r => hbody A outer s H E _ c' r⟩, ⟨_, got⟩, fun _ _ ⟨p1, p2, p3, p4, p5, q, r⟩ keep => ⟨p1, p2, p3, p4, p5, keep _ q, r⟩⟩, rfl, h _ c' H1 eN T1 n1 hco⟩
    · cases e : X.s_0.heap.get? h'.objs.size with
      | none => rfl
      | some u =>
        obtain ⟨u', q⟩ := I.base.there _ u e (by rw [hex]; exact List.not_mem_nil)
        exact (new_ q rfl).elim
    · intro z
      obtain ⟨m, ⟨ob, es, ep, e, r⟩, _⟩ := I.loc
      exact new_ e z.symm
    · obtain ⟨w', u, e, r⟩ := I.cell x c q
      exact new_ e
  cases hc : codeAmong at_ ps.toList with
  | some cv =>
    obtain ⟨c', rfl, hco⟩ := ha at_ cv hc
    exact PySem.W.kla_makeFunctionHit (mg := X.mg) (c := c) (P := P) (ps := ps) (closure_ok (L.has I.ok)) I.ok.glob (I.mod.glob.keeps I.bk) hcode (TB.code.keeps I.bk) tabAt ht hc bltAt fun ctv h' tk hx hsz =>
      fin h' tk c' _ ctv H hsz (ExtN.refl H) hT (I.hok.fresh hsz) hco (I.kept fun b u e => Heap.get?_push_of_some _ (hx b u e))
  | none =>
    refine PySem.W.kla_makeFunction (mg := X.mg) (c := c) (P := P) (ps := ps) (closure_ok (L.has I.ok)) I.ok.glob (I.mod.glob.keeps I.bk) hcode (TB.code.keeps I.bk) tabAt ht hc TB.gP bltAt fun c' ctv h' tk hx hge hlt hrec htb => ?_
    obtain ⟨c2, oc, us, tt, e2, hoc, hd, hv⟩ := hrec
    cases e2
    have big : s.heap.objs.size ≤ h'.objs.size := Nat.le_trans hge (Nat.le_of_lt hlt)
    have freeC : H c' = none := I.hok.fresh hge
    have J := inv_table (t' := tk) (more := #[rawInt at_.line, rawInt at_.col, .ref c']) (h' := h'.push (PySem.W.kla_obj "<lambda>" (X.env.qual ++ "<lambda>") params body scope (cloFrom X.env.cells scope.names []) ((X.mg "__name__").getD .none) c' ctv)) I hP
      (fun b u hb e => Heap.get?_push_of_some _ (hx b u hb e)) (Heap.get?_push_of_some _ htb) hge ⟨oc, us, tt, Heap.get?_push_of_some _ hoc, hd, hv⟩
    have grown : ExtN H (upd (upd H P (.tbl (ps ++ #[rawInt at_.line, rawInt at_.col, .ref c']))) c' (CodeO c' (X.env.qual ++ "<lambda>"))) := fun b u e n => by
      rw [upd_ne (ne_of_none e freeC), upd_ne (fun z => n ps (Option.some.inj (e.symm.trans (by rw [z]; exact hP))))]
      exact e
    have list_ : (ps ++ #[rawInt at_.line, rawInt at_.col, .ref c']).toList = ps.toList ++ [rawInt at_.line, rawInt at_.col, .ref c'] := by simp
    refine fin h' tk c' _ ctv _ big grown (fun p hp => ?_) ?_ upd_same J
    · by_cases hb : p.1 = P
      · rw [hu p hp hb, hb]
        refine ⟨_, by rw [upd_ne (ne_of_none hP freeC), upd_same], by rw [list_]; exact PySem.TriplesOk_snoc _ _ _ _ ht, fun p' cv hcv => ?_⟩
        rw [list_] at hcv
        rcases (among_app _ ht hcv) with z | z
        · obtain ⟨c0, e1, e2⟩ := (ha p' cv z)
          exact ⟨c0, e1, grown _ _ e2 codeO_ne⟩
        · exact ⟨c', z, upd_same⟩
      · obtain ⟨ps', a1, a2, a3⟩ := (hT p hp)
        refine ⟨ps', by rw [upd_ne (ne_of_none a1 freeC), upd_ne hb]; exact a1, a2, fun p' cv hcv => ?_⟩
        obtain ⟨c0, e1, e2⟩ := (a3 p' cv hcv)
        exact ⟨c0, e1, grown _ _ e2 codeO_ne⟩
    · rw [upd_ne (Nat.ne_of_gt hlt), upd_ne (Nat.ne_of_gt (Nat.lt_of_lt_of_le (Heap.lt_size tabAt) big))]
      exact I.hok.fresh big
end
end Mv
namespace Mv
open PySem L2 Evl LamX
theorem lamU_ne_code {X : Cx} {k : Nat} {f c' : Addr} {t : XK → TE} {q : Str} : LamO X k f c' t ≠ CodeO f q := fun z => by
  have z2 := congrFun (HO.ext.inj z) (⟨Array.replicate (f + 1) { cls := .none, data := .fields #[.none, .str q 0] }, {}⟩ : Heap)
  have got : Heap.get? (⟨Array.replicate (f + 1) { cls := .none, data := .fields #[.none, .str q 0] }, {}⟩ : Heap) f = some { cls := .none, data := .fields #[.none, .str q 0] } := by
    unfold Heap.get?
    simp
  have yes := z2.mpr ⟨_, _, 0, got, rfl, rfl⟩
  obtain ⟨_, _, _, _, _, e, _⟩ := yes
  rw [got] at e
  cases e
theorem tabsU_del {T : List (Addr × Str)} {H : Hp} {X : Cx} {k : Nat} {f c' : Addr} {t : XK → TE} (x : Tabs T H) (hf : H f = some (LamO X k f c' t)) : Tabs T (delH H f) := fun p hp => by
  obtain ⟨ps, h1, h2, h3⟩ := x p hp
  refine ⟨ps, ?_, h2, fun pos cv hc => ?_⟩
  · rw [delH_ne (fun z => by rw [z, hf] at h1; cases h1)]; exact h1
  · obtain ⟨c, e1, e2⟩ := h3 pos cv hc
    refine ⟨c, e1, ?_⟩
    rw [delH_ne (fun z => by rw [z, hf] at e2; exact lamU_ne_code (Option.some.inj e2))]; exact e2
theorem WdU.del {G H : Hp} {s l c f : Addr} {T : Int} {φ : Heap → Prop} (x : Wd G H s l c T) (gf : G f = none) (hf : H f = some (.ext φ)) : Wd G (delH H f) s l c T := by
  have na := st_apart x.st hf (.inr ⟨φ, rfl⟩)
  simp only [List.mem_cons, List.not_mem_nil, or_false, not_or] at na
  obtain ⟨⟨⟨lg, cs, left, turn, h1, h2, h3, h⟩, q⟩, _⟩ := id (And.intro x.st trivial)
  refine ⟨fun b o z => ?_, ⟨⟨lg, cs, left, turn, by rw [delH_ne (Ne.symm na.1)]; exact h1, by rw [delH_ne (Ne.symm na.2.1)]; exact h2, by rw [delH_ne (Ne.symm na.2.2)]; exact h3, h⟩, q⟩, x.gs, x.gl, x.gc⟩
  have nb : b ≠ f := fun e => by rw [e, gf] at z; cases z
  rw [delH_ne nb]
  exact x.w b o z
abbrev LamL := List (Addr × Addr × (XK → TE))
def tLamL (X : Cx) (k : Nat) (T : List (Addr × Str)) : List (XK → TE) → TA
  | [] => tNil
  | t :: ts => tCons (tLamV X k T t) (tLamL X k T ts)
structure LamAtU (X : Cx) (k : Nat) (q : Str) (G0 G H : Hp) (x : Addr × Addr × (XK → TE)) : Prop where
  l : H x.1 = some (LamO X k x.1 x.2.1 x.2.2)
  c : H x.2.1 = some (CodeO x.2.1 q)
  g : G x.1 = none
  o : noT G0 x.1 = none
section
variable {X : Cw} {Xc : Cx} {s l c : Addr} {T T' : Int} {G H G' H' G1 H1 G2 H2 G0 H0 : Hp} {σ : L2.St} {Γ Γ' : En} {K : PySem.W.Frag} {k : Nat}
theorem noT_id (nt : ∀ (b : Addr) (ps : Array Value), G b ≠ some (.tbl ps)) : noT G = G := by
  funext b
  cases e : G b with
  | none => exact noT_none e
  | some o => exact noT_at e fun ps z => nt b ps (z ▸ e)
theorem RelW.new {a : Addr} {o : HO} (R : RelW X s l c T G H σ Γ) (h : H a = none) : RelW X s l c T G (upd H a o) σ Γ ∧ StN s l c G H G (upd H a o) := by
  have s3 : Stp G H G (upd H a o) := Stp.old R.r.w (.new h)
  have R1 := R.sts (s3.toS (S := [s, l, c])) (R.wd.stp s3)
  have x1 := R.toN s3
  rw [noT_id R.nt] at R1 x1
  exact ⟨R1, x1⟩
theorem RelW.setU {j : Nat} {v : Option V} (R : RelW X s l c T G H σ Γ) (hj : X.i0 ≠ j) : RelW X s l c T G H (σ.set j v) (Γ.set j .un) := by
  have at_ : ∀ {i : Nat} {c' : Ce}, (Γ.set j .un)[i]? = some c' → c' = .un ∨ (i ≠ j ∧ Γ[i]? = some c' ∧ (σ.set j v)[i]? = σ[i]?) := fun {i c'} e => by
    rcases set_at e with ⟨rfl, hl, rfl⟩ | ⟨ne, e⟩
    · exact .inl rfl
    · exact .inr ⟨ne, e, List.getElem?_set_ne (fun z => ne z.symm)⟩
  refine ⟨⟨R.r.w, by rw [List.length_set, List.length_set]; exact R.r.len, fun i c' e => ?_, fun i i2 p ci cj e1 e2 m1 m2 p1 p2 => ?_⟩, R.wd, by rw [List.getElem?_set_ne (fun z => hj z.symm)]; exact R.st, fun i c' p e m ep => ?_, R.nt, R.tb, R.z⟩
  · rcases at_ e with rfl | ⟨_, e1, e2⟩
    · trivial
    · rw [e2]; exact R.r.c i c' e1
  · rcases at_ e1 with rfl | ⟨_, a1, a2⟩
    · cases m1
    rcases at_ e2 with rfl | ⟨_, b1, b2⟩
    · cases m2
    rw [a2] at p1; rw [b2] at p2
    exact R.r.sep i i2 p ci cj a1 b1 m1 m2 p1 p2
  · rcases at_ e with rfl | ⟨_, a1, a2⟩
    · cases m
    rw [a2] at ep
    exact R.ap i c' p a1 m ep
theorem RelW.del {f c' : Addr} {t : XK → TE} (R : RelW X s l c T G H σ Γ) (x : StN s l c G0 H0 G H) (gf : G f = none) (hf : H f = some (LamO Xc k f c' t)) (of_ : noT H0 f = none) : RelW X s l c T G (delH H f) σ Γ ∧ StN s l c G0 H0 G (delH H f) := by
  have wd := WdU.del R.wd gf hf
  have dn : ∀ {b : Addr}, b ≠ f → noT (delH H f) b = noT H b := fun {b} nb => by unfold noT; rw [delH_ne nb]
  have na := st_apart R.wd.st hf (.inr ⟨_, rfl⟩)
  refine ⟨⟨⟨wd.w, R.r.len, fun i c2 e => ?_, R.r.sep⟩, wd, R.st, R.ap, R.nt, tabsU_del R.tb hf, R.z⟩, ⟨x.g, fun b o hb e => ?_, fun b hb e => ?_, fun b o e => ?_, x.n⟩⟩
  · have hc := R.r.c i c2 e
    cases c2 with
    | un => trivial
    | fx v => exact hc
    | d z => exact hc
    | ml ds =>
      obtain ⟨p, e1, m⟩ := hc
      obtain ⟨us, e2, q⟩ := m.at_
      exact ⟨p, e1, m.g, us, by rw [delH_ne (fun z => by rw [z, hf] at e2; unfold LamO at e2; cases e2)]; exact e2, q⟩
    | md es =>
      obtain ⟨p, e1, m⟩ := hc
      obtain ⟨us, e2, q⟩ := m.at_
      exact ⟨p, e1, m.g, us, by rw [delH_ne (fun z => by rw [z, hf] at e2; unfold LamO at e2; cases e2)]; exact e2, q⟩
  · have nb : b ≠ f := fun z => by rw [z, of_] at e; cases e
    rw [dn nb]; exact x.h b o hb e
  · have nb : b ≠ f := fun z => na (z ▸ hb)
    rw [dn nb]; exact x.k b hb e
  · have nb : b ≠ f := fun z => by rw [z, gf] at e; cases e
    rw [dn nb]; exact x.w b o e
theorem lamL_made : ∀ (ts : List (XK → TE)) (L : LamL) (H : Hp) (Q : List V → Hp → Prop), RelW X s l c T G H σ Γ → StN s l c G0 H0 G H → (∀ x ∈ L, LamAtU Xc k (Xc.env.qual ++ "<lambda>") H0 G H x) → (L.map (·.1)).Nodup →
      (∀ (L2 : LamL) (H2 : Hp), L2.map (·.2.2) = ts → RelW X s l c T G H2 σ Γ → StN s l c G0 H0 G H2 → (∀ x ∈ L ++ L2, LamAtU Xc k (Xc.env.qual ++ "<lambda>") H0 G H2 x) → ((L ++ L2).map (·.1)).Nodup → Q (L2.map fun x => V.ref x.1) H2) → tLamL Xc k X.TL ts σ H Q
  | [], L, H, Q, R, x0, ok, nd, q => q [] H rfl R x0 (by rw [List.append_nil]; exact ok) (by rw [List.append_nil]; exact nd)
  | t :: ts, L, H, Q, R, x0, ok, nd, q => by
    refine ⟨R.tb, fun f1 c1 A1 eN TA n1 hc1 => ?_⟩
    obtain ⟨RA, xA⟩ := R.extN eN TA
    obtain ⟨RB, xB⟩ := RA.new (o := LamO Xc k f1 c1 t) n1
    have x1 := x0.trans xA
    have x2 := x1.trans xB
    have gf : G f1 = none := fresh_back RA.r.w n1
    have of_ : noT H0 f1 = none := by
      cases e : noT H0 f1 with
      | none => rfl
      | some o =>
        by_cases hm : f1 ∈ [s, l, c]
        · obtain ⟨⟨lg, cs, left, turn, a1, a2, a3, _⟩, _⟩ := RA.wd.st
          simp only [List.mem_cons, List.not_mem_nil, or_false] at hm
          rcases hm with z | z | z
          · rw [z, a1] at n1; cases n1
          · rw [z, a2] at n1; cases n1
          · rw [z, a3] at n1; cases n1
        · have := (of_noT (x1.h _ _ hm e)).1
          rw [n1] at this; cases this
    have apart : ∀ x ∈ L, x.1 ≠ f1 := fun x hx => ne_of_none (eN _ _ (ok x hx).l (fun ps z => by unfold LamO at z; cases z)) n1
    refine lamL_made ts (L ++ [(f1, c1, t)]) _ _ RB x2 (fun x hx => ?_) ?_ fun L2 H2 e R2 y2 ok2 nd2 => ?_
    · rcases List.mem_append.mp hx with h | h
      · have h1 := eN _ _ (ok x h).l (fun ps z => by unfold LamO at z; cases z)
        have h2 := eN _ _ (ok x h).c codeO_ne
        exact ⟨by rw [upd_ne (ne_of_none h1 n1)]; exact h1, by rw [upd_ne (ne_of_none h2 n1)]; exact h2, (ok x h).g, (ok x h).o⟩
      · rw [List.mem_singleton.mp h]; exact ⟨upd_same, (upd_ne (ne_of_none hc1 n1)).trans hc1, gf, of_⟩
    · (rw [List.map_append, List.nodup_append])
      refine ⟨nd, by simp, fun a ha b hb => ?_⟩
      obtain ⟨x, hx, rfl⟩ := List.mem_map.mp ha
      simp only [List.map_cons, List.map_nil, List.mem_singleton] at hb
      rw [hb]
      exact apart x hx
    · exact q ((f1, c1, t) :: L2) H2 (by rw [List.map_cons, e]) R2 y2 (by rw [List.append_assoc] at ok2; exact ok2) (by rw [List.append_assoc] at nd2; exact nd2)
structure La where
  g : List D → Re
  ta : TA
  fa : En → Ra
variable {ad : Str → Addr}
def La.t (ad : Str → Addr) (a : La) : XK → TE := fun E => tCall (SpF ad a.g) [] E a.ta
def LaOk (ad : Str → Addr) : List La → Prop
  | [] => True
  | a :: as => (∀ E, Sa E ad a.ta a.fa) ∧ LaOk ad as
def allRaise (x : Str) (Γ : En) : List ((List D → Re) × (En → Ra)) → Prop
  | [] => True
  | a :: as => raisesB x a.1 a.2 Γ ∧ allRaise x Γ as
def La.p (a : La) : (List D → Re) × (En → Ra) := (a.g, a.fa)
theorem allRaise_mem {x : Str} : ∀ {as : List La}, allRaise x Γ (as.map La.p) → ∀ a ∈ as, raisesB x a.g a.fa Γ
  | a :: as, h, b, hb => by
    cases hb with
    | head => exact h.1
    | tail _ hb => exact allRaise_mem h.2 b hb
theorem laOk_mem : ∀ {as : List La}, LaOk ad as → ∀ a ∈ as, ∀ E, Sa E ad a.ta a.fa
  | a :: as, h, b, hb => by
    cases hb with
    | head => exact h.1
    | tail _ hb => exact laOk_mem h.2 b hb
end
end Mv
namespace Mv
open PySem L2 Evl
section
variable {X : Cx} {pins : List (Addr × Obj)} {σ : L2.St} {H : Hp} {s : Shared}
end
section
variable {E : XK} {ad : Str → Addr} {K : PySem.W.Frag} {G G' H H' : Hp} {tas : TA} {fas : En → Ra}
end
section
variable {X : Cx}
end
end Mv
namespace Mv
open PySem PySem.Spec PyProof.Rows L2 Evl
section
variable {X : Cx} {pins : List (Addr × Obj)} {σ : L2.St} {A : Around} {E : Value → Shared → Prop} {H : Hp} {s : Shared} {z TI TO i1 i2 a b S : Addr} {k1 k2 : Bool} {xs ys : List V}
end
section
variable {K : PySem.W.Frag} {E : XK} {ad : Str → Addr} {tas : TA} {fas : En → Ra} {k1 k2 : Bool}
end
end Mv
namespace Mv
open PySem L2 Evl PyProof.Rows
section
variable {X : Cx} {pos : Pos}
end
section
variable {X : Cw} {ta tb tc : TE} {Fa Fb Fc : WE}
end
section
variable {E : XK} {ad : Str → Addr} {ta tb tc : TE} {fa fb fc : En → Re}
end
end Mv
namespace Mv
open PySem PySem.Spec PyProof.Rows L2 Evl
section
variable {E : XK} {ad : Str → Addr} {K : PySem.W.Frag} {td : TE} {fd : En → Re}
end
end Mv
namespace Mv
open PySem PySem.Spec PyProof.Rows L2 Evl
section
variable {E : XK} {ad : Str → Addr} {K : PySem.W.Frag} {te tk tv : TE} {fe fk fv : En → Re} {G H G' H' G0 H0 : Hp} {σ : L2.St} {Γ : En} {i : Nat} {tas : TA} {fas : En → Ra}
theorem DqA.erase : ∀ {us : List V} {ds : List D} (j : Nat), DqA G us ds → DqA G (us.eraseIdx j) (ds.eraseIdx j)
  | _, _, _, .nil => .nil
  | _, _, 0, .cons _ k => k
  | _, _, j + 1, .cons q k => .cons q (DqA.erase j k)
theorem PoD.stp {Q : VK} {r : Ou} (h : PoD E ad G H Q r) (s : Stp G H G' H') : PoD E ad G' H' Q r := by
  cases r with
  | val d => cases d with
    | dict ps => exact fun es e p G2 H2 s2 h0 m => h es e p G2 H2 (s.trans s2) (by
        cases z : H p with
        | none => rfl
        | some o => rw [s.h _ _ z] at h0; cases h0) m
    | _ => exact h
  | exc x => exact fun G2 H2 s2 => h G2 H2 (s.trans s2)
def SpN (ad : Str → Addr) (g : List D → Re) : Sp := fun vs H Q E => ∃ G ds r, Ex G H ∧ DqA G vs ds ∧ g ds = some r ∧ PoD E ad G H Q r
theorem dict_start {N : List Str} {k n : Nat} {vs : List V} {ds : List D} {r : Ou} {Q : VK} (hN : N.length = k + n) (hl : vs.length = k) (hs : Sd E ad te fe) (w : Ex G H) (h : DqA G vs ds) (e : fe ((ds.map Ce.d) ++ List.replicate n .un) = some r) (q : PoD E ad G H Q r) :
    tRet te { nx := fun _ H' => Q .non H', rt := Q } (L2.start N vs) H := by
  unfold L2.start
  have : N.length - vs.length = n := by omega
  rw [this]
  exact hs _ _ G H (rel_start w h).r _ e Q q
end
end Mv
namespace Mv
open PySem L2 Evl
section
variable {X : Cw} {s l c : Addr} {T T' : Int} {G H G' H' G1 H1 G2 H2 G0 H0 : Hp} {σ : L2.St} {Γ Γ' : En} {K : PySem.W.Frag}
variable {E : XK} {ad : Str → Addr} {te ta tb : TE} {fe : En → Re} {tt tu : TT} {wi : TI} {src : En → Ra} {g : TG} {st : Fs} {js vs : List Nat} {Fa Fb Fe F : WE} {FT FU : WB} {tas : TA} {FA : WA}
end
end Mv
namespace Mv
open PySem L2 Evl LamX
mutual
def noLst : D → Bool
  | .list _ => false
  | .tuple ds => noLsts ds
  | .dict kvs => noLstP kvs
  | _ => true
def noLsts : List D → Bool
  | [] => true
  | d :: ds => noLst d && noLsts ds
def noLstP : List (D × D) → Bool
  | [] => true
  | (_, d) :: ds => noLst d && noLstP ds
end
theorem and_tt {a b : Bool} (h : (a && b) = true) : a = true ∧ b = true := by
  cases a <;> cases b <;> first | exact ⟨rfl, rfl⟩ | cases h
section
variable {G : Hp} {p : Addr} {xs : List V} {o : HO}
theorem upd_off {b : Addr} {u : HO} (hp : G p = some (.lst xs)) (h : G b = some u) (n : ∀ ys, u ≠ .lst ys) : upd G p o b = some u := by
  have : b ≠ p := fun z => by rw [z, hp] at h; cases h; exact n _ rfl
  rw [upd_ne this]; exact h
theorem noP_map {es : List (List L2.Key × D)} : ∀ {ds : List (D × D)}, ds = es.map (fun e => (kD e.1, e.2)) → noLstP ds = true → noLsts (es.map (·.2)) = true := by
  induction es with
  | nil => intro ds e h; rfl
  | cons x es ih =>
    intro ds e h
    subst e
    have h' : (noLst x.2 && noLstP (es.map (fun e => (kD e.1, e.2)))) = true := h
    obtain ⟨h1, h2⟩ := and_tt h'
    show (noLst x.2 && noLsts (es.map (·.2))) = true
    rw [h1, ih rfl h2]; rfl
mutual
theorem Dq.upd (hp : G p = some (.lst xs)) : ∀ {v : V} {d : D}, Dq G v d → noLst d = true → Dq (upd G p o) v d
  | _, _, .non, _ => .non
  | _, _, .bl b, _ => .bl b
  | _, _, .int i, _ => .int i
  | _, _, .str x, _ => .str x
  | _, _, .lst h k, n => by cases n
  | _, _, .tup h k, n => .tup (h.by fun o z e => upd_off hp e fun _ q => by rcases z with rfl | ⟨_, rfl⟩ <;> cases q) (DqA.upd hp k n)
  | _, _, .emp h r, n => .emp (upd_off hp h fun _ z => by cases z) r
  | _, _, .dct h k r, n => .dct (upd_off hp h fun _ z => by cases z) (DqP.upd hp k (noP_map r n)) r
theorem DqA.upd (hp : G p = some (.lst xs)) : ∀ {vs : List V} {ds : List D}, DqA G vs ds → noLsts ds = true → DqA (upd G p o) vs ds
  | _, _, .nil, _ => .nil
  | _, _, .cons h k, n => .cons (Dq.upd hp h (and_tt n).1) (DqA.upd hp k (and_tt n).2)
theorem DqP.upd (hp : G p = some (.lst xs)) : ∀ {kvs : List (List L2.Key × V)} {es : List (List L2.Key × D)}, DqP G kvs es → noLsts (es.map (·.2)) = true → DqP (upd G p o) kvs es
  | _, _, .nil, _ => .nil
  | _, _, .cons ne h k, n => .cons ne (Dq.upd hp h (and_tt n).1) (DqP.upd hp k (and_tt n).2)
end
end
section
variable {X : Cw} {s l c : Addr} {T T' : Int} {G H G' H' G1 H1 G2 H2 G0 H0 : Hp} {σ σ' : L2.St} {Γ Γ' : En} {K : PySem.W.Frag}
variable {E : XK} {ad : Str → Addr} {te ta tb : TE} {fe : En → Re} {tt tu : TT} {wi : TI} {src : En → Ra} {g : TG} {st : Fs} {js vs : List Nat} {Fa Fb Fe F : WE} {FT FU : WB} {tas : TA} {FA : WA} {ts tz : TS} {F1 F2 : WS}
end
end Mv
namespace Mv
open PySem L2 Evl
section
variable {E : XK} {ad : Str → Addr} {K : PySem.W.Frag} {ta tb tj tk : TE} {fa fb fj fk : En → Re}
def fSet2 (i : Nat) (fa fb fj fk : En → Re) (Γ : En) : Rf := match Γ[i]? with
  | some (.ml ds) => match fa Γ, fb Γ, fj Γ with
    | some (.val a), some (.val b), some (.val (.int j)) => match ixN ds.length j with
      | some j' => match fk (Γ.set i (.ml (ds.set j' a))) with
        | some (.val (.int k)) => match ixN ds.length k with
          | some k' => some (.nx (Γ.set i (.ml ((ds.set j' a).set k' b))))
          | none => none
        | _ => none
      | none => none
    | _, _, _ => none
  | _ => none
end
end Mv
namespace Mv
open PySem L2 Evl LamX
structure CalV (P : Program) (w : World) (K : PySem.W.Frag) (mg : Str → Option Value) (base : Heap) (CX : CXT) (k : Nat) (f : Addr) (sp : Sp) : Prop where
  ex : ∃ (ps : List Str) (fd : FuncData), FnOk P w K mg base CX k f fd ps sp ∧ PySem.W.keepIn K (.ref f) = true ∧ Binds K fd ps []
theorem Cal.at_ {P : Program} {w : World} {K : PySem.W.Frag} {mg : Str → Option Value} {base : Heap} {CX : CXT} {k : Nat} {x : Str} {ps : List Str} {sp : Sp} (C : Cal P w K mg base CX k x ps sp) : ∃ f : Addr, mg x = some (.ref f) ∧ CalV P w K mg base CX k f sp := by
  obtain ⟨f, fd, F, hm, hk, hb⟩ := C.ex
  exact ⟨f, hm, ps, fd, F, hk, hb⟩
section
variable {X : Cw} {s l c : Addr} {T T' : Int} {G H G' H' G1 H1 G2 H2 G0 H0 : Hp} {σ : L2.St} {Γ Γ' : En} {K : PySem.W.Frag} {k : Nat} {ad : Str → Addr} {fas : En → Ra} {tas : TA}
end
section
variable {E : XK} {ad : Str → Addr} {ta tb tc : TE} {fa fb fc : En → Re}
end
end Mv
namespace Mv
open PySem L2 Evl
section
variable {src : En → Ra} {st : Fs} {body : En → Rf} {α : Type} {Γ : En}
end
end Mv
namespace Mv
open PySem L2 Evl
section
variable {src : En → Ra} {st : Fs} {body rest : En → Rf} {α β : Type} {Γ : En} {R : Rf}
end
section
variable {Γ : En} {T : Int} {nx : En → Int → Prop} {rt post : D → Int → Prop} {F : WE} {FA : WA}
end
end Mv
namespace PySem
namespace TmX
open PySem.W PySem.HandSPX PyProof.Rows PySem.Calls
def iA (p1 p2 : Pos) : Arguments := { posonlyargs := [], args := [{ arg := "self", annotation := none, pos := p1 }, { arg := "most", annotation := none, pos := p2 }], vararg := none, kwonlyargs := [], kw_defaults := [], kwarg := none, defaults := [] }
def iB (q1 q2 q3 q4 : Pos) : List Stmt := [.Assign [.Attribute (.Name "self" q1) "most" q2] (.Name "most" q3) q4]
def iS : Scope := { kind := .function, names := [(PySem.Str.ofString "self", .local), (PySem.Str.ofString "most", .local)], isGenerator := false, isCoroutine := false, more := [] }
structure TmTxt (K : Frag) (mg : Str → Option Value) (C fI : Addr) : Prop where
  gC : mg "TooMany" = some (.ref C)
  cls : ∃ nm q N bs bm sn sub ab col dd k0 k1 k2 k3 k5, K.lookup C = some (excClassObj nm q C N bs bm true sn sub ab col dd k0 k1 k2 k3 k5 "ValueError.__new__") ∧ refsVE bm = true
  sa : findIn K (.ref C) "__setattr__" = some (some (.builtin "object.__setattr__"))
  ga : findIn K (.ref C) "__getattribute__" = some (some (.builtin "BaseException.__getattribute__"))
  gg : findIn K (.ref C) "__getattr__" = some none
  noN : findIn K (.ref C) "most" = some none
  iC : findIn K (.ref C) "__init__" = some (some (.ref fI))
  tC : typeIn K (.ref fI) = some (.type "function")
  kC : keepIn K (.ref C) = true
  exC : subIn K (.ref C) (.type "BaseException") = some true
  tyC : typeIn K (.ref C) = some (.type "type")
  hdC : hasDictIn K C = true
  te : exmOne K (.ref C) (.ref C) = some true
  fn : ∃ (oc : Value) (od : Option Addr) (doc pm : Value) (an : Option Addr) (cdv ct : Value) (osl : Array (Option Value)) (p1 p2 q1 q2 q3 q4 : Pos),
    K.lookup fI = some ⟨oc, od, .func (fnOf "__init__" "TooMany.__init__" (iA p1 p2) (iB q1 q2 q3 q4) iS .none .none doc pm an cdv ct), osl⟩ ∧ codeIn K cdv "TooMany.__init__" = true
theorem TmTxt.isCls {K : Frag} {mg : Str → Option Value} {C fI : Addr} (T : TmTxt K mg C fI) : (clsIn K C).isSome = true := by
  obtain ⟨nm, q, N, bs, bm, sn, sub, ab, col, dd, k0, k1, k2, k3, k5, hC, hbm⟩ := (T.cls)
  unfold clsIn
  rw [hC] <;> rfl
theorem one_size (v : Value) : [v].length ≤ sizeLine := by
  rw [sizeLine_eq]
  exact ((by decide : 1 ≤ 16777216))
theorem ldC {M : Model} {s : Shared} {name : Str} {scope : Scope} {L a : Addr} {cd : Value} {m : Str → Option Value} {x : Str} {pos : Pos} {v : Value} {Q : Value → Shared → Prop} {A : Around} {E : Value → Shared → Prop} (hn : s.heap.Ns L m) (hv : m x = some v) (h : Q v s)
    (hk : scope.kind = .function := by rfl) (hl : (envOfC name scope L a cd).kindOf x = some .local := by rfl) (hd : (x == ("__debug__" : Str)) = false := by decide) :
    wpAny M A (eval (.Name x pos) (envOfC name scope L a cd)) Q E s := wpAny_Name (wpAny_loadName_local hk hl hn hv h) hd
structure InitEnd (h h' : Heap) (x C dx t1 : Addr) (v : Value) : Prop where
  keep : ∀ b o, b ≠ x → h.get? b = some o → h'.get? b = some o
  obj : h'.get? x = some { cls := .ref C, dict := some dx, data := .fields #[.ref t1, .none, .none, .none, .bool false, .none] }
  dbig : h.objs.size ≤ dx
  dne : dx ≠ x
  ns : h'.Ns1 dx (fun y => if y = "most" then some v else none)
structure OwnMade (h h' : Heap) (e C d : Addr) (v : Value) : Prop where
  keep : ∀ b o, h.get? b = some o → h'.get? b = some o
  new : h.objs.size ≤ e
  obj : ∃ oe vs, h'.get? e = some oe ∧ oe.cls = .ref C ∧ oe.dict = some d ∧ oe.data = .fields vs ∧ vs[1]? = some .none
  dbig : h.objs.size ≤ d
  dne : d ≠ e
  ns : h'.Ns1 d (fun y => if y = "most" then some v else none)
section
variable {prog : Program} {w : World} {A : Around} {E : Value → Shared → Prop} {R : Result → Shared → Prop} {s : Shared} {K : Frag} {mg : Str → Option Value} {C fI : Addr}
theorem tm_init (T : TmTxt K mg C fI) {x t0 : Addr} {v : Value} (X : K.In s.heap) (hlim : s.heap.NoLimit) (hx : s.heap.get? x = some (excO C t0)) (hnx : K.lookup x = none) (hroom : A.depth < recursionLimit)
    (hq : ∀ h' tk dx, InitEnd s.heap h' x C dx t0 v → R (.ok (.ret .none)) { s with heap := h', toks := tk }) :
    codeAny (model prog w) A (.call (.ref fI) ⟨[.ref x, v], []⟩) R s := by
  obtain ⟨oc, od, doc, pm, an, cdv, ct, osl, p1, p2, q1, q2, q3, q4, ho, hcd⟩ := (T.fn)
  obtain ⟨nm, q, N, bs, bm, sn, sub, ab, col, dd, k0, k1, k2, k3, k5, hC, hbm⟩ := (T.cls)
  have hcl : (clsIn K C = some { name := nm, bases := bs, mro := .ref C :: bm, ns := N, qualname := q, hasDict := true, slotNames := sn, subclasses := sub, abstract := ab, collection := col, hasDel := false }) := by unfold clsIn; rw [hC] <;> rfl
  refine Att.call_fn (binds := [("self", .ref x), ("most", v)]) X hlim ho hcd hroom (BindsTo.of_eq (by first | rfl | with_unfolding_all rfl)) (by first | rfl | decide | with_unfolding_all rfl) (fun s₁ IC => ?_) rfl rfl rfl
  obtain ⟨h₁, tk₁, rfl⟩ := (IC.toInCall.same)
  have k : (∀ b o, s.heap.get? b = some o → h₁.get? b = some o) := IC.toInCall.keep
  have hn := IC.toInCall.ns
  have hxL : (s.heap.objs.size ≠ x) := Nat.ne_of_gt (Heap.lt_size hx)
  have X₁ : (K.In h₁) := X.keeps k
  have hx₁ := k _ _ hx
  show (wpAny _ _ (execs _ _) _ _ _)
  refine (wpAny_execs_cons (plainObj_wpAny_Assign_Attribute ?_))
  refine (ldC (v := v) hn (by first | rfl | with_unfolding_all rfl | kernel_rfl) (ldC (v := .ref x) hn (by first | rfl | with_unfolding_all rfl | kernel_rfl) ?_))
  refine set_plain X₁ (ox := excO C t0) (od := none) ⟨hx₁, rfl, rfl, trivial⟩ T.sa ?_
  refine (exc_osa X₁ hx₁ hcl (show refsVE (.ref C :: bm) = true from hbm) rfl T.noN (fun h₃ tk₃ dx k₃ dn dne hx₃ hn₃ => ?_))
  show (wpAny _ _ (execs _ _) _ _ _)
  have z : (s.heap.objs.size < h₁.objs.size) := hn.lt
  exact (wpAny_execs_nil (hq h₃ tk₃ dx ⟨fun b o hb e => k₃ b o hb (k b o e), hx₃, Nat.le_of_lt (Nat.lt_of_lt_of_le z dn), dne, hn₃⟩))
theorem tm_made (T : TmTxt K mg C fI) {v : Value} (X : K.In s.heap) (hlim : s.heap.NoLimit) (hroom : A.depth + 1 < recursionLimit)
    (hq : ∀ h' tk e d, OwnMade s.heap h' e C d v → R (.ok (.ret (.ref e))) { s with heap := h', toks := tk }) :
    codeAny (model prog w) A (.call (.ref C) ⟨[v], []⟩) R s := by
  obtain ⟨nm, q, N, bs, bm, sn, sub, ab, col, dd, k0, k1, k2, k3, k5, hC, hbm⟩ := (T.cls)
  obtain ⟨hp, g, dr, tk, os⟩ := (s)
  have k : (∀ b o, hp.get? b = some o → ((hp.push (kdv_tup [v])).push (excO C hp.objs.size)).get? b = some o) := fun b o e => Heap.get?_push_of_some _ (Heap.get?_push_of_some _ e)
  have hget : (((hp.push (kdv_tup [v])).push (excO C hp.objs.size)).get? (hp.objs.size + 1) = some (excO C hp.objs.size)) := by heap_get
  have hnx : (K.lookup (hp.objs.size + 1) = none) := by
    cases e : (K.lookup (hp.objs.size + 1)) with
    | none => rfl
    | some o =>
      have z : (hp.get? (hp.objs.size + 1) = some o) := X _ _ e
      exact (absurd (Nat.lt_of_succ_lt (Heap.lt_size z)) (Nat.lt_irrefl _))
  refine call_own F.excBase_ValueError (fun X => refsVE_contains X bm hbm) (X _ _ hC) (looks_findIn X T.iC) (fun self => bind_fn X self T.tC) (one_size v) ?_
  refine tm_init (s := ⟨(hp.push (kdv_tup [v])).push (excO C hp.objs.size), g, dr, tk, os⟩) T (X.keeps k) (hlim.keeps k) hget hnx ?_ fun h' tk' dx ⟨k', hx, dn, dne, hns⟩ => ?_
  · show (A.depth + 1 < recursionLimit)
    exact hroom
  · have old : (∀ b o, hp.get? b = some o → h'.get? b = some o) := fun b o e => k' b o (Nat.ne_of_lt (Nat.lt_succ_of_lt (Heap.lt_size e))) (k b o e)
    have z : (hp.objs.size + 1 + 1 ≤ dx) := by
      first
        | (simpa only [Heap.size_push] using dn)
        | exact dn
        | (have q := dn; rw [Heap.size_push, Heap.size_push] at q; exact q)
    exact (⟨rfl, hq h' tk' (hp.objs.size + 1) dx ⟨old, Nat.le_succ _, ⟨_, _, hx, rfl, rfl, rfl, rfl⟩, Nat.le_trans (Nat.le_trans (Nat.le_succ _) (Nat.le_succ _)) z, dne, hns⟩⟩)
end
end TmX
end PySem
namespace L2
open PySem PyProof.Rows PySem.Spec
theorem relO_tm {v : V} {v' : Value} (r : RelV v v') (f : Str) : RelO (List.lookup f [(("most" : Str), v)]) (if f = "most" then some v' else none) := by
  by_cases hw : f = "most"
  · subst hw
    rw [if_pos rfl]
    have q : List.lookup ("most" : Str) [(("most" : Str), v)] = some v := by simp [List.lookup]
    rw [q]
    exact r
  · rw [if_neg hw]
    have qw : (f == ("most" : Str)) = false := by simpa using hw
    have q2 : List.lookup f [(("most" : Str), v)] = none := by simp [List.lookup, qw]
    rw [q2]
    trivial
section
variable {X : Cx} {C fI : Addr}
def tMkTm (C : Addr) (ta : TA) : St → Hp → XK → Prop := fun σ H Q => ta σ H fun vs H1 => ∃ v, vs = [v] ∧ ∀ d, H1 d = none → Q (.ref C) (some d) (upd H1 d (.xd [(("most" : Str), v)]))
theorem pmk_tm {a : Expr} {ta : TA} {p pos : Pos} {k : Nat} (T : PySem.TmX.TmTxt X.K X.mg C fI) (hr : Room k X.A) (ha : PA X [a] ta) (hg : Gl X "TooMany" := by rfl)
    (he : starEach (a :: []) X.env = (false, eval a X.env) :: starEach [] X.env := by rfl) (hpl : (backTo pos (starEach [] X.env)).any (·.1) = false := by rfl) :
    PMk X (.Call (.Name "TooMany" p) [a] [] pos) (tMkTm C ta) := by
  intro pins s σ H Q I h
  refine (wpAny_Call_Name_kw (ld_glob I hg T.gC ?_))
  refine (PySem.W.callWith_K (h₀ := X.base) I.ok.mod.kin T.kC (thn (ha.run pos pins s σ H _ I h) fun us s1 hh => ?_) he hpl)
  obtain ⟨vs, H1, I1, r1, v, ev, q1⟩ := (hh)
  subst ev
  refine ⟨I1.kIn, ?_⟩
  cases r1 with
  | cons rv rn =>
    rename_i v' us'
    cases rn
    show (wpAny _ _ (call (.ref C) [v']) _ _ _)
    have hlim := I1.nolimit
    obtain ⟨hp, g, dr, tk, os⟩ := (s1)
    refine wpAny_call (PySem.TmX.tm_made T I1.kIn hlim (by have := hr.dp; omega) fun h' tk' e d M => ?_)
    show (MkP X pins σ Q (.ref e) ⟨h', g, dr, tk', os⟩)
    obtain ⟨oe, fv, hoe, hc, hd, hdat, h1⟩ := (M.obj)
    have hns := M.ns
    obtain ⟨G', g1, g2⟩ := (restrict h' fun b => decide (b ≠ e))
    have gk : (∀ b, b ≠ e → G'.get? b = h'.get? b) := fun b hb => g1 b (decide_eq_true hb)
    have ge : (G'.get? e = none) := g2 e (by simp)
    have old : (∀ b o, hp.get? b = some o → G'.get? b = some o) := fun b o q => (gk b (Nat.ne_of_lt (Nat.lt_of_lt_of_le (Heap.lt_size q) M.new))).trans (M.keep b o q)
    have ob : ObjOk X.prog X.w (upd H1 d (.xd [(("most" : Str), v)])) G' d (.xd [(("most" : Str), v)]) :=
      ⟨_, hns.at (fun o q => (gk d M.dne).trans q), fun f => relO_tm rv f⟩
    have J : Inv X pins σ (upd H1 d (.xd [(("most" : Str), v)])) ⟨G', g, dr, tk', os⟩ := I1.laid (t' := tk') old M.dbig ob
    refine (⟨e, oe, fv, ⟨G', g, dr, tk', os⟩, _, .ref C, some d, rfl, J, fun b o q => ?_, ge, hoe, ⟨hc, hd⟩, hdat, h1, ?_, rfl, I1.bare, raises_own T.exC T.tyC, q1 d (I1.hok.fresh M.dbig)⟩)
    · by_cases hb : b = e
      · have q' : G'.get? b = some o := q
        rw [hb, ge] at q'; cases q'
      · exact ((gk b hb).symm.trans q)
    · rw [upd_ne (Ne.symm M.dne)]
      exact I1.hok.fresh M.new
def tRaiseTm (C : Addr) (W : WX) (ta : TA) : TS := fun _ σ H => tMkTm C ta σ H fun cls d H' => W cls d σ H'
theorem ps_raiseTm {a : Expr} {ta : TA} {W : WX} {p pos pos2 : Pos} {k : Nat} (hc : X.calm = true) (T : PySem.TmX.TmTxt X.K X.mg C fI) (hr : Room k X.A) (tk : Takes X W) (ha : PA X [a] ta) (hg : Gl X "TooMany" := by rfl)
    (he : starEach (a :: []) X.env = (false, eval a X.env) :: starEach [] X.env := by rfl) (hpl : (backTo pos (starEach [] X.env)).any (·.1) = false := by rfl) :
    PS X (.Raise (some (.Call (.Name "TooMany" p) [a] [] pos)) none pos2) (tRaiseTm C W ta) := ps_raise hc tk (pmk_tm T hr ha hg he hpl)
end
end L2
namespace Mv
open PySem L2 Evl LamX
section
variable {E : XK} {ad : Str → Addr} {ta : TA} {fa : En → Ra}
def fRaiseM (fa : En → Ra) (Γ : En) : Rf := match fa Γ with
  | some (.vals [.int m]) => match tmName m with
    | some x => some (.ex x)
    | none => none
  | some (.exc x) => some (.ex x)
  | _ => none
theorem u_raiseM {C : Addr} (hC : ad "TooMany" = C) (h : Sa E ad ta fa) : Ss E ad (tRaiseTm C (fun cls d _ H => E cls d H) ta) (fRaiseM fa) := fun G0 H0 σ Γ G H R r e D' q => by
  unfold fRaiseM at e
  split at e
  · rename_i m e1
    split at e
    · rename_i x e2
      cases e
      refine h σ Γ G H R.r _ e1 _ fun vs G2 H2 s2 dq => ?_
      cases dq with
      | cons a b =>
        cases b; cases a
        refine ⟨_, rfl, fun d hd => ?_⟩
        have z := (q G2 H2 (R.s.trans s2)).most (tm_name e2) d hd
        rw [hC] at z
        exact z
    · cases e
  · rename_i x e1
    cases e
    exact h σ Γ G H R.r _ e1 _ fun G2 H2 s2 => q G2 H2 (R.s.trans s2)
  · cases e
end
theorem xd_ns {P : Program} {w : World} {H : Hp} {h : Heap} {dd : Addr} {v : V} (hx : ObjOk P w H h dd (.xd [(("most" : Str), v)])) : ∃ od, h.get? dd = some od ∧ ∃ u, PySem.W.lookIn "most" od = some (some u) ∧ RelV v u := by
  obtain ⟨mA, hns, hr⟩ := hx
  obtain ⟨od, ho, hl⟩ := (lookIn_ns hns)
  have l : List.lookup ("most" : Str) [(("most" : Str), v)] = some v := by simp [List.lookup]
  obtain ⟨u, hu, ru⟩ := RelO.some_of (v := v) (o := mA "most") (by rw [← l]; exact hr "most")
  exact ⟨od, ho, u, by rw [hl, hu], ru⟩
def rIsM (K : PySem.W.Frag) (C : Addr) : List V → Hp → VK → Prop := fun xs H Q => ∃ (a dd : Addr) (v : V), xs = [.ref a, .ref C] ∧ H a = some (CauO (.ref C) (some dd) a) ∧ H dd = some (.xd [(("most" : Str), v)]) ∧ Q (.bl true) H
theorem call_isM {X : Cx} {C : Addr} (B : L2.ExcC X.K C) (hc : (PySem.W.clsIn X.K C).isSome = true) : CallR X (.builtin "isinstance") (rIsM X.K C) := by
  intro pins; intro s σ H xs us Q I r h
  obtain ⟨a, dd, v, rfl, ha, hd, q⟩ := h
  obtain ⟨ua, ub, rfl, r1, r2⟩ := vals2 r
  obtain rfl : ua = Value.ref a := r1
  obtain rfl : ub = Value.ref C := r2
  obtain ⟨⟨oe, vs, hg, hz, hv⟩, _, _⟩ := I.hok a _ ha
  obtain ⟨od, ho, _⟩ := xd_ns (I.hok dd _ hd)
  have J : PySem.W.InstAt s.heap a oe C (some od) := ⟨hg, hz.1, by unfold PySem.W.notCls; rw [hv] <;> rfl, by rw [hz.2]; exact ho⟩
  refine PySem.W.kia_one (PySem.W.kitx_exc hc B.hg B.hk B.hs B.ha B.hn B.ht B.hm) I.kIn J (show PySem.W.kitOne X.K (.ref C) (.ref C) = some true from if_pos (beq_self_eq_true _)) (fun z => nomatch z) fun tk => ⟨.bl true, H, I.kept (t' := tk) fun _ _ z => z, rfl, q⟩
def tMost (C : Addr) (te : TE) : TE := fun σ H Q => te σ H fun x H1 => ∃ (a dd : Addr) (v : V), x = .ref a ∧ H1 a = some (CauO (.ref C) (some dd) a) ∧ H1 dd = some (.xd [(("most" : Str), v)]) ∧ Q v H1
theorem pe_most {X : Cx} {C fI : Addr} {e : Expr} {te : TE} {pos : Pos} (T : PySem.TmX.TmTxt X.K X.mg C fI) (he : PE X e te) (hb : attributeBase e "most" X.env (eval e X.env) = eval e X.env := by rfl) : PE X (.Attribute e "most" pos) (tMost C te) := by
  refine (⟨fun pins s σ H Q I h => ?_⟩)
  refine (attr_of hb (thn (he.run pins s σ H _ I h) fun u s1 hh => ?_))
  obtain ⟨x, H1, I1, rx, a, dd, v, ex, ha, hd, q⟩ := hh
  subst ex
  obtain rfl : u = Value.ref a := (rx)
  obtain ⟨⟨oe, vs, hg, hz, hv⟩, _, _⟩ := I1.hok a _ ha
  obtain ⟨od, ho, u, hu, ru⟩ := xd_ns (I1.hok dd _ hd)
  have J : PySem.W.InstAt s1.heap a oe C (some od) := ⟨hg, hz.1, by unfold PySem.W.notCls; rw [hv] <;> rfl, by rw [hz.2]; exact ho⟩
  exact HandSPX.exc_get I1.kIn J T.ga T.gg T.exC (PySem.W.findObj_own T.hdC T.noN rfl hu) (handed_of ru) ⟨v, H1, I1.tok _, ru, q⟩
end Mv
namespace Mv
open PySem L2 Evl LamX
section
variable {X : Cw} {Xc : Cx} {s l c : Addr} {T T' : Int} {G H G' H' G1 H1 G2 H2 G0 H0 : Hp} {σ : L2.St} {Γ Γ' : En} {K : PySem.W.Frag} {k : Nat} {ad : Str → Addr}
theorem tabsU_put {T : List (Addr × Str)} {H : Hp} {p : Addr} {xs ys : List V} (x : Tabs T H) (hp : H p = some (.lst xs)) : Tabs T (upd H p (.lst ys)) := fun q hq => by
  obtain ⟨ps, h1, h2, h3⟩ := x q hq
  refine ⟨ps, ?_, h2, fun pos cv hc => ?_⟩
  · rw [upd_ne (fun z => by rw [z, hp] at h1; cases h1)]; exact h1
  · obtain ⟨c, e1, e2⟩ := h3 pos cv hc
    refine ⟨c, e1, ?_⟩
    rw [upd_ne (fun z => by rw [z, hp] at e2; unfold CodeO at e2; cases e2)]; exact e2
theorem WdU.put {p : Addr} {o : HO} (x : Wd G H s l c T) (gp : G p = none) (na : p ∉ [s, l, c]) : Wd G (upd H p o) s l c T := by
  simp only [List.mem_cons, List.not_mem_nil, or_false, not_or] at na
  obtain ⟨⟨⟨lg, cs, left, turn, h1, h2, h3, h⟩, q⟩, _⟩ := id (And.intro x.st trivial)
  refine ⟨fun b o z => ?_, ⟨⟨lg, cs, left, turn, by rw [upd_ne (Ne.symm na.1)]; exact h1, by rw [upd_ne (Ne.symm na.2.1)]; exact h2, by rw [upd_ne (Ne.symm na.2.2)]; exact h3, h⟩, q⟩, x.gs, x.gl, x.gc⟩
  have nb : b ≠ p := fun e => by rw [e, gp] at z; cases z
  rw [upd_ne nb]
  exact x.w b o z
theorem RelW.put {p : Addr} {xs ys : List V} (R : RelW X s l c T G H σ Γ) (gp : G p = none) (hp : H p = some (.lst xs)) (na : p ∉ [s, l, c]) (ap : ∀ (i : Nat) (c' : Ce), Γ[i]? = some c' → isMut c' = true → σ[i]? ≠ some (some (.ref p))) : RelW X s l c T G (upd H p (.lst ys)) σ Γ := by
  have wd := WdU.put (o := .lst ys) R.wd gp na
  refine ⟨⟨wd.w, R.r.len, fun i c2 e => ?_, R.r.sep⟩, wd, R.st, R.ap, R.nt, tabsU_put R.tb hp, R.z⟩
  have hc := R.r.c i c2 e
  cases c2 with
  | un => trivial
  | fx v => exact hc
  | d z => exact hc
  | ml ds =>
    obtain ⟨q, e1, m⟩ := hc
    obtain ⟨us, e2, q2⟩ := m.at_
    exact ⟨q, e1, m.g, us, by rw [upd_ne (fun z => ap i _ e rfl (by rw [z] at e1; exact e1))]; exact e2, q2⟩
  | md es =>
    obtain ⟨q, e1, m⟩ := hc
    obtain ⟨us, e2, q2⟩ := m.at_
    exact ⟨q, e1, m.g, us, by rw [upd_ne (fun z => ap i _ e rfl (by rw [z] at e1; exact e1))]; exact e2, q2⟩
theorem StN.back {b : Addr} (x : StN s l c G0 H0 G H) (hb : b ∉ [s, l, c]) (e : noT H b = none) : noT H0 b = none := by
  cases e0 : noT H0 b with
  | none => rfl
  | some o => rw [x.h b o hb e0] at e; cases e
theorem RelW.fresh {p : Addr} (R : RelW X s l c T G H σ Γ) (hp : H p = none) : p ∉ [s, l, c] := fun hm => by
  obtain ⟨⟨lg, cs, left, turn, a1, a2, a3, _⟩, _⟩ := R.wd.st
  simp only [List.mem_cons, List.not_mem_nil, or_false] at hm
  rcases hm with z | z | z
  · rw [z, a1] at hp; cases hp
  · rw [z, a2] at hp; cases hp
  · rw [z, a3] at hp; cases hp
theorem RelW.self (R : RelW X s l c T G H σ Γ) : StN s l c G H G H := by
  have x1 := R.toN (.refl R.r.w)
  rw [noT_id R.nt] at x1
  exact x1
end
end Mv
namespace Mv
open PySem PySem.Spec L2 LamX PyProof.Rows
def tLamE (X : Cx) (k : Nat) (te : TE) (TT : (XK → Hp → VK → Prop) → Hp → VK → Prop) : TE := fun σ H Q => te σ H fun v H1 => ∃ (f c' : Addr) (t : XK → TE), v = .ref f ∧ H1 f = some (LamO X k f c' t) ∧ H1 c' = some (CodeO c' (X.env.qual ++ "<lambda>")) ∧ TT (fun E H' Q' => t E σ H' Q') (delH H1 f) Q
theorem pe_lamE {X : Cx} {TT : (XK → Hp → VK → Prop) → Hp → VK → Prop} {x a : Str} {ex : Expr} {te : TE} {g : Addr} {k : Nat} {pg : Arguments} {bg : List Stmt} {sg : Scope} {dV kV doc pm cdv ct oc : Value} {an od : Option Addr} {osl : Array (Option Value)} {Ng : List Str}
    {p pos : Pos} (hg : Gl X x) (hm : X.mg x = some (.ref g)) (hk : PySem.W.keepIn X.K (.ref g) = true) (lk : X.K.lookup g = some ⟨oc, od, .func (PySem.W.fnOf x x pg bg sg dV kV doc pm an cdv ct), osl⟩) (hcg : PySem.W.codeIn X.K cdv x = true) (hb : L2.Binds X.K (PySem.W.fnOf x x pg bg sg dV kV doc pm an cdv ct) [a] [])
    (Sg : FnScope Ng [a] sg) (hNg : Ng[0]? = some a) (hva : Vis sg a) (hG : GivesTo X Ng x sg g cdv bg a (X.env.qual ++ "<lambda>") TT) (hr : Room (k + 2) X.A) (hw : PE X ex te)
    (hst : starEach [ex] X.env = (false, eval ex X.env) :: starEach [] X.env := by rfl)
    (hdb : (x == ("__debug__" : Str)) = false := by decide) (hd : (a == ("__debug__" : Str)) = false := by decide) (hcd : (a == ("__classdict__" : Str)) = false := by decide) :
    PE X (.Call (.Name x p) [ex] [] pos) (tLamE X k te TT) := by
  refine ⟨fun pins s σ H Q I h => wpAny_Call_Name_kw (ld_glob I hg hm ?_ hdb)⟩
  refine PySem.W.callWith_K (h₀ := X.base) I.ok.mod.kin hk (thn ((pa_cons hw pa_nil hst).run pos pins s σ H (fun vs H1 => match vs with
    | [v] => ∃ (f c' : Addr) (t : XK → TE), v = .ref f ∧ H1 f = some (LamO X k f c' t) ∧ H1 c' = some (CodeO c' (X.env.qual ++ "<lambda>")) ∧ TT (fun E H' Q' => t E σ H' Q') (delH H1 f) Q
    | _ => False) I h) fun us s1 ⟨vs, H1, I1, rv, q⟩ => ⟨I1.kIn, ?_⟩) hst (by rfl)
  match vs, q with
  | [v], q =>
  obtain ⟨f, c', t, rfl, hf, hc, ht⟩ := q
  cases rv with
  | cons r1 rn =>
    cases rn
    obtain rfl := r1
    obtain ⟨⟨params, body, scope, pm', ctv, hget, L, hbind, hbody⟩, _, _⟩ := I1.hok f _ hf
    have J : Inv X pins σ (delH H1 f) s1 := forget I1 hf
    have hc2 : delH H1 f c' = some (CodeO c' (X.env.qual ++ "<lambda>")) := by
      by_cases z : c' = f
      · exfalso
        obtain ⟨⟨o1, v1, t1, e1, d1, _⟩, _, _⟩ := I1.hok c' _ hc
        rw [z, hget] at e1
        cases e1
        cases d1
      · rw [delH_ne z]; exact hc
    have off : f ∉ frs X.stack := fun z => by
      have := I1.stkFree f z
      rw [hf] at this
      cases this
    have run : codeAny (model X.prog X.w) X.A (.call (.ref g) ⟨[.ref f], []⟩) (CR C8.CX0 X.stack X.prog X.w (delH H1 f) s1 Q C8.E0) s1 := by
      refine run_ofS (N := Ng) (ps := [a]) (us := [.ref f]) (vs := [.ref f]) lk hcg Sg hr J.env0 (hb s1 [.ref f] J.kIn rfl) (.cons rfl .nil) rfl fun hr2 => ?_
      obtain ⟨t', h1, h2⟩ := hG f c' s1 (delH H1 f) Q (fun E H' Q' => t E σ H' Q') (fun W pn xe E p1 p2 tk hW => pe_act (i := 0) J L hget delH_same off hbind tk hW hr2 (fun A outer s H r => hbody A outer s H E r) hNg hva hd hcd) hc2 ht
      exact ⟨t', h1.nox, h2⟩
    refine wpAny_call (codeAny_mono run fun r s2 hq => ?_)
    cases r with
    | error e => exact (show False from hq).elim
    | ok fl =>
      cases fl with
      | ret u => exact J.after hq
      | next => exact False.elim hq
      | brk => exact False.elim hq
      | cont => exact False.elim hq
end Mv
namespace Mv
open PySem L2 Evl LamX
def SpPk (TL : List (Addr × Str)) : Sp := fun vs H Q _ => ∃ (G : Hp) (s l c : Addr) (T : Int) (p : Addr) (xs : List V), vs = [.ref s, .ref p] ∧ H p = some (.lst xs) ∧ p ∉ [s, l, c] ∧ xs ≠ [] ∧ xs.length ≤ 1000 ∧ T < 1000000000000 ∧ Wd G H s l c T ∧ (∀ (b : Addr) (ps : Array Value), G b ≠ some (.tbl ps)) ∧ Tabs TL H ∧
  ∀ v ∈ xs, ∀ G' H', Wd G' H' s l c (T + 1) → StN s l c G H G' H' → Tabs TL H' → Q v H'
theorem pick_run {K : PySem.W.Frag} {TL : List (Addr × Str)} {vs : List V} {H : Hp} {Q : VK} {E' E2 : XK} (h : SpPk TL vs H Q E') {D' : Ends} (hD : D'.rt = Q) :
    tRet (tOp (rIxL K) (tVar 1) (tCall (SpW TL W__law_draw) [] E2 (tCons (tVar 0) (tCons (tCB (rLenA K) (tCons (tVar 1) tNil)) tNil)))) D' (L2.start ["state", "several"] vs) H := by
  obtain ⟨G, s, l, c, T, p, xs, rfl, hp, na, hne, hlen, hT, wd, nt, tb, k⟩ := h
  unfold tRet
  rw [hD]
  refine ⟨.ref p, rfl, .ref s, rfl, .ref p, rfl, p, xs, rfl, .inl (SqL.of hp), ?_⟩
  have pos : 0 < xs.length := List.length_pos_iff.mpr hne
  refine ⟨G, s, l, c, T, [.int (xs.length : Nat)], [.int (xs.length : Nat)], fun z T' => ∃ r : Int, z = .int r ∧ 0 ≤ r ∧ r < (xs.length : Nat) ∧ T' = T + 1, rfl, .cons (.int _) .nil, wd, nt, tb, ⟨_, rfl, by omega, by omega, hT, fun r r0 r1 => ⟨r, rfl, r0, r1, rfl⟩⟩, ?_⟩
  rintro z T' ⟨r, rfl, r0, r1, rfl⟩ v G' H' wd' x' tb' hv
  cases hv
  have hp' : H' p = some (.lst xs) := (of_noT (x'.h p _ na (noT_at hp (fun _ z => by cases z)))).1
  have hr : r.toNat < xs.length := by omega
  refine ⟨p, xs, r, xs[r.toNat], rfl, rfl, SqL.of hp', ?_, k _ (List.getElem_mem hr) G' H' wd' x' tb'⟩
  unfold atI ixN
  rw [if_pos r0]
  simp [hr, r1]
section
variable {X : Cw} {Xc : Cx} {s l c : Addr} {T T' : Int} {G H G' H' G1 H1 G2 H2 G0 H0 : Hp} {σ : L2.St} {Γ Γ' : En} {K : PySem.W.Frag} {k : Nat} {ad : Str → Addr}
def wPickL (x : Str) (wi : Nat) (as : List ((List D → Re) × (En → Ra))) : WS := fun Γ T nx rt => wi < Γ.length ∧ allRaise x (Γ.set wi .un) as ∧ T < 1000000000000 ∧ rt (.bool true) (T + 1)
theorem w_pickL {C0 : Addr} {x : Str} {mg : Str → Option Value} {wi : Nat} {a0 : La} {as : List La} {E2 : XK} (B : ErrC K mg C0 x (ad x)) (ok : LaOk ad (a0 :: as)) (hn : (a0 :: as).length ≤ 1000) (hw : X.i0 ≠ wi) (hx : tmOf x = none := by decide) :
    Sws X (tSeq (tAsg (tLst (tLamL Xc k X.TL ((a0 :: as).map (La.t ad)))) (gName wi)) (tRet (tCB (rIsK K (ad x)) (tCons (tLamE Xc k (tCall (SpPk X.TL) [] E2 (tCons (tVar X.i0) (tCons (tVar wi) tNil))) (TTc K C0)) (tCons (tC (.ref (ad x))) tNil))))) (wPickL x wi ((a0 :: as).map La.p)) := fun s l c G0 H0 T σ Γ G H R nx rt hp D' hn2 hr => by
  obtain ⟨hwl, hra, hT, hp⟩ := hp
  have hwi : wi < σ.length := by rw [R.r.r.len]; exact hwl
  unfold tSeq tAsg tLst
  refine lamL_made (G0 := G0) (H0 := H0) ((a0 :: as).map (La.t ad)) [] H _ R.r R.x (fun _ h => nomatch h) List.Pairwise.nil fun L H2 eL R2 x2 ok2 nd2 => ?_
  rw [List.nil_append] at ok2 nd2
  have lenL : L.length = (a0 :: as).length := by rw [← List.length_map (f := La.t ad) (as := a0 :: as), ← eL, List.length_map]
  refine ⟨by rw [List.length_map, lenL, sizeLine_eq]; exact Nat.le_trans hn (by decide), fun p hp0 => ?_⟩
  have gp : G p = none := fresh_back R2.r.w hp0
  have na := R2.fresh hp0
  obtain ⟨R3, x3⟩ := R2.new (o := .lst (L.map fun x => V.ref x.1)) hp0
  have x03 := x2.trans x3
  have R4 := R3.setU (j := wi) (v := some (.ref p)) hw
  refine ⟨.ref s, R4.sl, .ref p, List.getElem?_set_self hwi, ?_⟩
  show SpPk X.TL [V.ref s, .ref p] _ _ E2
  refine ⟨G, s, l, c, T, p, L.map fun x => V.ref x.1, rfl, upd_same, na, ?_, by rw [List.length_map, lenL]; exact hn, hT, R3.wd, R3.nt, R3.tb, fun v hv Gd Hd wdd xd tbd => ?_⟩
  · intro z
    have := congrArg List.length z
    rw [List.length_map, lenL] at this
    cases this
  obtain ⟨x1, hx1, rfl⟩ := List.mem_map.mp hv
  have hA := ok2 x1 hx1
  have htm : x1.2.2 ∈ (a0 :: as).map (La.t ad) := by rw [← eL]; exact List.mem_map.mpr ⟨x1, hx1, rfl⟩
  obtain ⟨a, ha, ea⟩ := List.mem_map.mp htm
  have l3 : upd H2 p (.lst (L.map fun x => V.ref x.1)) x1.1 = some (LamO Xc k x1.1 x1.2.1 x1.2.2) := by rw [upd_ne (ne_of_none hA.l hp0)]; exact hA.l
  have c3 : upd H2 p (.lst (L.map fun x => V.ref x.1)) x1.2.1 = some (CodeO x1.2.1 (Xc.env.qual ++ "<lambda>")) := by rw [upd_ne (ne_of_none hA.c hp0)]; exact hA.c
  have stays : ∀ (b : Addr) (o : HO), b ∉ [s, l, c] → upd H2 p (.lst (L.map fun x => V.ref x.1)) b = some o → (∀ ps, o ≠ .tbl ps) → Hd b = some o := fun b o nb e n => (of_noT (xd.h b o nb (noT_at e n))).1
  have ld : Hd x1.1 = some (LamO Xc k x1.1 x1.2.1 x1.2.2) := stays _ _ (st_apart R3.wd.st l3 (.inr ⟨_, rfl⟩)) l3 (fun _ z => by unfold LamO at z; cases z)
  have cd : Hd x1.2.1 = some (CodeO x1.2.1 (Xc.env.qual ++ "<lambda>")) := stays _ _ (st_apart R3.wd.st c3 (.inr ⟨_, rfl⟩)) c3 codeO_ne
  refine ⟨x1.1, x1.2.1, x1.2.2, rfl, ld, cd, ?_⟩
  have R5 : RelW X s l c (T + 1) (noT Gd) Hd (σ.set wi (some (.ref p))) (Γ.set wi .un) := R4.stN xd wdd tbd
  have x5 : StN s l c G0 H0 (noT Gd) Hd := x03.trans (StN.cut R3.nt xd)
  have gd : noT Gd x1.1 = none := noT_none (xd.n x1.1 hA.g (by rw [noT_at l3 (fun _ z => by unfold LamO at z; cases z)]; intro z; cases z) (fun xs z => by rw [noT_at l3 (fun _ z => by unfold LamO at z; cases z)] at z; unfold LamO at z; cases z))
  obtain ⟨RD, xD⟩ := R5.del x5 gd ld hA.o
  rw [← ea]
  refine u_call (laOk_mem ok a ha _) _ _ _ _ RD.r _ (allRaise_mem hra a ha) _ fun G7 H7 s7 => ?_
  refine XE.mkP hx ?_
  refine ⟨true, B.e, fun _ e he => ⟨e, .ref (ad x), .ref (ad x), true, rfl, upd_same, .own (ad x), B.k, ?_⟩, (fun z => by cases z)⟩
  have s8 : Stp (noT Gd) (delH Hd x1.1) G7 (upd H7 e (CauO (.ref (ad x)) none e)) := s7.trans (Stp.old s7.w (.new he))
  have R8 := RD.sts (s8.toS (S := [s, l, c])) (RD.wd.stp s8)
  have x8 := xD.trans (RD.toN s8)
  exact hr _ _ hp _ _ _ R8.wd x8 R8.tb (.bl true)
end
end Mv
namespace Mv
open PySem L2 Evl
section
variable {E : XK} {ad : Str → Addr} {K : PySem.W.Frag} {ta tb tj tk : TE} {fa fb fj fk : En → Re}
end
section
variable {X : Cw} {s l c : Addr} {T T' : Int} {G H G' H' G1 H1 G2 H2 G0 H0 : Hp} {σ : L2.St} {Γ Γ' : En} {K : PySem.W.Frag} {ta tj : TE} {Fa : WE} {fj : En → Re} {E : XK} {ad : Str → Addr}
end
end Mv
namespace Mv
open PySem PySem.Spec PyProof.Rows L2 Evl
section
variable {E : XK} {ad : Str → Addr} {K : PySem.W.Frag} {ta tb tc : TE} {fa fb fc : En → Re}
def idxB (ds : List D) (d : D) : Bool := SeqAt.shaped (.list ds) && SeqAt.shaped d && flatD d && flatDs ds
end
end Mv
namespace PySem
section
variable {prog : Program} {w : World} {K : Type} [DecidableEq K] {knd : HeapKind prog w K} {A : Around} {E : Value → Shared → Prop} {s : Shared}
end
section
variable {prog : Program} {w : World} {K : Type} [DecidableEq K] {knd : HeapKind prog w K}
end
end PySem
namespace Mv
open PySem PySem.Spec PyProof.Rows L2 L2.DX Evl
section
variable {X : Cx}
end
end Mv
namespace Mv
open PySem PySem.Spec PyProof.Rows L2 Evl
section
variable {E : XK} {ad : Str → Addr} {K : PySem.W.Frag} {te ta tb tc td tk tv : TE} {tt : TT} {fe fa fb fc fd fk ft : En → Re} {G H G' H' G0 H0 : Hp} {σ : L2.St} {Γ : En} {i : Nat} {tas : TA} {fas : En → Ra} {P : Program} {w : World}
def PoT (G H : Hp) (Q : VK) : Ou → Prop
  | .val (.tuple [.list _, .dict ps]) => ∀ es, dctOf (.dict ps) = some es → ∀ t v1 p G2 H2, Stp G H G2 H2 → H p = none → TupA H2 t [v1, .ref p] → MD G2 H2 p es → Q (.ref t) H2
  | _ => False
theorem fr_back {p : Addr} {s : Stp G H G' H'} (h : H' p = none) : H p = none := by
  cases z : H p with
  | none => rfl
  | some o => rw [s.h _ _ z] at h; cases h
theorem PoT.stp {Q : VK} {r : Ou} (h : PoT G H Q r) (s : Stp G H G' H') : PoT G' H' Q r := by
  unfold PoT at h ⊢
  split at h
  · exact fun es e t v1 p G2 H2 s2 h0 e2 m => h es e t v1 p G2 H2 (s.trans s2) (fr_back (s := s) h0) e2 m
  · exact h.elim
end
section
variable {X : Cw} {s l c : Addr} {T T' : Int} {G H G' H' G1 H1 G2 H2 G0 H0 : Hp} {σ : L2.St} {Γ Γ' : En} {K : PySem.W.Frag}
variable {E : XK} {ad : Str → Addr} {te ta tb : TE} {fe : En → Re} {Fa : WE}
end
end Mv
namespace Mv
open PySem PySem.Spec PyProof.Rows L2 Evl
section
variable {E : XK} {ad : Str → Addr} {K : PySem.W.Frag} {G H G' H' G0 H0 : Hp} {σ : L2.St} {Γ : En}
end
section
variable {E : XK} {ad : Str → Addr} {ts : TS} {fs : En → Rf}
end
mutual
def readB : D → Bool
  | .dict ps => readBP ps
  | .list ds => readBs ds
  | .tuple ds => readBs ds
  | _ => true
def readBs : List D → Bool
  | [] => true
  | d :: ds => readB d && readBs ds
def readBP : List (D × D) → Bool
  | [] => true
  | (.tuple _, v) :: ps => readB v && readBP ps
  | _ :: _ => false
end
section
variable {X : Cx} {pins : List (Addr × Obj)} {σ : L2.St} {H : Hp} {s : Shared}
theorem key_reads (I : Inv X pins σ H s) {b : Addr} {k : KK} (hb : H b = some (.tup (k.map kV))) : Reads s.heap (.ref b) (kD k) [] := by
  obtain ⟨its, rv, ⟨o, ho, hc, n, hd⟩, _⟩ := I.tuple (SqT.of hb)
  have go : ∀ {k : KK} {us : List Value}, Vals (k.map kV) us → ReadsAll s.heap us (k.map keyD) [] := fun {k} => by
    induction k with
    | nil => intro us h; cases h; exact .nil
    | cons x k ih =>
      intro us h
      cases h with
      | cons h1 h2 =>
        cases x with
        | inl i => obtain ⟨t, rfl⟩ := h1; exact ReadsAll.cons (Reads.int i t) (ih h2)
        | inr x => obtain ⟨t, rfl⟩ := h1; exact ReadsAll.cons (Reads.str x t) (ih h2)
  exact Reads.tuple ho hc hd (go rv)
mutual
theorem Dq.readsH (I : Inv X pins σ H s) : ∀ {v : V} {d : D}, Dq H v d → readB d = true → ∀ {u : Value}, RelV v u → ∃ as, Reads s.heap u d as ∧ ∀ b ∈ as, H b ≠ none
  | _, _, .non, _, _, r => by cases r; exact ⟨_, Reads.none, fun b h => by cases h⟩
  | _, _, .bl b, _, _, r => by cases r; exact ⟨_, Reads.bool b, fun b h => by cases h⟩
  | _, _, .int i, _, _, r => by obtain ⟨t, rfl⟩ := r; exact ⟨_, Reads.int i t, fun b h => by cases h⟩
  | _, _, .str x, _, _, r => by obtain ⟨t, rfl⟩ := r; exact ⟨_, Reads.str x t, fun b h => by cases h⟩
  | _, _, .lst (a := a) h k, hb, _, r => by
    cases r
    obtain ⟨its, rv, ⟨o, n, ho, hc, _, hd⟩, _⟩ := I.list (SqL.of h)
    obtain ⟨as, hr, hn⟩ := DqA.readsH I k (by rw [readB] at hb; exact hb) rv
    exact ⟨_, Reads.list ho hc hd hr, fun b hb => by
      rcases (List.mem_cons.mp hb) with e | e
      · rw [e, h]; simp
      · exact hn b e⟩
  | _, _, .tup h k, hb, _, r => by
    cases r
    obtain ⟨its, rv, ⟨o, ho, hc, n, hd⟩, _⟩ := I.tuple h.sq
    obtain ⟨as, hr, hn⟩ := DqA.readsH I k (by rw [readB] at hb; exact hb) rv
    exact ⟨_, Reads.tuple ho hc hd hr, hn⟩
  | _, _, .emp (ds := ds) h q, hb, _, r => by
    rw [readB] at hb
    match ds, q, hb with
    | [], q, _ => cases q
    | (.tuple _, _) :: _, q, _ => cases q
    | (.none, _) :: _, _, hb => cases hb
    | (.bool _, _) :: _, _, hb => cases hb
    | (.int _, _) :: _, _, hb => cases hb
    | (.str _, _) :: _, _, hb => cases hb
    | (.list _, _) :: _, _, hb => cases hb
    | (.dict _, _) :: _, _, hb => cases hb
  | _, _, .dct (a := a) (o := o) (es := es) h k e, hb, _, r => by
    cases r
    subst e
    rw [readB] at hb
    obtain ⟨hg, hl, hs, xs, hp, o2, es2, ep, ho, hx, hd, hes, hnd⟩ := I.hok a _ h
    obtain ⟨as, bs, r1, r2, n1, n2⟩ := DqP.readsH I k hb hp
    have e1 : es2.toList.map (·.key) = xs.map fun x => Value.ref x.2.1 := by rw [hes, List.map_map]; rfl
    have e2 : es2.toList.map (·.val) = xs.map fun x => x.2.2 := by rw [hes, List.map_map]; rfl
    refine ⟨_, Reads.dict ho hx.1 hd (as := as) (bs := bs) ?_ ?_, fun b hb => ?_⟩
    · rw [e1, List.map_map]; exact r1
    · rw [e2, List.map_map]; exact r2
    · rcases List.mem_cons.mp (by simpa using hb : b ∈ a :: (as ++ bs)) with z | z
      · rw [z, h]; simp
      · rcases List.mem_append.mp z with z | z
        · exact n1 b z
        · exact n2 b z
theorem DqA.readsH (I : Inv X pins σ H s) : ∀ {vs : List V} {ds : List D}, DqA H vs ds → readBs ds = true → ∀ {us : List Value}, Vals vs us → ∃ as, ReadsAll s.heap us ds as ∧ ∀ b ∈ as, H b ≠ none
  | _, _, .nil, _, _, r => by cases r; exact ⟨_, .nil, fun b h => by cases h⟩
  | _, _, .cons h k, hb, _, r => by
    rw [readBs, Bool.and_eq_true] at hb
    cases r with
    | cons r1 r2 =>
      obtain ⟨as, q1, n1⟩ := Dq.readsH I h hb.1 r1
      obtain ⟨bs, q2, n2⟩ := DqA.readsH I k hb.2 r2
      exact ⟨_, .cons q1 q2, fun b hb => (List.mem_append.mp hb).elim (n1 b) (n2 b)⟩
theorem DqP.readsH (I : Inv X pins σ H s) : ∀ {kvs : List (KK × V)} {es : List (KK × D)}, DqP H kvs es → readBP (es.map fun e => (kD e.1, e.2)) = true → ∀ {xs : List (KK × Addr × Value)}, Paired (fun (p : KK × V) (q : KK × Addr × Value) => p.1 = q.1 ∧ H q.2.1 = some (.tup (p.1.map kV)) ∧ RelV p.2 q.2.2) kvs xs →
    ∃ as bs, ReadsAll s.heap (xs.map fun x => .ref x.2.1) (es.map fun e => kD e.1) as ∧ ReadsAll s.heap (xs.map fun x => x.2.2) (es.map fun e => e.2) bs ∧ (∀ b ∈ as, H b ≠ none) ∧ ∀ b ∈ bs, H b ≠ none
  | _, _, .nil, _, _, r => by cases r; exact ⟨[], [], .nil, .nil, (fun b h => by cases h), fun b h => by cases h⟩
  | _, _, .cons _ h k, hb, _, r => by
    have hb' : (readB _ && readBP _) = true := hb
    rw [Bool.and_eq_true] at hb'
    cases r with
    | cons r1 r2 =>
      obtain ⟨e1, e2, e3⟩ := r1
      obtain ⟨cs, q1, n1⟩ := Dq.readsH I h hb'.1 e3
      obtain ⟨as, bs, q2, q3, n2, n3⟩ := DqP.readsH I k hb'.2 r2
      exact ⟨_, _, .cons (key_reads I e2) q2, .cons q1 q3, n2, fun b hb => (List.mem_append.mp hb).elim (n1 b) (n3 b)⟩
end
end
end Mv
namespace Mv
open PySem PySem.Spec PyProof.Rows L2 Evl
section
variable {E : XK} {ad : Str → Addr}
end
def rCountD (K : PySem.W.Frag) (k : Bool) : V → List V → Hp → VK → Prop := fun x xs H Q => ∃ (a : Addr) (y : V) (d : PyData) (ds : List PyData), x = V.ref a ∧ xs = [y] ∧ Dp K H (V.ref a) (sq k ds) ∧ Dp K H y d ∧
  SeqAt.shaped (.list ds) = true ∧ SeqAt.shaped d = true ∧ Q (.int ((ds.countP fun y => PyData.eqv y d : Nat) : Int)) H
section
variable {X : Cx}
theorem mt_countL (hu : X.A.units + 65 < cLine) : MtR X "list.count" (rCountD X.K true) := by
  intro pins; intro s σ H x xs v us Q I rx rxs h
  obtain ⟨a, y, d, ds, rfl, rfl, hl, hy, sl, sd, q⟩ := h
  cases rx
  cases rxs with
  | cons ry rt =>
    rename_i uy ut
    cases rt
    obtain ⟨bs, r1⟩ := (Dp.reads I d y uy hy ry)
    have hxs : (PyData.canLayAll0 ds = true) := SeqAt.canLay_of_shaped sl
    have hroom : (X.A.units + 1 + min (PyData.depthAll ds) d.depth < cLine) := room_in_shaped sd hu
    cases hl with
    | lst hs ha =>
      obtain ⟨its, rv, ⟨o, n, ho, hc, hdn, hdt⟩, hlen⟩ := I.list hs
      obtain ⟨as, h4⟩ := (Dp.readsAll I ds _ its ha rv)
      exact SeqAt.count_list_data (vs := its.toArray) ⟨o, ho, hc, n, hdt⟩ (show ReadsAll s.heap its.toArray.toList ds as from h4) r1 (PyData.plainAll_of_canLay0 ds hxs) (PyData.plain_of_canLay0 d (SeqAt.canLay_of_shaped sd)) hroom ⟨.int _, H, I.tok _, ⟨_, rfl⟩, q⟩
end
section
variable {E : XK} {ad : Str → Addr} {K : PySem.W.Frag} {ta tb : TE} {fa fb : En → Re}
def fCnt (k : Bool) (fa fb : En → Re) (Γ : En) : Re := match fa Γ with
  | some (.val c) => match sqOf k c with
    | some ds => match fb Γ with
      | some (.val d) => if idxB ds d = true then some (.val (.int ((ds.countP fun y => PyData.eqv y d : Nat) : Int))) else none
      | some (.exc x) => some (.exc x)
      | none => none
    | none => none
  | some (.exc x) => some (.exc x)
  | none => none
theorem u_cntL (ha : Se E ad ta fa) (hb : Se E ad tb fb) : Se E ad (tBM K "list" (rCountD K true) ta (tCons tb tNil)) (fCnt true fa fb) := fun σ Γ G H R r e Q q => by
  unfold fCnt at e
  split at e
  · rename_i c e1
    split at e
    · rename_i ds es
      obtain rfl : c = .list ds := by
        cases c <;> first | (cases es; rfl) | cases es
      split at e
      · rename_i d e2
        by_cases hz : idxB ds d = true
        · rw [if_pos hz] at e
          cases e
          unfold idxB at hz
          simp only [Bool.and_eq_true] at hz
          obtain ⟨⟨⟨b1, b2⟩, b3⟩, b4⟩ := hz
          refine ha σ Γ G H R _ e1 _ fun v G2 H2 s2 q2 => ?_
          cases q2 with
          | @lst a xs _ hg hx =>
            refine ⟨.inl ⟨rfl, xs, SqL.of (s2.w _ _ hg)⟩, hb σ Γ G2 H2 (R.stp s2) _ e2 _ fun u G3 H3 s3 q3 => ?_⟩
            have hl : Dq G3 (.ref a) (.list ds) := (Dq.lst hg hx).mono s3.g
            exact ⟨a, u, d, ds, rfl, rfl, dp_of s3.w hl (show flatD (.list ds) = true from by simpa [flatD] using b4), dp_of s3.w q3 b3, b1, b2, q _ G3 H3 (s2.trans s3) (.int _)⟩
        · rw [if_neg hz] at e; cases e
      · rename_i x e2
        cases e
        refine ha σ Γ G H R _ e1 _ fun v G2 H2 s2 q2 => ?_
        cases q2 with
        | @lst a xs _ hg hx => exact ⟨.inl ⟨rfl, xs, SqL.of (s2.w _ _ hg)⟩, hb σ Γ G2 H2 (R.stp s2) _ e2 _ fun G3 H3 s3 => q G3 H3 (s2.trans s3)⟩
      · cases e
    · cases e
  · rename_i x e1
    cases e
    exact ha σ Γ G H R _ e1 _ q
  · cases e
end
section
variable {E : XK} {ad : Str → Addr} {K : PySem.W.Frag} {ta tb : TE} {fa fb : En → Re}
end
end Mv
namespace Mv
open PySem PySem.Spec PyProof.Rows L2 Evl HT
section
variable {X : Cx}
end
section
variable {E : XK} {ad : Str → Addr} {K : PySem.W.Frag} {te : TE} {fe : En → Re}
def fRevL (fe : En → Re) (Γ : En) : Re := match fe Γ with
  | some (.val (.list ds)) => some (.val (.list ds.reverse))
  | some (.exc x) => some (.exc x)
  | _ => none
end
end Mv
namespace Mv
open PySem PySem.Spec PyProof.Rows L2 Evl
section
variable {prog : Program} {w : World} {A : Around} {E : Value → Shared → Prop} {s : Shared} {z TI TO i1 i2 T : Addr} {fp1 fp2 : List Addr} {n1 n2 i : Nat} {P1 P2 : Nat → Value → Prop} {St1 St2 : Nat → Heap → Prop} {f : Bool} {oT : Obj}
end
section
variable {prog : Program} {w : World} {A : Around} {E : Value → Shared → Prop} {s : Shared} {z TI TO i1 i2 T : Addr} {fp1 fp2 : List Addr} {n1 n2 i : Nat} {P1 P2 : Nat → Value → Prop} {St1 St2 : Nat → Heap → Prop} {f : Bool} {oT : Obj}
end
def ZS2 (k1 k2 : Bool) (z TI TO i1 i2 a b : Addr) (i : Nat) (H : Hp) (h : Heap) : Prop :=
  IsTupOf2 h TI (.ref i1) (.ref i2) ∧ ItrK k1 h i1 a i ∧ ItrK k2 h i2 b i ∧ (∃ o, h.get? TO = some o) ∧ ((i = 0 ∧ IsZip h z TI TO .none ∧ ∃ x y, IsTupOf2 h TO x y) ∨ ∃ T f u v, IsZipHeld h z TI TO T f ∧ Rd H T (.tup [u, v]))
section
variable {X : Cx} {pins : List (Addr × Obj)} {σ : L2.St} {H : Hp} {s : Shared} {A : Around} {E : Value → Shared → Prop} {z TI TO i1 i2 a b : Addr} {k1 k2 : Bool} {xs ys : List V} {i : Nat}
theorem ZS2.keep {h h' : Heap} (st : ZS2 k1 k2 z TI TO i1 i2 a b i H h) (k : ∀ c ∈ [z, TI, TO, i1, i2], ∀ o, h.get? c = some o → h'.get? c = some o) : ZS2 k1 k2 z TI TO i1 i2 a b i H h' := by
  obtain ⟨t, h1, h2, ⟨oO, eO⟩, q⟩ := st
  refine ⟨k TI (by simp) _ t, h1.at fun o q => k i1 (by simp) o q, h2.at fun o q => k i2 (by simp) o q, ⟨oO, k TO (by simp) _ eO⟩, ?_⟩
  rcases q with ⟨hi0, hz, x, y, hTO⟩ | ⟨T, f, u, v, hz, hT⟩
  · exact .inl ⟨hi0, k z (by simp) _ hz, x, y, k TO (by simp) _ hTO⟩
  · exact .inr ⟨T, f, u, v, k z (by simp) _ hz, hT⟩
end
section
variable {X : Cx} {pins : List (Addr × Obj)} {σ : L2.St} {A : Around} {z TI TO i1 i2 a b : Addr} {k1 k2 : Bool} {xs ys : List V}
end
section
variable {X : Cx} {pins : List (Addr × Obj)} {σ : L2.St} {A : Around} {E : Value → Shared → Prop} {H : Hp} {s : Shared} {z TI TO i1 i2 a b S : Addr} {k1 k2 : Bool} {xs ys : List V}
end
section
variable {as bs : List D}
end
section
variable {K : PySem.W.Frag} {E : XK} {ad : Str → Addr} {tas : TA} {fas : En → Ra} {k1 k2 : Bool}
end
end Mv
namespace Mv
open PySem L2 Evl LamX
section
variable {E : XK} {ad : Str → Addr} {tas tks : TA} {fas fks : En → Ra}
end
section
variable {X : Cw} {s l c : Addr} {T T' : Int} {G H G' H' G1 H1 G2 H2 G0 H0 : Hp} {σ : L2.St} {Γ Γ' : En} {K : PySem.W.Frag} {ta tb te : TE} {Fa Fb F : WE}
theorem RelWS.setN {p : Addr} {ds : List D} {j : Nat} (R : RelWS X s l c G0 H0 T G H σ Γ) (R1 : RelW X s l c T' G2 H2 σ Γ) (x : StN s l c G H G2 H2) (hp : noT H p = none) (m : ML G2 H2 p ds) (hj : X.i0 ≠ j) : RelWS X s l c G0 H0 T' G2 H2 (σ.set j (some (.ref p))) (Γ.set j (.ml ds)) := by
  have x1 := R.x.trans x
  obtain ⟨us, e2, q⟩ := m.at_
  have apart : ∀ {i : Nat} {c' : Ce}, Γ[i]? = some c' → isMut c' = true → σ[i]? ≠ some (some (.ref p)) := fun {i c'} e mc z => by
    have := R.r.r.c i c' e
    cases c' with
    | ml d => obtain ⟨p2, e2, m2⟩ := this; rw [z] at e2; cases e2; obtain ⟨us, e3, _⟩ := m2.at_; have e4 := noT_at e3 (fun _ z => by cases z); rw [hp] at e4; cases e4
    | md d => obtain ⟨p2, e2, m2⟩ := this; rw [z] at e2; cases e2; obtain ⟨us, e3, _⟩ := m2.at_; have e4 := noT_at e3 (fun _ z => by cases z); rw [hp] at e4; cases e4
    | _ => cases mc
  have old0 : noT H0 p = none := by
    cases e : noT H0 p with
    | none => rfl
    | some o =>
      by_cases hb : p ∈ [s, l, c]
      · obtain ⟨⟨lg, cs, left, turn, f1, f2, f3, _⟩, _⟩ := R.r.wd.st
        simp only [List.mem_cons, List.not_mem_nil, or_false] at hb
        rcases hb with z | z | z
        · have e4 := noT_at f1 (fun _ z => by cases z); rw [z, e4] at hp; cases hp
        · have e4 := noT_at f2 (fun _ z => by cases z); rw [z, e4] at hp; cases hp
        · have e4 := noT_at f3 (fun _ z => by cases z); rw [z, e4] at hp; cases hp
      · have := R.x.h p o hb e
        rw [hp] at this; cases this
  have pS : p ∉ [s, l, c] := fun hb => by
    obtain ⟨⟨lg, cs, left, turn, f1, f2, f3, _⟩, _⟩ := R.r.wd.st
    simp only [List.mem_cons, List.not_mem_nil, or_false] at hb
    rcases hb with z | z | z
    · have e4 := noT_at f1 (fun _ z => by cases z); rw [z, e4] at hp; cases hp
    · have e4 := noT_at f2 (fun _ z => by cases z); rw [z, e4] at hp; cases hp
    · have e4 := noT_at f3 (fun _ z => by cases z); rw [z, e4] at hp; cases hp
  refine ⟨⟨⟨R1.r.w, by rw [List.length_set, List.length_set]; exact R1.r.len, fun i c' e => ?_, fun i j' q' ci cj e1 e2' m1 m2 s1 s2 => ?_⟩, R1.wd, by rw [List.getElem?_set_ne (fun z => hj z.symm)]; exact R1.st, fun i c' q' e mc ep => ?_, R1.nt, R1.tb, R1.z⟩, x1, fun i c' q' e mc ep => ?_⟩
  · rcases set_at e with ⟨rfl, hl, rfl⟩ | ⟨ne, e⟩
    · exact ⟨p, by rw [List.getElem?_set_self (by rw [R.r.r.len]; exact hl)], m.g, us, e2, q⟩
    · have := R1.r.c i c' e
      rw [List.getElem?_set_ne (fun z => ne z.symm)]
      exact this
  · rcases set_at e1 with ⟨rfl, hl, rfl⟩ | ⟨ne, k1⟩
    · rw [List.getElem?_set_self (by rw [R.r.r.len]; exact hl)] at s1
      cases s1
      rcases set_at e2' with ⟨rfl, _, _⟩ | ⟨ne2, k2⟩
      · rfl
      · rw [List.getElem?_set_ne (fun z => ne2 z.symm)] at s2
        exact (apart k2 m2 s2).elim
    · rw [List.getElem?_set_ne (fun z => ne z.symm)] at s1
      rcases set_at e2' with ⟨rfl, hl, rfl⟩ | ⟨ne2, k2⟩
      · rw [List.getElem?_set_self (by rw [R.r.r.len]; exact hl)] at s2
        cases s2
        exact (apart k1 m1 s1).elim
      · rw [List.getElem?_set_ne (fun z => ne2 z.symm)] at s2
        exact R.r.r.sep i j' q' ci cj k1 k2 m1 m2 s1 s2
  · rcases set_at e with ⟨rfl, hl, rfl⟩ | ⟨ne, e⟩
    · rw [List.getElem?_set_self (by rw [R.r.r.len]; exact hl)] at ep
      cases ep
      exact pS
    · rw [List.getElem?_set_ne (fun z => ne z.symm)] at ep
      exact R.r.ap i c' q' e mc ep
  · rcases set_at e with ⟨rfl, hl, rfl⟩ | ⟨ne, e⟩
    · rw [List.getElem?_set_self (by rw [R.r.r.len]; exact hl)] at ep
      cases ep
      exact old0
    · rw [List.getElem?_set_ne (fun z => ne z.symm)] at ep
      exact R.n i c' q' e mc ep
end
end Mv
namespace Mv
open PySem L2 Evl LamX
section
variable {X : Cw} {s l c : Addr} {T T' : Int} {G H G' H' G1 H1 G2 H2 G0 H0 : Hp} {σ : L2.St} {Γ Γ' : En} {K : PySem.W.Frag} {ta te tb : TE} {Fa Fb F : WE} {tas : TA} {FA : WA} {E : XK} {ad : Str → Addr}
end
end Mv
namespace Mv
open PySem PySem.Spec PyProof.Rows L2 Evl
section
variable {X : Cx}
end
def keyDB : D → Bool
  | .int _ => true
  | .str _ => true
  | _ => false
def keyAD (ds : List D) : Bool := !ds.isEmpty && ds.all keyDB
theorem DqA.keyB {G : Hp} : ∀ {xs : List V} {ds : List D}, DqA G xs ds → xs.all keyV = ds.all keyDB
  | _, _, .nil => rfl
  | _, _, .cons h t => by
    rw [List.all_cons, List.all_cons, DqA.keyB t]
    congr 1
    cases h <;> rfl
theorem DqA.keyA {G : Hp} {xs : List V} {ds : List D} (h : DqA G xs ds) : Mv.keyA xs = keyAD ds := by
  unfold Mv.keyA keyAD
  rw [h.keyB]
  cases h <;> rfl
section
variable {E : XK} {ad : Str → Addr} {K : PySem.W.Frag} {ta tb : TE} {fa fb : En → Re}
def fTM (f : List D → D → Option Int) (fa fb : En → Re) (Γ : En) : Re := match fa Γ with
  | some (.val (.tuple ds)) => if keyAD ds = true then none else match fb Γ with
    | some (.val d) => if idxB ds d = true then (f ds d).map fun z => .val (.int z) else none
    | some (.exc x) => some (.exc x)
    | none => none
  | some (.exc x) => some (.exc x)
  | _ => none
end
end Mv
namespace Mv
open PySem L2 Evl
abbrev Cn := List (List Int × Int)
def encN (L : Cn) : List (KK × D) := L.map fun q => (kI q.1, .int q.2)
def cnt (L : Cn) (k : List Int) : Option Int := (L.find? fun q => decide (q.1 = k)).map (·.2)
def setN (L : Cn) (k : List Int) (c : Int) : Cn := L.map fun q => if q.1 = k then (q.1, c) else q
theorem lk_encN (k : List Int) : ∀ L : Cn, lkD (encN L) (kI k) = (cnt L k).map .int
  | [] => rfl
  | q :: L => by
    have ih := lk_encN k L
    unfold lkD cnt encN at *
    rw [List.map_cons, List.find?_cons, List.find?_cons]
    by_cases h : q.1 = k
    · rw [decide_eq_true h, decide_eq_true (show kI q.1 = kI k by rw [h])]; rfl
    · rw [decide_eq_false h, decide_eq_false (fun z => h (kI_inj z))]; exact ih
theorem put_encN {L : Cn} {k : List Int} {c : Int} (c' : Int) (h : cnt L k = some c) : putD (encN L) (kI k) (.int c') = encN (setN L k c') := by
  have hm : ((encN L).any fun e => decide (e.1 = kI k)) = true := by
    unfold cnt at h
    obtain ⟨q, hq, _⟩ := Option.map_eq_some_iff.mp h
    have h1 := List.mem_of_find?_eq_some hq
    have h2 : q.1 = k := by have := List.find?_some hq; simpa using this
    exact List.any_eq_true.mpr ⟨(kI q.1, .int q.2), List.mem_map.mpr ⟨q, h1, rfl⟩, decide_eq_true (by rw [h2])⟩
  unfold putD
  rw [if_pos hm]
  unfold encN setN
  (rw [List.map_map, List.map_map])
  refine List.map_congr_left fun q _ => ?_
  show (if kI q.1 = kI k then (kI q.1, PyData.int c') else (kI q.1, .int q.2)) = (kI (if q.1 = k then (q.1, c') else q).1, PyData.int (if q.1 = k then (q.1, c') else q).2)
  by_cases e : q.1 = k
  · rw [if_pos (show kI q.1 = kI k by rw [e]), if_pos e]
  · rw [if_neg (fun z => e (kI_inj z)), if_neg e]
theorem set_keys (L : Cn) (k : List Int) (c : Int) : (setN L k c).map (·.1) = L.map (·.1) := by
  unfold setN
  rw [List.map_map]
  refine List.map_congr_left fun q _ => ?_
  show (if q.1 = k then (q.1, c) else q).1 = q.1
  by_cases e : q.1 = k
  · rw [if_pos e]
  · rw [if_neg e]
theorem cnt_set {k : List Int} {c c' : Int} : ∀ {L : Cn}, cnt L k = some c → cnt (setN L k c') k = some c'
  | [], h => by cases h
  | q :: L, h => by
    unfold cnt setN at *
    rw [List.map_cons, List.find?_cons]
    rw [List.find?_cons] at h
    by_cases e : q.1 = k
    · rw [if_pos e, decide_eq_true e]; rfl
    · rw [decide_eq_false e] at h
      rw [if_neg e, decide_eq_false e]
      exact cnt_set (L := L) h
theorem set_back {k : List Int} {c c' : Int} : ∀ {L : Cn}, (L.map (·.1)).Nodup → cnt L k = some c → setN (setN L k c') k c = L
  | [], _, h => by cases h
  | q :: L, nd, h => by
    rw [List.map_cons, List.nodup_cons] at nd
    unfold cnt at h
    rw [List.find?_cons] at h
    have keep : ∀ M : Cn, k ∉ M.map (·.1) → setN (setN M k c') k c = M := fun M => by
      induction M with
      | nil => intro _; rfl
      | cons x M ih =>
        intro hx
        rw [List.map_cons, List.mem_cons, not_or] at hx
        show (if (if x.1 = k then (x.1, c') else x).1 = k then _ else (if x.1 = k then (x.1, c') else x)) :: setN (setN M k c') k c = _
        rw [ih hx.2, if_neg (Ne.symm hx.1), if_neg (Ne.symm hx.1)]
    show (if (if q.1 = k then (q.1, c') else q).1 = k then ((if q.1 = k then (q.1, c') else q).1, c) else (if q.1 = k then (q.1, c') else q)) :: setN (setN L k c') k c = _
    by_cases e : q.1 = k
    · rw [decide_eq_true e] at h
      have hq : q.2 = c := by simpa using h
      rw [if_pos e, if_pos e, keep L (by rw [← e]; exact nd.1), ← hq]
    · rw [decide_eq_false e] at h
      rw [if_neg e, if_neg e, set_back nd.2 (show cnt L k = some c from h)]
def stepS (go : Rows → Cn → List Rows → Option (List Rows)) (n : List Int) (K : Bg) (most : Int) (route : Rows) (L : Cn) (F : List Rows) (p : List Int) : Option (List Rows) :=
  if p ∉ route ∧ (F.length : Int) < most then
    match route.getLast? with
    | none => none
    | some last => match atKeyB K (takeP n p last) with
      | none => none
      | some q => match cnt L q.2 with
        | none => none
        | some c => if 0 < c then go (route ++ [p]) (setN L q.2 (c - 1)) F else some F
  else some F
def goS (n : List Int) (K : Bg) (len most : Int) : Nat → Rows → Cn → List Rows → Option (List Rows)
  | 0, _, _, _ => none
  | k + 1, route, L, F => if (route.length : Int) = len then some (F ++ [route]) else (placesOf n).foldlM (stepS (goS n K len most k) n K most route L) F
theorem foldM_len {α : Type} {f : List Rows → α → Option (List Rows)} (h : ∀ F p F', f F p = some F' → F.length ≤ F'.length) : ∀ (ps : List α) (F F' : List Rows), ps.foldlM f F = some F' → F.length ≤ F'.length
  | [], F, F', e => by cases e; exact Nat.le_refl _
  | p :: ps, F, F', e => by
    rw [List.foldlM_cons] at e
    cases q : f F p with
    | none => rw [q] at e; cases e
    | some F2 =>
      rw [q] at e
      exact Nat.le_trans (h F p F2 q) (foldM_len h ps F2 F' e)
theorem goS_len {n : List Int} {K : Bg} {len most : Int} : ∀ (k : Nat) (route : Rows) (L : Cn) (F F' : List Rows), goS n K len most k route L F = some F' → F.length ≤ F'.length
  | 0, _, _, _, _, e => by cases e
  | k + 1, route, L, F, F', e => by
    unfold goS at e
    split at e
    · cases e; rw [List.length_append]; omega
    · refine foldM_len (fun F p F2 h => ?_) _ F F' e
      unfold stepS at h
      split at h
      · split at h
        · cases h
        · split at h
          · cases h
          · split at h
            · cases h
            · split at h
              · exact goS_len k _ _ _ _ h
              · cases h; exact Nat.le_refl _
      · cases h; exact Nat.le_refl _
def flS (vd : V) (len : Int) (vk : V) (l : Addr) (most : Int) (f : Addr) : List (Str × V) := [("dials", vd), ("length", .int len), ("kind_of", vk), ("left", .ref l), ("most", .int most), ("found", .ref f)]
def Ob (C : Addr) (G : Hp) (p l f : Addr) (dl kd : D) (len most : Int) : Prop := ∃ dx vd vk, G p = some (.ins C dx (flS vd len vk l most f)) ∧ Dq G vd dl ∧ Dq G vk kd
theorem Ob.mono {C : Addr} {G G' : Hp} {p l f : Addr} {dl kd : D} {len most : Int} (x : Ex G G') : Ob C G p l f dl kd len most → Ob C G' p l f dl kd len most := fun ⟨dx, vd, vk, h1, h2, h3⟩ => ⟨dx, vd, vk, x _ _ h1, h2.mono x, h3.mono x⟩
structure St2 (l f : Addr) (G H G' H' : Hp) : Prop where
  g : Ex G G'
  h : ∀ b o, b ≠ l → b ≠ f → H b = some o → H' b = some o
  w : Ex G' H'
  n : ∀ b, G b = none → H b ≠ none → (∀ xs, H b ≠ some (.tup xs)) → G' b = none
section
variable {K : PySem.W.Frag} {G H G' H' G1 H1 G2 H2 : Hp} {σ : L2.St} {C p l f : Addr} {dl kd : D} {len most : Int} {i : Nat}
theorem Stp.two (s : Stp G H G' H') : St2 l f G H G' H' := ⟨s.g, fun b o _ _ e => s.h b o e, s.w, s.n⟩
theorem St2.trans (a : St2 l f G H G1 H1) (b : St2 l f G1 H1 G2 H2) (gl : G1 l = none → G2 l = none) (gf : G1 f = none → G2 f = none) : St2 l f G H G2 H2 := by
  refine ⟨a.g.trans b.g, fun c o n1 n2 e => b.h c o n1 n2 (a.h c o n1 n2 e), b.w, fun c h1 h2 h3 => ?_⟩
  have g1 := a.n c h1 h2 h3
  by_cases e1 : c = l
  · subst e1; exact gl g1
  by_cases e2 : c = f
  · subst e2; exact gf g1
  cases q : H c with
  | none => exact (h2 q).elim
  | some o =>
    have q1 := a.h c o e1 e2 q
    exact b.n c g1 (by rw [q1]; intro z; cases z) (fun xs z => by rw [q1] at z; exact h3 xs (q.trans z))
theorem d_fld {x : Str} {v : V} {d : D} {dx : Addr} {fs : List (Str × V)} (hσ : σ[i]? = some (some (.ref p))) (gp : G p = some (.ins C dx fs)) (cl : Cls K C) (na : NoAttr K C x) (lk : fs.lookup x = some v) (q : Dq G v d) : EvD (tFld K (tVar i) x) σ G d :=
  fun G1 H1 a w Q k => ⟨.ref p, hσ, p, C, dx, fs, v, rfl, w _ _ (a _ _ gp), cl, na, lk, k v G1 H1 (.refl w) (q.mono a)⟩
theorem t_own {x : Str} {q : Addr} {dx : Addr} {fs : List (Str × V)} (hσ : σ[i]? = some (some (.ref p))) (gp : G p = some (.ins C dx fs)) (cl : Cls K C) (na : NoAttr K C x) (lk : fs.lookup x = some (.ref q)) (w : Ex G H) {Q : VK} (k : Q (.ref q) H) : tFld K (tVar i) x σ H Q :=
  ⟨.ref p, hσ, p, C, dx, fs, .ref q, rfl, w _ _ gp, cl, na, lk, k⟩
end
end Mv
namespace Mv
open PySem L2 Evl
section
variable {K : PySem.W.Frag} {G H G' H' G1 H1 G2 H2 : Hp} {σ : L2.St} {C p l f : Addr} {dl kd : D} {len most : Int} {i : Nat} {ad : Str → Addr} {g : List D → Re} {ds : List D} {z : D} {es : List (KK × D)} {tr : TA}
theorem d_calF {E : XK} (h : EvS tr σ G ds) (hg : g ds = some (.val z)) : EvD (tCall (SpF ad g) [] E tr) σ G z := fun G1 H1 x w Q q => h G1 H1 x w _ fun vs G2 H2 s hv => by
  rw [List.append_nil]
  exact ⟨G2, ds, _, s.w, hv, hg, fun v G3 H3 s3 hq => q v G3 H3 (s.trans s3) hq⟩
theorem d_calN {E : XK} (h : EvS tr σ G ds) (hg : g ds = some (.val (dctD es))) : EvM (tCall (SpN ad g) [] E tr) σ G es := fun G1 H1 x w Q q => h G1 H1 x w _ fun vs G2 H2 s hv => by
  rw [List.append_nil]
  refine ⟨G2, ds, _, s.w, hv, hg, fun es2 e p G3 H3 s3 h0 m => ?_⟩
  have e : es = es2 := by
    have := dctOf_dctD es
    unfold dctD at this
    rw [this] at e
    exact Option.some.inj e
  subst e
  obtain ⟨kvs, h3, hp⟩ := m.at_
  exact q p kvs G3 H3 (s.trans s3) (h_old s h0) m.g h3 hp
end
def SpSI (C : Addr) (n : List Int) (K : Bg) (es : List (KK × D)) (len most : Int) : Sp := fun vs H Q _ => ∃ (G : Hp) (p dx : Addr) (vd vk : V), vs = [.ref p, vd, .int len, vk, .int most] ∧ Ex G H ∧ G p = none ∧ H p = some (.ins C dx []) ∧ Dq G vd (dI n) ∧ Dq G vk (dctD (enc K)) ∧
  ∀ (G2 H2 : Hp) (l f : Addr), Ex G G2 → (∀ b o, b ≠ p → H b = some o → H2 b = some o) → Ex G2 H2 → (∀ b, G b = none → H b ≠ none → (∀ xs, H b ≠ some (.tup xs)) → G2 b = none) → H2 p = some (.ins C dx (flS vd len vk l most f)) → H l = none → H f = none → MD G2 H2 l es → ML G2 H2 f [] → Q .non H2
def SpGo (C : Addr) (n : List Int) (K : Bg) (len most : Int) (k : Nat) : Sp := fun vs H Q _ => ∃ (G : Hp) (p l f : Addr) (vr : V) (route : Rows) (L : Cn) (F F' : List Rows), vs = [.ref p, vr] ∧ Ex G H ∧ Ob C G p l f (dI n) (dctD (enc K)) len most ∧ Dq G vr (dT route) ∧ MD G H l (encN L) ∧ ML G H f (F.map dT) ∧
  (L.map (·.1)).Nodup ∧ (∀ q ∈ L, q.1 ≠ []) ∧ L.length < 1000 ∧ (∀ q ∈ route, q ∈ placesOf n) ∧ route.length + k ≤ 100 ∧ goS n K len most k route L F = some F' ∧ F'.length ≤ 1000000 ∧
  ∀ (G2 H2 : Hp), St2 l f G H G2 H2 → MD G2 H2 l (encN L) → ML G2 H2 f (F'.map dT) → Q .non H2
structure SrT (K : PySem.W.Frag) (mg : Str → Option Value) (C fI fG : Addr) (fdI fdG : FuncData) (sI sG : Stmt) : Prop where
  cl : Cls K C
  n1 : NoAttr K C "dials"
  n2 : NoAttr K C "length"
  n3 : NoAttr K C "kind_of"
  n4 : NoAttr K C "left"
  n5 : NoAttr K C "most"
  n6 : NoAttr K C "found"
  mgC : mg "Search" = some (.ref C)
  mkC : Mk K C fI
  me : Meth K C "go_on" fG
  FI : Fun K "__init__" "Search.__init__" sI fI fdI
  bI : Binds K fdI ["self", "dials", "length", "kind_of", "most"] []
  FG : Fun K "go_on" "Search.go_on" sG fG fdG
  bG : Binds K fdG ["self", "route"] []
theorem flS_put (vd : V) (len : Int) (vk : V) (l : Addr) (most : Int) (f : Addr) : putF "found" (.ref f) (putF "most" (.int most) (putF "left" (.ref l) (putF "kind_of" vk (putF "length" (.int len) (putF "dials" vd []))))) = flS vd len vk l most f := by
  rfl
theorem flS_1 (vd : V) (len : Int) (vk : V) (l : Addr) (most : Int) (f : Addr) : (flS vd len vk l most f).lookup ("dials" : Str) = some vd := rfl
theorem flS_2 (vd : V) (len : Int) (vk : V) (l : Addr) (most : Int) (f : Addr) : (flS vd len vk l most f).lookup ("length" : Str) = some (.int len) := rfl
theorem flS_3 (vd : V) (len : Int) (vk : V) (l : Addr) (most : Int) (f : Addr) : (flS vd len vk l most f).lookup ("kind_of" : Str) = some vk := rfl
theorem flS_4 (vd : V) (len : Int) (vk : V) (l : Addr) (most : Int) (f : Addr) : (flS vd len vk l most f).lookup ("left" : Str) = some (.ref l) := rfl
theorem flS_5 (vd : V) (len : Int) (vk : V) (l : Addr) (most : Int) (f : Addr) : (flS vd len vk l most f).lookup ("most" : Str) = some (.int most) := rfl
theorem flS_6 (vd : V) (len : Int) (vk : V) (l : Addr) (most : Int) (f : Addr) : (flS vd len vk l most f).lookup ("found" : Str) = some (.ref f) := rfl
theorem flS_no (vd : V) (len : Int) (vk : V) (l : Addr) (most : Int) (f : Addr) : (flS vd len vk l most f).lookup ("go_on" : Str) = none := rfl
end Mv
namespace Mv
open PySem L2 Evl
def cnI : List (KK × D) → Option Cn
  | [] => some []
  | e :: es => match keyR e.1, e.2, cnI es with
    | some p, .int m, some r => some ((p, m) :: r)
    | _, _, _ => none
theorem cnI_some : ∀ {es : List (KK × D)} {L : Cn}, cnI es = some L → es = encN L
  | [], B, h => by cases h; rfl
  | (k, d) :: es, B, h => by
    unfold cnI at h
    split at h
    · rename_i p m r e1 e2 e3
      cases h
      rw [cnI_some e3]
      show (k, d) :: encN r = (kI p, PyData.int m) :: encN r
      rw [← keyR_some e1, ← show d = _ from e2]
    · cases h
def cnOf (d : D) : Option Cn := match dctOf d with
  | some es => cnI es
  | none => none
theorem cnOf_some {d : D} {L : Cn} (h : cnOf d = some L) : d = dctD (encN L) := by
  unfold cnOf at h
  split at h
  · rename_i es e
    rw [dctOf_some e, cnI_some h]
  · cases h
def cnB (n : List Int) (L : Cn) : Bool := decide (n ∈ fewD) && decide (L.map (·.1)).Nodup && L.all (fun q => !q.1.isEmpty) && decide (L.length < 1000)
def findS (n : List Int) (B : Bg) (L : Cn) (len most : Int) : Re := if cnB n L = true then match goS n B len most 16 [zeros n] L [] with
    | some F => if F.length ≤ 1000000 then some (.val (.list (F.map dT))) else none
    | none => none
  else none
theorem findS_some {n : List Int} {B : Bg} {L : Cn} {len most : Int} {r : Ou} (h : findS n B L len most = some r) : n ∈ fewD ∧ (L.map (·.1)).Nodup ∧ (∀ q ∈ L, q.1 ≠ []) ∧ L.length < 1000 ∧ ∃ F : List Rows, goS n B len most 16 [zeros n] L [] = some F ∧ F.length ≤ 1000000 ∧ r = .val (.list (F.map dT)) := by
  unfold findS at h
  by_cases hc : cnB n L = true
  · rw [if_pos hc] at h
    unfold cnB at hc
    simp only [Bool.and_eq_true, decide_eq_true_eq, List.all_eq_true] at hc
    obtain ⟨⟨⟨h1, h2⟩, h3⟩, h4⟩ := hc
    refine ⟨h1, h2, fun q hq z => ?_, h4, ?_⟩
    · have := h3 q hq
      rw [z] at this; cases this
    · split at h
      · rename_i F e
        by_cases hl : F.length ≤ 1000000
        · rw [if_pos hl] at h; cases h; exact ⟨F, e, hl, rfl⟩
        · rw [if_neg hl] at h; cases h
      · cases h
  · rw [if_neg hc] at h; cases h
def firstR (fc : List D → Re) : List D → Re
  | [dn, .int len, dk, .int most] => match rowI dn, bgOf dk with
    | some n, some B => match fc [dL (B.map (·.2))] with
      | some (.val dc) => match cnOf dc with
        | some L => findS n B L len most
        | none => none
      | _ => none
    | _, _ => none
  | _ => none
theorem firstR_some {fc : List D → Re} {ds : List D} {r : Ou} (h : firstR fc ds = some r) : ∃ (n : List Int) (B : Bg) (L : Cn) (len most : Int) (F : List Rows), ds = [dI n, .int len, dctD (enc B), .int most] ∧ fc [dL (B.map (·.2))] = some (.val (dctD (encN L))) ∧ n ∈ fewD ∧ (L.map (·.1)).Nodup ∧ (∀ q ∈ L, q.1 ≠ []) ∧ L.length < 1000 ∧ goS n B len most 16 [zeros n] L [] = some F ∧ F.length ≤ 1000000 ∧ r = .val (.list (F.map dT)) := by
  unfold firstR at h
  split at h
  · split at h
    · rename_i n B e1 e2
      split at h
      · rename_i dc e3
        split at h
        · rename_i L e4
          obtain ⟨h1, h2, h3, h4, F, h5, h6, h7⟩ := findS_some h
          exact ⟨n, B, L, _, _, F, by rw [rowI_some e1, bgOf_some e2], by rw [← cnOf_some e4]; exact e3, h1, h2, h3, h4, h5, h6, h7⟩
        · cases h
      · cases h
    · cases h
  · cases h
end Mv
namespace Mv
open PySem L2
theorem pe_globI {X : Cx} {x : Str} {i : Int} {pos : Pos} (h : ∃ t, X.mg x = some (.int i t)) (hg : Gl X x) (hd : (x == ("__debug__" : Str)) = false := by decide) : PE X (.Name x pos) (tC (.int i)) := by
  obtain ⟨t, ht⟩ := h
  exact pe_glob hg ht ⟨t, rfl⟩ hd
end Mv
namespace Mv
open PySem L2 Evl
section
variable {X : Cx} {K : PySem.W.Frag} {P : Program} {w : World} {σ : L2.St} {G : Hp} {te : TE} {E : XK} {ad : Str → Addr} {fe : En → Re}
end
end Mv
namespace Mv
open PySem L2 Evl
section
variable {prog : Program} {w : World} {A : Around} {E : Value → Shared → Prop} {s : Shared}
end
section
variable {K : PySem.W.Frag}
def minOk (ds : List D) : Bool := flatDs ds && ((ds.all fun d => ds.all fun e => PySem.W.alike d e) && (ds.all isTupC && Nat.ble (PyData.depthAll ds) 60))
end
end Mv
namespace Mv
open PySem L2 Evl
section
variable {X : Cx} {K : PySem.W.Frag} {P : Program} {w : World} {σ : L2.St} {G : Hp} {te : TE} {E : XK} {ad : Str → Addr} {fe : En → Re}
end
end Mv
namespace Mv
open PySem L2 Evl LamX
section
variable {X : Cw} {Xc : Cx} {s l c : Addr} {T T' : Int} {G H G' H' G1 H1 G2 H2 G0 H0 : Hp} {σ : L2.St} {Γ Γ' : En} {K : PySem.W.Frag} {k : Nat} {ad : Str → Addr} {fas : En → Ra} {tas : TA}
end
end Mv
namespace Mv
open PySem L2 Evl LamX
def SpTm (C : Addr) : List V → Hp → VK → XK → Prop := fun vs H Q _ => ∃ (e d : Addr) (m m' : Int), vs = [.ref e, .int m'] ∧ H e = some (CauO (.ref C) (some d) e) ∧ H d = some (.xd [(("most" : Str), .int m)]) ∧ Q (.bl (decide (V.int m = V.int m'))) H
def wTmE (x : Str) (g : List D → Re) (fas : En → Ra) : WE := fun Γ T post => raisesB x g fas Γ ∧ post (.bool true) T
section
variable {X : Cw} {K : PySem.W.Frag} {ad : Str → Addr} {fas : En → Ra} {tas : TA} {E : XK}
theorem w_tmE {C0 C : Addr} {x : Str} {m : Int} {g : List D → Re} {mg : Str → Option Value} (B : ErrC K mg C0 "TooMany" C) (hC : ad "TooMany" = C) (hx : tmOf x = some m) (ha : ∀ E, Sa E ad tas fas) :
    Sw X (tCall (SpTm C) [] E (tCons (tLam X.TL (TTc K C0) (fun E => tCall (SpF ad g) [] E tas)) (tCons (tC (.int m)) tNil))) (wTmE x g fas) := fun s l c T σ Γ G H R post hp Q q => by
  obtain ⟨hr, hp⟩ := hp
  refine ⟨R.tb, fun H1 eN tb1 => ?_⟩
  obtain ⟨R1, x1⟩ := R.extN eN tb1
  refine u_call (ha _) σ Γ G H1 R1.r _ hr _ fun G2 H2 s2 => ?_
  refine XE.mkM hx fun d hd => ?_
  rw [hC]
  refine ⟨true, B.e, fun _ e he => ?_, (fun z => by cases z)⟩
  have s8 : Stp G H1 G2 (upd H2 d (.xd [(("most" : Str), .int m)])) := s2.trans (Stp.old s2.w (.new hd))
  have s9 : Stp G H1 G2 (upd (upd H2 d (.xd [(("most" : Str), .int m)])) e (CauO (.ref C) (some d) e)) := s8.trans (Stp.old s8.w (.new he))
  have nde : d ≠ e := fun z => by rw [z, upd_same] at he; cases he
  refine ⟨e, d, m, m, rfl, upd_same, by rw [upd_ne nde, upd_same], ?_⟩
  rw [decide_eq_true rfl]
  exact q _ T hp _ (noT G2) _ (R1.sts (s9.toS (S := [s, l, c])) (R1.wd.stp s9)) (x1.trans (R1.toN s9)) (.bl true)
end
end Mv
namespace Mv
open PySem L2 Evl
def cutL (G : Hp) : Hp := fun b => match G b with
  | some (.lst _) => none
  | o => o
theorem cutL_some {G : Hp} {b : Addr} {o : HO} (h : cutL G b = some o) : G b = some o ∧ ∀ us, o ≠ .lst us := by
  unfold cutL at h
  split at h
  · cases h
  · rename_i n
    exact ⟨h, fun us z => n us (by rw [h, z])⟩
theorem cutL_of {G : Hp} {b : Addr} {o : HO} (h : G b = some o) (n : ∀ us, o ≠ .lst us) : cutL G b = some o := by
  unfold cutL
  split
  · rename_i us e
    rw [h] at e; cases e; exact (n us rfl).elim
  · exact h
theorem cutL_none {G : Hp} {b : Addr} (h : G b = none) : cutL G b = none := by
  unfold cutL; rw [h]
theorem cutL_lst {G : Hp} {b : Addr} {us : List V} (h : G b = some (.lst us)) : cutL G b = none := by
  unfold cutL; rw [h]
def newR : Ou → Bool
  | .val (.list xs) => noLs xs
  | .val _ => false
  | .exc _ => true
section
variable {E : XK} {ad : Str → Addr} {G H : Hp} {tas tks : TA} {fas fks : En → Ra} {X : Cw} {Q : VK}
theorem spF_new {g : List D → Re} {vs : List V} {ds : List D} {r : Ou} (w : Ex G H) (hv : DqA G vs ds) (nl : noLs ds = true) (e : g ds = some r) (hr : newR r = true) (q : PoM E ad G H Q r) : SpF ad g vs H Q E := by
  have w0 : Ex (cutL G) H := fun b o h => w b o (cutL_some h).1
  refine ⟨cutL G, ds, r, w0, hv.cut (fun b o h n => cutL_of h n) nl, e, ?_⟩
  cases r with
  | exc x =>
    intro G3 H3 s3
    exact q (fun b => match G b with | some o => some o | none => G3 b) H3 ⟨fun b o h => by show (match G b with | some o => some o | none => G3 b) = _; rw [h], s3.h, fun b o h => by
      have h : (match G b with | some o => some o | none => G3 b) = some o := h
      split at h
      · rename_i o' e'; cases h; exact s3.h _ _ (w _ _ e')
      · exact s3.w _ _ h, fun b h1 h2 h3 => by
      show (match G b with | some o => some o | none => G3 b) = none
      rw [h1]; exact s3.n b (cutL_none h1) h2 h3⟩
  | val d =>
    cases d with
    | list xs =>
      intro v G3 H3 s3 hq
      cases hq with
      | @lst p us _ hp hus =>
        have hp0 : H p = none := by
          cases z : H p with
          | none => rfl
          | some o =>
            exfalso
            have h3 := s3.w _ _ hp
            have h4 := s3.h _ _ z
            rw [h3] at h4
            cases h4
            have c0 : cutL G p = none := by
              cases y : G p with
              | none => exact cutL_none y
              | some o =>
                have := w _ _ y
                rw [z] at this
                cases this
                exact cutL_lst y
            have := s3.n p c0 (by rw [z]; intro k; cases k) (by rw [z]; intro k1 k; cases k)
            rw [hp] at this; cases this
        have gp : G p = none := fresh_back w hp0
        refine q p (fun b => if b = p then none else match G b with | some o => some o | none => G3 b) H3 ⟨fun b o h => ?_, s3.h, fun b o h => ?_, fun b h1 h2 h3 => ?_⟩ hp0 ⟨if_pos rfl, us, s3.w _ _ hp, hus.cut (fun b o h n => ?_) hr⟩
        · have nb : b ≠ p := fun z => by rw [z, gp] at h; cases h
          show (if b = p then none else _) = _
          rw [if_neg nb, h]
        · have h : (if b = p then none else match G b with | some o => some o | none => G3 b) = some o := h
          by_cases nb : b = p
          · rw [if_pos nb] at h; cases h
          · rw [if_neg nb] at h
            split at h
            · rename_i o' e'; cases h; exact s3.h _ _ (w _ _ e')
            · exact s3.w _ _ h
        · show (if b = p then none else _) = _
          by_cases nb : b = p
          · rw [if_pos nb]
          · rw [if_neg nb, h1]; exact s3.n b (cutL_none h1) h2 h3
        · have nb : b ≠ p := fun z => by rw [z, hp] at h; cases h; exact n _ rfl
          show (if b = p then none else _) = _
          rw [if_neg nb]
          cases y : G b with
          | none => exact h
          | some o' =>
            have h1 := s3.h _ _ (w _ _ y)
            have h2 := s3.w _ _ h
            rw [h1] at h2
            exact h2
    | _ => cases hr
def newRe (nl : Bool) (r : Re) : Re := match r with
  | some r => if (nl && newR r) = true then some r else none
  | none => none
theorem newRe_some {nl : Bool} {r : Re} {o : Ou} (h : newRe nl r = some o) : r = some o ∧ nl = true ∧ newR o = true := by
  unfold newRe at h
  split at h
  · rename_i o'
    by_cases z : (nl && newR o') = true
    · rw [if_pos z] at h; cases h
      simp only [Bool.and_eq_true] at z
      exact ⟨rfl, z.1, z.2⟩
    · rw [if_neg z] at h; cases h
  · cases h
def fCallN (g : List D → Re) (fas : En → Ra) (Γ : En) : Re := bndA (fas Γ) fun ds => newRe (noLs ds) (g ds)
theorem m_callN {g : List D → Re} (h : Sa E ad tas fas) : Sm E ad (tCall (SpF ad g) [] E tas) (fCallN g fas) := fun σ Γ G H R r e Q q => by
  rcases bndA_some e with ⟨ds, e1, e2⟩ | ⟨x, e1, rfl⟩
  · obtain ⟨e3, e4, e5⟩ := newRe_some e2
    refine h σ Γ G H R _ e1 _ fun vs G2 H2 s2 q2 => ?_
    rw [List.append_nil]
    exact spF_new s2.w q2 e4 e3 e5 (q.stp s2)
  · exact h σ Γ G H R _ e1 _ q
end
end Mv
namespace Mv
open PySem L2 Evl
section
variable {prog : Program} {w : World} {A : Around} {E : Value → Shared → Prop} {s : Shared}
theorem fresh_own {H h : Heap} (hk : ∀ b o, H.get? b = some o → h.get? b = some o) : H.get? h.objs.size = none := by
  cases e : (H.get? h.objs.size) with
  | none => rfl
  | some o => exact absurd (Heap.lt_size (hk _ _ e)) (Nat.lt_irrefl _)
theorem min_pair {a b : Value} {Qm : Value → Shared → Prop}
    (walk : wpAny (model prog w) A.in1 (pyIter (.ref s.heap.objs.size)) (fun it sB => ∃ I fp wr G n P St H bt, it = .ref I ∧ WalksS prog w A.in1 I fp wr G n P St ∧ St 0 sB ∧ (∀ b ∈ fp, b < sB.heap.objs.size) ∧ 0 < n ∧
      (∀ b o, H.get? b = some o → b ∉ wr) ∧ (∀ b o, H.get? b = some o → sB.heap.get? b = some o) ∧ CmpIn prog w A.in1 .Lt H P bt ∧ ∀ v sC, P (argBest bt (n - 1)) v → Moved wr G sB sC → Qm v sC) E { s with heap := s.heap.push { cls := .type "tuple", data := .seq #[a, b] } }) :
    wpAny (model prog w) A (call (.builtin "min") [a, b]) Qm E s := by
  have nm : (toString "min" ++ toString ".loop" : String) = "min.loop" := by decide
  refine call_function_tree F.kind_min F.plain_min F.entry_min (F.args_min2 _ _) ?_
  show (wpAny _ A.in1 (Builtin.Builtins.bindParams "min" ["key", "default"] 0 ⟨[], []⟩ >>= _) _ _ s)
  refine (wpAny_bind (wpAny_of_eq (show Builtin.Builtins.bindParams "min" ["key", "default"] 0 ⟨[], []⟩ = pure [none, none] from rfl) ?_))
  show (wpAny _ A.in1 (newTuple [a, b] >>= _) _ _ s)
  refine (wpAny_bind (wpAny_newObj_type ?_))
  refine wpAny_bind (wpAny_mono walk (fun it sB hB => ?_) fun _ _ e => e)
  obtain ⟨I, fp, wr, G, n, P, St, H, bt, rfl, W, st0, below, pos, apart, keep, cmp, fin⟩ := hB
  refine (wpAny_bind (wpAny_newObj_type ?_))
  have off : sB.heap.objs.size ∉ fp := fun hm => Nat.lt_irrefl _ (below _ hm)
  rw [nm]
  refine wpAny_pure ⟨plainId_quiet F.plain_min_loop _, codeAny_min_loop_firstH W H apart bt cmp sB.heap.objs.size off (fresh_own keep) _ pos (fun b o e => Heap.get?_push_of_some _ (keep b o e)) (W.frame 0 sB _ sB.toks st0 (Nat.le_refl _) fun b _ o e => Heap.get?_push_of_some _ e) (Heap.get?_push_size _ rfl) fun v sC hP hm => ?_⟩
  exact fin v sC hP (Moved.drop_new (tk := sB.toks) hm (Nat.le_refl _))
theorem min_two_at {a b : Value} {x y : D} {as : List Addr} {Qm : Value → Shared → Prop} (calm : A.handled = none) (rd : ReadsAll s.heap [a, b] [x, y] as) (al : PySem.W.AlikeAll [x, y]) (un : A.units + 1 + PyData.depthAll [x, y] < cLine)
    (fin : ∀ h' tk, (∀ b o, s.heap.get? b = some o → h'.get? b = some o) → Qm (if PySem.W.dataLt y x then b else a) { s with heap := h', toks := tk }) :
    wpAny (model prog w) A (call (.builtin "min") [a, b]) Qm E s := by
  refine min_pair ?_
  obtain ⟨hT, eT⟩ : ∃ hT : Heap, hT = s.heap.push { cls := .type "tuple", data := .seq #[a, b] } := ⟨_, rfl⟩
  have kT : ∀ b o, s.heap.get? b = some o → hT.get? b = some o := fun b o e => by rw [eT]; exact Heap.get?_push_of_some _ e
  rw [← eT]
  have isT : ({ s with heap := hT } : Shared).heap.IsTuple s.heap.objs.size #[a, b] := by
    show hT.IsTuple _ _
    rw [eT]
    exact ⟨_, Heap.get?_push_size _ rfl, rfl, 0, rfl⟩
  have rdT : ReadsAll ({ s with heap := hT } : Shared).heap (#[a, b] : Array Value).toList [x, y] as := PyProof.Rows.ReadsAll.keeps kT rd
  refine PySem.W.iter_tupleW (A := A.in1) calm isT fun sB eB wB stB fpB wrB kB => ?_
  refine ⟨_, _, _, _, _, _, _, ({ s with heap := hT } : Shared).heap, _, rfl, wB, stB, fpB, (show 0 < 2 from by decide), wrB, kB, PySem.W.cmpIn_lt (A := A.in1) rdT al (by show A.units + 1 + _ < _; exact un), fun v sC hP mv => ?_⟩
  obtain ⟨hC, tC, rfl, kC⟩ := PySem.W.moved_old eB rfl mv
  have e : v = if PySem.W.dataLt y x then b else a := by
    have hP : (#[a, b] : Array Value)[argBest (fun i j => PySem.W.dataLt ([x, y].getD i .none) ([x, y].getD j .none)) 1]? = some v := hP
    have hb : argBest (fun i j => PySem.W.dataLt ([x, y].getD i .none) ([x, y].getD j .none)) 1 = if PySem.W.dataLt y x then 1 else 0 := rfl
    rw [hb] at hP
    cases hd : PySem.W.dataLt y x with
    | true => rw [hd] at hP; simpa using hP.symm
    | false => rw [hd] at hP; simpa using hP.symm
  rw [e]
  exact fin hC tC fun b o h => kC b o (kT b o h)
end
def rMin2D (K : PySem.W.Frag) : List V → Hp → VK → Prop := fun vs H Q => ∃ (u v : V) (x y : D), vs = [u, v] ∧ DpAll K H [u, v] [x, y] ∧ PySem.W.AlikeAll [x, y] ∧ PyData.depthAll [x, y] ≤ 60 ∧ Q (if PySem.W.dataLt y x then v else u) H
theorem cr_min2D {X : Cx} (hc : X.calm = true) (hu : X.A.units + 64 < cLine) : CallR X (.builtin "min") (rMin2D X.K) := by
  intro pins; intro s σ H vs us Q I r h
  obtain ⟨u, v, x, y, ev, hd, al, dp, q⟩ := h
  subst ev
  cases r with
  | cons r1 r =>
    cases r with
    | cons r2 r =>
      cases r
      obtain ⟨as, rd⟩ := Dp.readsAll I _ _ _ hd (.cons r1 (.cons r2 .nil))
      refine min_two_at (I.ok.hd hc) rd al (by omega) fun h' tk hk => ?_
      refine ⟨_, H, I.kept hk, ?_, q⟩
      cases PySem.W.dataLt y x with
      | true => exact r2
      | false => exact r1
section
variable {K : PySem.W.Frag}
def oMin2T (ds : List D) : Option D := match ds with
  | [x, y] => if minOk [x, y] = true then some (if PySem.W.dataLt y x then y else x) else none
  | _ => none
theorem cs_min2T : CaS (rMin2D K) oMin2T := fun ds z e G => by
  unfold oMin2T at e
  split at e
  · rename_i x y
    split at e
    · rename_i h
      cases e
      unfold minOk at h
      rw [Bool.and_eq_true, Bool.and_eq_true, Bool.and_eq_true] at h
      obtain ⟨h1, h2, h3, h4⟩ := h
      intro vs G1 H1 w1 w hv Q q
      have dp := dpAll_of (K := K) w hv h1
      cases hv with
      | cons q1 hv =>
        cases hv with
        | cons q2 hv =>
          cases hv
          refine ⟨_, _, x, y, rfl, dp, ⟨fun a ha b hb => List.all_eq_true.mp (List.all_eq_true.mp h2 a ha) b hb, fun a ha z => ?_⟩, Nat.le_of_ble_eq_true h4, ?_⟩
          · have := List.all_eq_true.mp h3 a ha
            rw [z] at this; cases this
          · cases hd : PySem.W.dataLt y x with
            | true => rw [hd] at q; exact q _ G1 H1 (.refl w) q2
            | false => rw [hd] at q; exact q _ G1 H1 (.refl w) q1
    · cases e
  · cases e
end
end Mv
namespace Mv
open PySem L2 Evl
def top (i : Nat) : Stmt := PySem.Challenge.pw_movedround_k51_fair_tours_listed_and_cou.main.body.getD i (.Pass ⟨0, 0, 0, 0⟩)
section
variable {P : Program} {w : World} {K : PySem.W.Frag} {mg : Str → Option Value} {base : Heap} {ad : Str → Addr} {TL : List (Addr × Str)}
abbrev s_place_count : Stmt := top 1
def b_place_count : En → Rf := (fSeq (fAsg (fC (.int 1)) (sName 1)) (fSeq (fFor (iT (fVar 0)) (sName 2) (fAsg (fOp oMul (fVar 1) (fVar 2)) (sName 1))) (fRet (fVar 1))))
def f_place_count : List D → Re := guardN 1 (bodyD b_place_count 2)
theorem ok_place_count {f : Addr} {fd : FuncData}  (F : Fun K "place_count" "place_count" s_place_count f fd) : FnOk P w K mg base CX0 1 f fd ["dials"] (SpF ad f_place_count) := by
  have sc : FnScope ["dials", "many", "size"] ["dials"] (defScope s_place_count) := ⟨rfl, rfl, rfl, by decide +kernel, rfl, by decide +kernel, by decide +kernel⟩
  refine F.ok sc (fun vs H Q E h => ?_) (fun cdv A outer s H vs Q E hr h => ?_)
  · obtain ⟨G, ds, r, _, hv, e, _⟩ := h
    unfold f_place_count at e
    exact hv.len.trans (guard_len e)
  · obtain ⟨G, ds, r, wf, hv, e, k⟩ := h
    unfold f_place_count at e
    refine ⟨_, (pss_cons (ps_set (i := 1) sc.nd rfl (Or.inl rfl) pe_int) (pss_cons (ps_for PassesOwn.never rfl (pi_tup (pv 0)) (pg_name (i := 2) sc.nd rfl (Or.inl rfl)) (pss_one (ps_set (i := 1) sc.nd rfl (Or.inl rfl) (pe_op op_mul (pv 1) (pv 2))))) (pss_one (ps_ret (pv 1))))), ?_⟩
    exact body_start (k := 1) (n := 2) rfl (hv.len.trans (guard_len e)) (show Ss E ad _ b_place_count from (u_seq (u_asg (u_c fun _ => .int 1) g_name) (u_seq (u_for (i_tup u_var) g_name (u_asg (u_op os_mul u_var u_var) g_name)) (u_ret u_var)))) wf hv (guard_get e) k
abbrev s_all_places : Stmt := top 2
def b_all_places : En → Rf := (fSeq (fAsg (fLst (fCons (fTup fNil) fNil)) (sName 1)) (fSeq (fFor (iT (fVar 0)) (sName 2) (fAsg (fLc2 (iL (fVar 1)) (sName 3) (fC (.bool true)) (iR1 (fCons (fVar 2) fNil)) (sName 4) (fC (.bool true)) (fOp oCatT (fVar 3) (fTup (fCons (fVar 4) fNil))) [3, 4] [4]) (sName 1))) (fRet (fVar 1))))
def f_all_places : List D → Re := guardN 1 (bodyD b_all_places 4)
theorem ok_all_places {f : Addr} {fd : FuncData} (Z : Zs mg) (F : Fun K "all_places" "all_places" s_all_places f fd) : FnOk P w K mg base CX0 1 f fd ["dials"] (SpF ad f_all_places) := by
  have sc : FnScope ["dials", "found", "size", "begin", "at"] ["dials"] (defScope s_all_places) := ⟨rfl, rfl, rfl, by decide +kernel, rfl, by decide +kernel, by decide +kernel⟩
  refine F.ok sc (fun vs H Q E h => ?_) (fun cdv A outer s H vs Q E hr h => ?_)
  · obtain ⟨G, ds, r, _, hv, e, _⟩ := h
    unfold f_all_places at e
    exact hv.len.trans (guard_len e)
  · obtain ⟨G, ds, r, wf, hv, e, k⟩ := h
    unfold f_all_places at e
    refine ⟨_, (pss_cons (ps_set (i := 1) sc.nd rfl (Or.inl rfl) (pe_lst (pa_cons (pe_tup pa_nil) pa_nil))) (pss_cons (ps_for PassesOwn.never rfl (pi_tup (pv 0)) (pg_name (i := 2) sc.nd rfl (Or.inr rfl)) (pss_one (ps_setLc2 (i := 1) (own := [("begin", 3), ("at", 4)]) (vs1 := [4])  (g := gName 3) (g1 := gName 4) (by rfl) sc.nd rfl rfl (sw_true rfl rfl rfl (by decide +kernel)) (pi_list (pv 1)) (blkOk_by (N := ["dials", "found", "size", "begin", "at"]) (sc := defScope s_all_places) (by decide +kernel)) (by decide) (fun _ _ _ _ _ => (pg_name (i := 3) sc.nd rfl (Or.inl rfl))) (fun _ _ _ _ _ => pts_nil) (fun _ _ _ _ _ => (pi_range1 (by rfl) Z.range (pa_cons (pv 2) pa_nil))) (fun _ _ _ _ _ => (pg_name (i := 4) sc.nd rfl (Or.inl rfl))) (fun _ _ _ _ _ => pts_nil) (fun _ _ _ _ _ => (pe_op (r := rCatA K) op_catA (pv 3) (pe_tup (pa_cons (pv 4) pa_nil))))))) (pss_one (ps_ret (pv 1))))), ?_⟩
    exact body_start (k := 1) (n := 4) rfl (hv.len.trans (guard_len e)) (show Ss E ad _ b_all_places from (u_seq (u_asg (u_lst (u_cons (u_tup u_nil) u_nil)) g_name) (u_seq (u_for (i_tup u_var) g_name (u_asg (u_lc2 (i_list u_var) g_name u_yes (i_rng1 (u_cons u_var u_nil)) g_name u_yes (u_op os_catT u_var (u_tup (u_cons u_var u_nil))) (by decide) (by decide)) g_name)) (u_ret u_var)))) wf hv (guard_get e) k
abbrev s_nothing_of : Stmt := top 3
def b_nothing_of : En → Rf := (fRet (fOp oRepT (fTup (fCons (fC (.int 0)) fNil)) (fCb oLen (fCons (fVar 0) fNil))))
def f_nothing_of : List D → Re := guardN 1 (bodyD b_nothing_of 0)
theorem ok_nothing_of {f : Addr} {fd : FuncData} (Z : Zs mg) (F : Fun K "nothing_of" "nothing_of" s_nothing_of f fd) : FnOk P w K mg base CX0 1 f fd ["dials"] (SpF ad f_nothing_of) := by
  have sc : FnScope ["dials"] ["dials"] (defScope s_nothing_of) := ⟨rfl, rfl, rfl, by decide +kernel, rfl, by decide +kernel, by decide +kernel⟩
  refine F.ok sc (fun vs H Q E h => ?_) (fun cdv A outer s H vs Q E hr h => ?_)
  · obtain ⟨G, ds, r, _, hv, e, _⟩ := h
    unfold f_nothing_of at e
    exact hv.len.trans (guard_len e)
  · obtain ⟨G, ds, r, wf, hv, e, k⟩ := h
    unfold f_nothing_of at e
    refine ⟨_, (pss_one (ps_ret (pe_op (r := rRepA K) op_repA (pe_tup (pa_cons pe_int pa_nil)) (pe_callB (r := rLenA K) call_len_seq (by rfl) Z.len PySem.boot_len (pa_cons (pv 0) pa_nil))))), ?_⟩
    exact body_start (k := 1) (n := 0) rfl (hv.len.trans (guard_len e)) (show Ss E ad _ b_nothing_of from (u_ret (u_op os_repT (u_tup (u_cons (u_c fun _ => .int 0) u_nil)) (u_cb cs_len (u_cons u_var u_nil))))) wf hv (guard_get e) k
abbrev s_take_off : Stmt := top 4
def b_take_off : En → Rf := (fRet (fCb oTuple (fCons (fLc (iZ3 false false false (fCons (fVar 1) (fCons (fVar 2) (fCons (fVar 0) fNil)))) (sTup 3 (sCons (sName 3) (sCons (sName 4) (sCons (sName 5) sNil)))) (fC (.bool true)) (fOp oMod (fOp oSub (fVar 3) (fVar 4)) (fVar 5)) [3, 4, 5]) fNil)))
def f_take_off : List D → Re := guardN 3 (bodyD b_take_off 3)
theorem ok_take_off {f : Addr} {fd : FuncData} (Z : Zs mg) (F : Fun K "take_off" "take_off" s_take_off f fd) : FnOk P w K mg base CX0 1 f fd ["dials", "one", "other"] (SpF ad f_take_off) := by
  have sc : FnScope ["dials", "one", "other", "here", "there", "size"] ["dials", "one", "other"] (defScope s_take_off) := ⟨rfl, rfl, rfl, by decide +kernel, rfl, by decide +kernel, by decide +kernel⟩
  refine F.ok sc (fun vs H Q E h => ?_) (fun cdv A outer s H vs Q E hr h => ?_)
  · obtain ⟨G, ds, r, _, hv, e, _⟩ := h
    unfold f_take_off at e
    exact hv.len.trans (guard_len e)
  · obtain ⟨G, ds, r, wf, hv, e, k⟩ := h
    unfold f_take_off at e
    refine ⟨_, (pss_one (ps_ret (pe_callTy (r := rTupOf K) call_tuple_of (by rfl) Z.tuple (by decide +kernel) (pa_cons (pe_lc (own := [("here", 3), ("there", 4), ("size", 5)]) (g := gTup K 3 (gCons (gName 3) (gCons (gName 4) (gCons (gName 5) gNil)))) (tt := tYes) (by rfl) sc.nd (pi_zip3 false false false (by rfl) Z.zip (pa_cons (pv 1) (pa_cons (pv 2) (pa_cons (pv 0) pa_nil)))) (blkOk_by (N := ["dials", "one", "other", "here", "there", "size"]) (sc := defScope s_take_off) (by decide +kernel)) (fun _ _ _ _ _ => (pg_tup rfl (pgs_cons (pg_name (i := 3) sc.nd rfl (Or.inl rfl)) (pgs_cons (pg_name (i := 4) sc.nd rfl (Or.inl rfl)) (pgs_cons (pg_name (i := 5) sc.nd rfl (Or.inl rfl)) pgs_nil))))) (fun _ _ _ _ _ => pts_nil) (fun _ _ _ _ _ => (pe_op op_mod (pe_op op_sub (pv 3) (pv 4)) (pv 5)))) pa_nil)))), ?_⟩
    exact body_start (k := 3) (n := 3) rfl (hv.len.trans (guard_len e)) (show Ss E ad _ b_take_off from (u_ret (u_cb cs_tuple (u_cons (u_lc (i_zip3 (u_cons u_var (u_cons u_var (u_cons u_var u_nil)))) (g_tup (g_cons g_name (g_cons g_name (g_cons g_name g_nil)))) u_yes (u_op os_mod (u_op os_sub u_var u_var) u_var) (by decide)) u_nil)))) wf hv (guard_get e) k
abbrev s_opposite : Stmt := top 5
def b_opposite : En → Rf := (fRet (fCall0 f_take_off (fCons (fVar 0) (fCons (fCall0 f_nothing_of (fCons (fVar 0) fNil)) (fCons (fVar 1) fNil)))))
def f_opposite : List D → Re := guardN 2 (bodyD b_opposite 0)
theorem ok_opposite {f : Addr} {fd : FuncData} (C_take_off : Cal P w K mg base CX0 1 "take_off" ["dials", "one", "other"] (SpF ad f_take_off)) (C_nothing_of : Cal P w K mg base CX0 1 "nothing_of" ["dials"] (SpF ad f_nothing_of)) (F : Fun K "opposite" "opposite" s_opposite f fd) : FnOk P w K mg base CX0 2 f fd ["dials", "place"] (SpF ad f_opposite) := by
  have sc : FnScope ["dials", "place"] ["dials", "place"] (defScope s_opposite) := ⟨rfl, rfl, rfl, by decide +kernel, rfl, by decide +kernel, by decide +kernel⟩
  refine F.ok sc (fun vs H Q E h => ?_) (fun cdv A outer s H vs Q E hr h => ?_)
  · obtain ⟨G, ds, r, _, hv, e, _⟩ := h
    unfold f_opposite at e
    exact hv.len.trans (guard_len e)
  · obtain ⟨G, ds, r, wf, hv, e, k⟩ := h
    unfold f_opposite at e
    refine ⟨_, (pss_one (ps_ret (pe_cal C_take_off (hr.mono (by decide)) pass0 (pa_cons (pv 0) (pa_cons (pe_cal C_nothing_of (hr.mono (by decide)) pass0 (pa_cons (pv 0) pa_nil)) (pa_cons (pv 1) pa_nil)))))), ?_⟩
    exact body_start (k := 2) (n := 0) rfl (hv.len.trans (guard_len e)) (show Ss E ad _ b_opposite from (u_ret (u_call0 (u_cons u_var (u_cons (u_call0 (u_cons u_var u_nil)) (u_cons u_var u_nil)))))) wf hv (guard_get e) k
abbrev s_is_number : Stmt := top 11
def b_is_number : En → Rf := (fRet (fAnd (fIsi "int" (fVar 0)) (fNot (fIsi "bool" (fVar 0)))))
def f_is_number : List D → Re := guardN 1 (bodyD b_is_number 0)
theorem ok_is_number {f : Addr} {fd : FuncData} (Z : Zs mg) (F : Fun K "is_number" "is_number" s_is_number f fd) : FnOk P w K mg base CX0 1 f fd ["thing"] (SpF ad f_is_number) := by
  have sc : FnScope ["thing"] ["thing"] (defScope s_is_number) := ⟨rfl, rfl, rfl, by decide +kernel, rfl, by decide +kernel, by decide +kernel⟩
  refine F.ok sc (fun vs H Q E h => ?_) (fun cdv A outer s H vs Q E hr h => ?_)
  · obtain ⟨G, ds, r, _, hv, e, _⟩ := h
    unfold f_is_number at e
    exact hv.len.trans (guard_len e)
  · obtain ⟨G, ds, r, wf, hv, e, k⟩ := h
    unfold f_is_number at e
    refine ⟨_, (pss_one (ps_ret (pe_and (pe_callB (r := rIsiY K) call_isiY (by rfl) Z.isinstance (by decide +kernel) (pa_cons (pv 0) (pa_cons (pe_bltn (v := .ty "int") (u := .type "int") (by rfl) Z.int (by decide +kernel) rfl) pa_nil))) (pe_one (pe_not (pe_callB (r := rIsiY K) call_isiY (by rfl) Z.isinstance (by decide +kernel) (pa_cons (pv 0) (pa_cons (pe_bltn (v := .ty "bool") (u := .type "bool") (by rfl) Z.bool (by decide +kernel) rfl) pa_nil)))))))), ?_⟩
    exact body_start (k := 1) (n := 0) rfl (hv.len.trans (guard_len e)) (show Ss E ad _ b_is_number from (u_ret (u_and (u_isi (c := "int") (by decide) u_var) (u_not (u_isi (c := "bool") (by decide) u_var))))) wf hv (guard_get e) k
abbrev s_is_between : Stmt := top 12
def b_is_between : En → Rf := (fRet (fAnd (fCall0 f_is_number (fCons (fVar 0) fNil)) (fChain oLe oLe (fVar 1) (fVar 0) (fVar 2))))
def f_is_between : List D → Re := guardN 3 (bodyD b_is_between 0)
theorem ok_is_between {f : Addr} {fd : FuncData} (C_is_number : Cal P w K mg base CX0 1 "is_number" ["thing"] (SpF ad f_is_number)) (F : Fun K "is_between" "is_between" s_is_between f fd) : FnOk P w K mg base CX0 2 f fd ["thing", "low", "high"] (SpF ad f_is_between) := by
  have sc : FnScope ["thing", "low", "high"] ["thing", "low", "high"] (defScope s_is_between) := ⟨rfl, rfl, rfl, by decide +kernel, rfl, by decide +kernel, by decide +kernel⟩
  refine F.ok sc (fun vs H Q E h => ?_) (fun cdv A outer s H vs Q E hr h => ?_)
  · obtain ⟨G, ds, r, _, hv, e, _⟩ := h
    unfold f_is_between at e
    exact hv.len.trans (guard_len e)
  · obtain ⟨G, ds, r, wf, hv, e, k⟩ := h
    unfold f_is_between at e
    refine ⟨_, (pss_one (ps_ret (pe_and (pe_cal C_is_number (hr.mono (by decide)) pass0 (pa_cons (pv 0) pa_nil)) (pe_one (pe_chain op_le op_le (pv 1) (pv 0) (pv 2)))))), ?_⟩
    exact body_start (k := 3) (n := 0) rfl (hv.len.trans (guard_len e)) (show Ss E ad _ b_is_between from (u_ret (u_and (u_call0 (u_cons u_var u_nil)) (u_chain os_le os_le u_var u_var u_var)))) wf hv (guard_get e) k
abbrev s_is_dials : Stmt := top 14
def b_is_dials : En → Rf := (fSeq (fIfS (fOr (fNot (fT (fIsi "tuple" (fVar 0)))) (fNot (fT (fChain oLe oLe (fC (.int 1)) (fCb oLen (fCons (fVar 0) fNil)) (fC (.int 4)))))) (fRet (fC (.bool false))) fNext) (fRet (fAnd (fCb oAll (fCons (fLc (iT (fVar 0)) (sName 1) (fC (.bool true)) (fCall0 f_is_between (fCons (fVar 1) (fCons (fC (.int 2)) (fCons (fC (.int 24)) fNil)))) [1]) fNil)) (fOp oLe (fCall0 f_place_count (fCons (fVar 0) fNil)) (fC (.int 24))))))
def f_is_dials : List D → Re := guardN 1 (bodyD b_is_dials 1)
theorem ok_is_dials {f : Addr} {fd : FuncData} (Z : Zs mg) (C_place_count : Cal P w K mg base CX0 1 "place_count" ["dials"] (SpF ad f_place_count)) (C_is_between : Cal P w K mg base CX0 2 "is_between" ["thing", "low", "high"] (SpF ad f_is_between)) (F : Fun K "is_dials" "is_dials" s_is_dials f fd) : FnOk P w K mg base CX0 3 f fd ["thing"] (SpF ad f_is_dials) := by
  have sc : FnScope ["thing", "size"] ["thing"] (defScope s_is_dials) := ⟨rfl, rfl, rfl, by decide +kernel, rfl, by decide +kernel, by decide +kernel⟩
  refine F.ok sc (fun vs H Q E h => ?_) (fun cdv A outer s H vs Q E hr h => ?_)
  · obtain ⟨G, ds, r, _, hv, e, _⟩ := h
    unfold f_is_dials at e
    exact hv.len.trans (guard_len e)
  · obtain ⟨G, ds, r, wf, hv, e, k⟩ := h
    unfold f_is_dials at e
    refine ⟨_, (pss_cons (ps_if (PW.pt (pw_or (pt_not (pt_val (pe_callB (r := rIsiY K) call_isiY (by rfl) Z.isinstance (by decide +kernel) (pa_cons (pv 0) (pa_cons (pe_bltn (v := .ty "tuple") (u := .type "tuple") (by rfl) Z.tuple (by decide +kernel) rfl) pa_nil))))) (pw_or1 (pt_not (pt_chain op_le op_le pe_int (pe_callB (r := rLenA K) call_len_seq (by rfl) Z.len PySem.boot_len (pa_cons (pv 0) pa_nil)) pe_int))))) (pss_one (ps_ret pe_bl)) pss_nil) (pss_one (ps_ret (pe_and (pe_callB (r := rAll K) (cr_all (by rfl)) (by rfl) Z.all (by decide +kernel) (pa_cons (pe_lc (own := [("size", 1)]) (g := gName 1) (tt := tYes) (by rfl) sc.nd (pi_tup (pv 0)) (blkOk_by (N := ["thing", "size"]) (sc := defScope s_is_dials) (by decide +kernel)) (fun _ _ _ _ _ => (pg_name (i := 1) sc.nd rfl (Or.inl rfl))) (fun _ _ _ _ _ => pts_nil) (fun _ _ _ _ _ => (pe_cal C_is_between (hr.mono (by decide)) pass0 (pa_cons (pv 1) (pa_cons pe_int (pa_cons pe_int pa_nil)))))) pa_nil)) (pe_one (pe_cmpR op_le (pe_cal C_place_count (hr.mono (by decide)) pass0 (pa_cons (pv 0) pa_nil)) pe_int (nomark _))))))), ?_⟩
    exact body_start (k := 1) (n := 1) rfl (hv.len.trans (guard_len e)) (show Ss E ad _ b_is_dials from (u_seq (u_ifS (u_tOr (u_tNot (u_tB (u_isi (c := "tuple") (by decide) u_var))) (u_tNot (u_test (u_chain os_le os_le (u_c fun _ => .int 1) (u_cb cs_len (u_cons u_var u_nil)) (u_c fun _ => .int 4))))) (u_ret (u_c fun _ => .bl false)) u_next) (u_ret (u_and (u_cb cs_all (u_cons (u_lc (i_tup u_var) g_name u_yes (u_call0 (u_cons u_var (u_cons (u_c fun _ => .int 2) (u_cons (u_c fun _ => .int 24) u_nil)))) (by decide)) u_nil)) (u_op os_le (u_call0 (u_cons u_var u_nil)) (u_c fun _ => .int 24)))))) wf hv (guard_get e) k
abbrev s_check_dials : Stmt := top 15
def b_check_dials : En → Rf := (fIfS (fNot (fT (fCall0 f_is_dials (fCons (fVar 0) fNil)))) (fRaise "BadDials") fNext)
def f_check_dials : List D → Re := guardN 1 (bodyD b_check_dials 0)
theorem ok_check_dials {f : Addr} {fd : FuncData} (B_BadDials : ExcC K mg "BadDials" (ad "BadDials")) (C_is_dials : Cal P w K mg base CX0 3 "is_dials" ["thing"] (SpF ad f_is_dials)) (F : Fun K "check_dials" "check_dials" s_check_dials f fd) : FnOk P w K mg base (L2.CX P w) 4 f fd ["dials"] (SpF ad f_check_dials) := by
  have sc : FnScope ["dials"] ["dials"] (defScope s_check_dials) := ⟨rfl, rfl, rfl, by decide +kernel, rfl, by decide +kernel, by decide +kernel⟩
  refine F.okX sc (fun vs H Q E h => ?_) (fun cdv A outer s H vs Q E hr h => ?_)
  · obtain ⟨G, ds, r, _, hv, e, _⟩ := h
    unfold f_check_dials at e
    exact hv.len.trans (guard_len e)
  · obtain ⟨G, ds, r, wf, hv, e, k⟩ := h
    unfold f_check_dials at e
    refine ⟨_, (pss_one (ps_if (pt_not (pt_val (pe_cal C_is_dials (hr.mono (by decide)) pass0 (pa_cons (pv 0) pa_nil)))) (pss_one (ps_raise rfl (takes_of rfl rfl rfl rfl) (pmk_own PySem.F.excBase_ValueError B_BadDials.ex B_BadDials.g B_BadDials.k (raises_own B_BadDials.b B_BadDials.t) rfl))) pss_nil)), ?_⟩
    exact body_start (k := 1) (n := 0) rfl (hv.len.trans (guard_len e)) (show Ss E ad _ b_check_dials from (u_ifS (u_tNot (u_tB (u_call0 (u_cons u_var u_nil)))) u_raise u_next)) wf hv (guard_get e) k
abbrev s_check_at_most : Stmt := top 16
def b_check_at_most : En → Rf := (fIfS (fT (fOp oGt (fCall0 f_place_count (fCons (fVar 0) fNil)) (fVar 1))) (fRaiseM (fCons (fVar 1) fNil)) fNext)
def f_check_at_most : List D → Re := guardN 2 (bodyD b_check_at_most 0)
theorem ok_check_at_most {f : Addr} {fd : FuncData} (C_place_count : Cal P w K mg base CX0 1 "place_count" ["dials"] (SpF ad f_place_count)) {fTM : Addr} (TM : PySem.TmX.TmTxt K mg (ad "TooMany") fTM) (F : Fun K "check_at_most" "check_at_most" s_check_at_most f fd) : FnOk P w K mg base (L2.CX P w) 2 f fd ["dials", "most"] (SpF ad f_check_at_most) := by
  have sc : FnScope ["dials", "most"] ["dials", "most"] (defScope s_check_at_most) := ⟨rfl, rfl, rfl, by decide +kernel, rfl, by decide +kernel, by decide +kernel⟩
  refine F.okX sc (fun vs H Q E h => ?_) (fun cdv A outer s H vs Q E hr h => ?_)
  · obtain ⟨G, ds, r, _, hv, e, _⟩ := h
    unfold f_check_at_most at e
    exact hv.len.trans (guard_len e)
  · obtain ⟨G, ds, r, wf, hv, e, k⟩ := h
    unfold f_check_at_most at e
    refine ⟨_, (pss_one (ps_if (pt_cmpR op_gt (pe_cal C_place_count (hr.mono (by decide)) pass0 (pa_cons (pv 0) pa_nil)) (pv 1) (nomark _)) (pss_one (ps_raiseTm rfl TM hr (takes_of rfl rfl rfl rfl) (pa_cons (pv 1) pa_nil))) pss_nil)), ?_⟩
    exact body_start (k := 2) (n := 0) rfl (hv.len.trans (guard_len e)) (show Ss E ad _ b_check_at_most from (u_ifS (u_test (u_op os_gt (u_call0 (u_cons u_var u_nil)) u_var)) (u_raiseM rfl (u_cons u_var u_nil)) u_next)) wf hv (guard_get e) k
abbrev s_kinds_by_twos : Stmt := top 19
def b_kinds_by_twos : En → Rf := (fRet (fDc (iL (fSl true (fCall0 f_all_places (fCons (fVar 0) fNil)) (pSome (fC (.int 1))) pNone)) (sName 1) (fC (.bool true)) (fVar 1) (fCb oMin2T (fCons (fVar 1) (fCons (fCall0 f_opposite (fCons (fVar 0) (fCons (fVar 1) fNil))) fNil))) [1]))
def f_kinds_by_twos : List D → Re := guardN 1 (bodyD b_kinds_by_twos 1)
theorem ok_kinds_by_twos {f : Addr} {fd : FuncData} (Z : Zs mg) (C_opposite : Cal P w K mg base CX0 2 "opposite" ["dials", "place"] (SpF ad f_opposite)) (C_all_places : Cal P w K mg base CX0 1 "all_places" ["dials"] (SpF ad f_all_places)) (F : Fun K "kinds_by_twos" "kinds_by_twos" s_kinds_by_twos f fd) : FnOk P w K mg base CX0 3 f fd ["dials"] (SpF ad f_kinds_by_twos) := by
  have sc : FnScope ["dials", "place"] ["dials"] (defScope s_kinds_by_twos) := ⟨rfl, rfl, rfl, by decide +kernel, rfl, by decide +kernel, by decide +kernel⟩
  refine F.ok sc (fun vs H Q E h => ?_) (fun cdv A outer s H vs Q E hr h => ?_)
  · obtain ⟨G, ds, r, _, hv, e, _⟩ := h
    unfold f_kinds_by_twos at e
    exact hv.len.trans (guard_len e)
  · obtain ⟨G, ds, r, wf, hv, e, k⟩ := h
    unfold f_kinds_by_twos at e
    have hu := hu_of hr
    refine ⟨_, (pss_one (ps_ret (pe_fix (pe_dcT (own := [("place", 1)]) (g := gName 1) (tt := tYes) hu (by rfl) sc.nd (pi_list (pe_slice (r := rSlL K) sl_list (pe_cal C_all_places (hr.mono (by decide)) pass0 (pa_cons (pv 0) pa_nil)) (po_some pe_int) po_none)) (blkOk_by (N := ["dials", "place"]) (sc := defScope s_kinds_by_twos) (by decide +kernel)) (fun _ _ _ _ _ => (pg_name (i := 1) sc.nd rfl (Or.inl rfl))) (fun _ _ _ _ _ => pts_nil) (fun _ _ _ _ _ => (pv 1)) (fun _ _ _ _ _ => (pe_callB (r := rMin2D K) (cr_min2D rfl hr.units) (by rfl) Z.min (by decide +kernel) (pa_cons (pv 1) (pa_cons (pe_cal C_opposite (hr.mono (by decide)) pass0 (pa_cons (pv 0) (pa_cons (pv 1) pa_nil))) pa_nil)))))))), ?_⟩
    exact body_start (k := 1) (n := 1) rfl (hv.len.trans (guard_len e)) (show Ss E ad _ b_kinds_by_twos from (u_ret (u_dc (i_list (u_sl (k := true) (u_call0 (u_cons u_var u_nil)) (p_some (E := E) (ad := ad) (u_c fun _ => .int 1)) p_none)) g_name u_yes u_var (u_cb cs_min2T (u_cons u_var (u_cons (u_call0 (u_cons u_var (u_cons u_var u_nil))) u_nil))) (by decide)))) wf hv (guard_get e) k
abbrev s_count_each : Stmt := top 20
def b_count_each : En → Re := (fDc (iL (fVar 0)) (sName 1) (fC (.bool true)) (fVar 1) (fCnt true (fVar 0) (fVar 1)) [1])
def f_count_each : List D → Re := guardN 1 fun ds => b_count_each ((ds.map Ce.d) ++ List.replicate 1 .un)
theorem ok_count_each {f : Addr} {fd : FuncData}  (F : Fun K "count_each" "count_each" s_count_each f fd) : FnOk P w K mg base CX0 1 f fd ["items"] (SpN ad f_count_each) := by
  have sc : FnScope ["items", "item"] ["items"] (defScope s_count_each) := ⟨rfl, rfl, rfl, by decide +kernel, rfl, by decide +kernel, by decide +kernel⟩
  refine F.ok sc (fun vs H Q E h => ?_) (fun cdv A outer s H vs Q E hr h => ?_)
  · obtain ⟨G, ds, r, _, hv, e, _⟩ := h
    unfold f_count_each at e
    exact hv.len.trans (guard_len e)
  · obtain ⟨G, ds, r, wf, hv, e, k⟩ := h
    unfold f_count_each at e
    have hu := hu_of hr
    refine ⟨_, (pss_one (ps_ret (pe_dcT (tv := tBM K "list" (rCountD K true) (tVar 0) (tCons (tVar 1) tNil)) (own := [("item", 1)]) (g := gName 1) (tt := tYes) hu (by rfl) sc.nd (pi_list (pv 0)) (blkOk_by (N := ["items", "item"]) (sc := defScope s_count_each) (by decide +kernel)) (fun _ _ _ _ _ => (pg_name (i := 1) sc.nd rfl (Or.inl rfl))) (fun _ _ _ _ _ => pts_nil) (fun _ _ _ _ _ => (pv 1)) (fun _ _ _ _ _ => ?cnt)))), ?fin⟩
    case cnt => exact pe_bm (r := rCountD K true) PySem.F.plainAttrs_list PySem.F.slot_list_count PySem.F.type_list_count (mt_countL (room65 hr)) (pv 0) (pa_cons (pv 1) pa_nil)
    exact dict_start (k := 1) (n := 1) rfl (hv.len.trans (guard_len e)) (show Sd E ad _ b_count_each from (md_dc (i_list u_var) g_name u_yes u_var (u_cntL u_var u_var) (by decide))) wf hv (guard_get e) k
abbrev s_Search : Stmt := top 21
abbrev s_Search_init : Stmt := inClass s_Search 0
abbrev s_Search_go : Stmt := inClass s_Search 1
abbrev s_first_routes : Stmt := top 22
theorem ok_Search_init {C fI fG : Addr} {fdI fdG : FuncData} (Z : Zs mg) (C_count_each : Cal P w K mg base CX0 1 "count_each" ["items"] (SpN ad f_count_each)) (SR : SrT K mg C fI fG fdI fdG s_Search_init s_Search_go) {n : List Int} {B : Bg} {es : List (KK × D)} {len most : Int} (hc : f_count_each [dL (B.map (·.2))] = some (.val (dctD es))) :
    FnOk P w K mg base CX0 2 fI fdI ["self", "dials", "length", "kind_of", "most"] (SpSI C n B es len most) := by
  have sc : FnScope ["self", "dials", "length", "kind_of", "most"] ["self", "dials", "length", "kind_of", "most"] (defScope s_Search_init) := ⟨rfl, rfl, rfl, by decide +kernel, rfl, by decide +kernel, by decide +kernel⟩
  refine SR.FI.ok sc (fun vs H Q E h => ?_) (fun cdv A outer s H vs Q E hr h => ?_)
  · obtain ⟨G, p, dx, vd, vk, rfl, _⟩ := h
    rfl
  · obtain ⟨G, p, dx, vd, vk, rfl, wf, gp, hp, hd, hk, k⟩ := h
    have hu := hu_of hr
    refine ⟨_, pss_cons (ps_fld (pv 0) (pv 1) rfl) (pss_cons (ps_fld (pv 0) (pv 2) rfl) (pss_cons (ps_fld (pv 0) (pv 3) rfl) (pss_cons (ps_fld (pv 0) (pe_cal C_count_each (hr.mono (by decide)) pass0 (pa_cons (pe_callTy (r := rListV) (call_listV rfl) (by rfl) Z.list (by decide +kernel) (pa_cons (pe_vals (pv 3)) pa_nil)) pa_nil)) rfl) (pss_cons (ps_fld (pv 0) (pv 4) rfl) (pss_one (ps_fld (pv 0) (pe_lst pa_nil) rfl)))))), ?_⟩
    refine ⟨_, rfl, _, rfl, p, C, dx, _, rfl, hp, SR.cl, SR.n1, (by show 0 < 1000; decide), ?_⟩
    refine ⟨_, rfl, _, rfl, p, C, dx, _, rfl, upd_same, SR.cl, SR.n2, (by show 1 < 1000; decide), ?_⟩
    refine ⟨_, rfl, _, rfl, p, C, dx, _, rfl, upd_same, SR.cl, SR.n3, (by show 2 < 1000; decide), ?_⟩
    obtain ⟨H3, e3⟩ : ∃ H3 : Hp, H3 = upd (upd (upd H p (.ins C dx (putF "dials" vd []))) p (.ins C dx (putF "length" (.int len) (putF "dials" vd [])))) p (.ins C dx (putF "kind_of" vk (putF "length" (.int len) (putF "dials" vd [])))) := ⟨_, rfl⟩
    have h3p : H3 p = some (.ins C dx (putF "kind_of" vk (putF "length" (.int len) (putF "dials" vd [])))) := by rw [e3, upd_same]
    have h3o : ∀ b, b ≠ p → H3 b = H b := fun b hb => by rw [e3, upd_ne hb, upd_ne hb, upd_ne hb]
    have w3 : Ex G H3 := fun b o e => by
      have hb : b ≠ p := fun z => by rw [z, gp] at e; cases e
      rw [h3o b hb]; exact wf b o e
    refine (show _ from ?_)
    rw [← e3]
    have ev : EvD (tCB rListV (tCons (tVals (tVar 3)) tNil)) [some (.ref p), some vd, some (.int len), some vk, some (.int most)] G (dL (B.map (·.2))) := by
      have := d_listV (σ := [some (.ref p), some vd, some (.int len), some vk, some (.int most)]) (d_var (i := 3) rfl hk)
      have e : (enc B).map (·.2) = (B.map (·.2)).map dI := by unfold enc; rw [List.map_map, List.map_map]; rfl
      rw [e] at this
      exact this
    refine d_calN (a_cons ev a_nil) hc G H3 (.refl G) w3 _ fun l kvs G4 H4 s4 hl0 g4 h4 hp4 => ?_
    have npl : l ≠ p := fun z => by rw [z, h3p] at hl0; cases hl0
    have gp4 : G4 p = none := s4.n p gp (by rw [h3p]; intro z; cases z) (by rw [h3p]; intro xs z; cases z)
    refine ⟨_, rfl, p, C, dx, _, rfl, s4.h _ _ h3p, SR.cl, SR.n4, (by show 3 < 1000; decide), ?_⟩
    refine ⟨_, rfl, _, rfl, p, C, dx, _, rfl, upd_same, SR.cl, SR.n5, (by show 4 < 1000; decide), ?_⟩
    refine ⟨Nat.zero_le _, fun f hf => ?_⟩
    have hf4 : f ≠ p := fun z => by rw [z, upd_same] at hf; cases hf
    have hf0 : H4 f = none := by rw [upd_ne hf4, upd_ne hf4] at hf; exact hf
    have nfl : f ≠ l := fun z => by rw [z, h4] at hf0; cases hf0
    refine ⟨_, rfl, p, C, dx, _, rfl, (by rw [upd_ne (Ne.symm hf4), upd_same]), SR.cl, SR.n6, (by show 5 < 1000; decide), ?_⟩
    have g4f : G4 f = none := fresh_back s4.w hf0
    have hfH : H f = none := by
      have := h_old s4 hf0
      rw [h3o f hf4] at this; exact this
    have hlH : H l = none := by rw [h3o l npl] at hl0; exact hl0
    refine k G4 _ l f s4.g (fun b o hb e => ?_) (fun b o e => ?_) (fun b h1 h2 h5 => ?_) (by rw [upd_same, flS_put]) hlH hfH ⟨g4, kvs, ?_, hp4⟩ ⟨g4f, [], ?_, .nil⟩
    · have h1 : b ≠ f := fun z => by rw [z, hfH] at e; cases e
      rw [upd_ne hb, upd_ne h1, upd_ne hb, upd_ne hb]
      exact s4.h _ _ (by rw [h3o b hb]; exact e)
    · have h1 : b ≠ p := fun z => by rw [z, gp4] at e; cases e
      have h2 : b ≠ f := fun z => by rw [z, g4f] at e; cases e
      rw [upd_ne h1, upd_ne h2, upd_ne h1, upd_ne h1]
      exact s4.w _ _ e
    · by_cases hb : b = p
      · rw [hb]; exact gp4
      · exact s4.n b h1 (by rw [h3o b hb]; exact h2) (by rw [h3o b hb]; exact h5)
    · rw [upd_ne npl, upd_ne (Ne.symm nfl), upd_ne npl, upd_ne npl]; exact h4
    · rw [upd_ne hf4, upd_same]
theorem opd_eqN {G : Hp} {i j : Int} : OpD rEq G (.int i) (.int j) (.bool (decide (i = j))) := fun x y G1 H1 a b hx hy Q q => by
  cases hx; cases hy
  refine ⟨rfl, ?_⟩
  have e : decide (V.int i = V.int j) = decide (i = j) := by
    by_cases h : i = j
    · rw [h]; simp
    · rw [decide_eq_false h, decide_eq_false (fun z => h (V.int.inj z))]
  rw [e]
  exact q _ G1 H1 (.refl b) (.bl _)
theorem own_step {l f a : Addr} {G H : Hp} {o : HO} (w : Ex G H) (g : G a = none) (ha : a = l ∨ a = f) : St2 l f G H G (upd H a o) :=
  ⟨.refl G, fun b o' n1 n2 e => by
    have nb : b ≠ a := fun z => by rcases ha with h | h <;> rw [z, h] at n1 n2 <;> first | exact n1 rfl | exact n2 rfl
    rw [upd_ne nb]; exact e, ex_mut w g, fun b h _ _ => h⟩
theorem aug_left {G H : Hp} {σ : L2.St} {C p l f : Addr} {dl kd : D} {len most : Int} {rd : V → V → Hp → VK → Prop} {D' : Ends} {L : Cn} {k : List Int} {c c' : Int} {vk : V} (ob : Ob C G p l f dl kd len most) (cl : Cls K C) (na : NoAttr K C "left") (h0 : σ[0]? = some (some (.ref p))) (h3 : σ[3]? = some (some vk)) (hk : Dq G vk (dI k)) (w : Ex G H) (m : MD G H l (encN L)) (hc : cnt L k = some c) (nk : k ≠ []) (hb : L.length < 1000)
    (hrd : ∀ H Q, Q (.int c') H → rd (.int c) (.int 1) H Q) (q : ∀ o, Ex G (upd H l o) → MD G (upd H l o) l (encN (setN L k c')) → D'.nx σ (upd H l o)) : sDAug (tFld K (tVar 0) "left") (tVar 3) (tC (.int 1)) rd D' σ H := by
  obtain ⟨dx, vd, vkd, gp, _, _⟩ := ob
  obtain ⟨kvs, e, hp⟩ := m.at_
  have nkI : kI k ≠ [] := fun z => nk (List.map_eq_nil_iff.mp z)
  have lk : lkD (encN L) (kI k) = some (.int c) := by rw [lk_encN, hc]; rfl
  obtain ⟨z, hz, hq, _⟩ := hp.val lk
  cases hq
  rw [← kD_kI] at hk
  obtain ⟨b, rfl, hb'⟩ := hk.key nkI
  refine t_own h0 gp cl na (flS_4 ..) w ⟨.ref b, h3, l, .int c, rfl, .inr ⟨kvs, kI k, b, .inl e, rfl, w _ _ hb', hz.symm⟩, hrd _ _ ⟨_, DPut.t e (w _ _ hb') (by rw [hp.len]; unfold encN; rw [List.length_map, sizeLine_eq]; omega), ?_⟩⟩
  refine q _ (ex_mut w m.g) ⟨m.g, _, upd_same, ?_⟩
  rw [← put_encN c' hc]
  exact hp.put nkI (.int c')
abbrev rdFor (K : PySem.W.Frag) (C : Addr) (ap tk : List D → Re) (sp : Sp) (ad : Str → Addr) : TS := tFor (iList K (tCall (SpF ad ap) [] E0 (tCons (tFld K (tVar 0) "dials") tNil))) (gName 2)
  (tIfS (tAnd (tTest (tOp (rInA K true) (tVar 2) (tVar 1))) (tTest (tOp (rI0 fun i j => V.bl (decide (i < j))) (tCB (rLenA K) (tCons (tFld K (tVar 0) "found") tNil)) (tFld K (tVar 0) "most"))))
    (tSeq (tAsg (tDGet (tFld K (tVar 0) "kind_of") (tCall (SpF ad tk) [] E0 (tCons (tFld K (tVar 0) "dials") (tCons (tVar 2) (tCons (tOp (rIxT K) (tVar 1) (tUn (rU fun i => V.int (-i)) (tC (V.int 1)))) tNil))))) (gName 3))
      (tIfS (tTest (tOp (rI0 fun i j => V.bl (decide (j < i))) (tDGet (tFld K (tVar 0) "left") (tVar 3)) (tC (V.int 0))))
        (tSeq (sDAug (tFld K (tVar 0) "left") (tVar 3) (tC (V.int 1)) rSub)
          (tSeq (tDrop (tMeth C "go_on" sp [] E0 (tVar 0) (tCons (tOp (rCatA K) (tVar 1) (tTup (tCons (tVar 2) tNil))) tNil)))
            (sDAug (tFld K (tVar 0) "left") (tVar 3) (tC (V.int 1)) rAdd))) tNext)) tNext)
theorem step_len {n : List Int} {B : Bg} {len most : Int} {k : Nat} {route : Rows} {L : Cn} {F F2 : List Rows} {p : List Int} (h : stepS (goS n B len most k) n B most route L F p = some F2) : F.length ≤ F2.length := by
  unfold stepS at h
  split at h
  · split at h
    · cases h
    · split at h
      · cases h
      · split at h
        · cases h
        · split at h
          · exact goS_len k _ _ _ _ h
          · cases h; exact Nat.le_refl _
  · cases h; exact Nat.le_refl _
theorem ix_lastT {route : Rows} {last : List Int} (h : route.getLast? = some last) : oIxT (dT route) (.int (-1)) = some (dI last) := by
  have hne : route ≠ [] := fun z => by rw [z] at h; cases h
  have lp : 0 < route.length := List.length_pos_iff.mpr hne
  show ixD (route.map dI) (-1) = _
  unfold ixD
  rw [if_neg (by decide), List.length_map, if_pos (by omega), show ((-1 : Int) + (route.length : Int)).toNat = route.length - 1 from by omega, List.getElem?_map, ← List.getLast?_eq_getElem?, h]
  rfl
theorem go_loop {C : Addr} {ap tk : List D → Re} {n : List Int} {B : Bg} {len most : Int} {k : Nat} {G H : Hp} {p l f : Addr} {vr : V} {route : Rows} {L : Cn} {F F' : List Rows} {o2 o3 : Option V} {D' : Ends}
    (cl : Cls K C) (n1 : NoAttr K C "dials") (n3 : NoAttr K C "kind_of") (n4 : NoAttr K C "left") (n5 : NoAttr K C "most") (n6 : NoAttr K C "found")
    (few : (placesOf n).length ≤ 1000) (hap : ap [dI n] = some (.val (dL (placesOf n)))) (hto : ∀ a b, a ∈ placesOf n → b ∈ placesOf n → tk [dI n, dI a, dI b] = some (.val (dI (takeP n a b))))
    (wf : Ex G H) (ob : Ob C G p l f (dI n) (dctD (enc B)) len most) (hvr : Dq G vr (dT route)) (hl : MD G H l (encN L)) (hf : ML G H f (F.map dT)) (nd : (L.map (·.1)).Nodup) (ne : ∀ q ∈ L, q.1 ≠ []) (hL : L.length < 1000) (hin : ∀ q ∈ route, q ∈ placesOf n) (hlen : route.length + (k + 1) ≤ 100)
    (hgo : (placesOf n).foldlM (stepS (goS n B len most k) n B most route L) F = some F') (hF' : F'.length ≤ 1000000)
    (kk : ∀ (σ : L2.St) (G2 H2 : Hp), St2 l f G H G2 H2 → MD G2 H2 l (encN L) → ML G2 H2 f (F'.map dT) → D'.nx σ H2) : rdFor K C ap tk (SpGo C n B len most k) ad D' [some (.ref p), some vr, o2, o3] H := by
  have npl : p ≠ l := fun z => by obtain ⟨dx, vd, vkd, gp, _⟩ := ob; rw [z, hl.g] at gp; cases gp
  have npf : p ≠ f := fun z => by obtain ⟨dx, vd, vkd, gp, _⟩ := ob; rw [z, hf.g] at gp; cases gp
  have nlf : l ≠ f := fun z => by
    obtain ⟨_, e1, _⟩ := hl.at_
    obtain ⟨_, e2, _⟩ := hf.at_
    rw [z, e2] at e1; cases e1
  obtain ⟨dx, vd, vkd, gp, qd, qk⟩ := id ob
  have evp : EvD (tCall (SpF ad ap) [] E0 (tCons (tFld K (tVar 0) "dials") tNil)) [some (.ref p), some vr, o2, o3] G (dL (placesOf n)) :=
    d_calF (a_cons (d_fld (i := 0) rfl gp cl n1 (flS_1 ..) qd) a_nil) hap
  refine evp G H (.refl G) wf _ fun v G1 H1 s1 hv => ?_
  cases hv with
  | @lst a xs _ ha hxs =>
    refine ⟨a, rfl, ⟨xs, SqL.of (s1.w _ _ ha)⟩, for_list (xs := xs) (fun i σ' H' => ∃ (o2 o3 : Option V) (G' : Hp) (Fi : List Rows), σ' = [some (.ref p), some vr, o2, o3] ∧ St2 l f G H G' H' ∧ Ex G1 G' ∧ MD G' H' l (encN L) ∧ ML G' H' f (Fi.map dT) ∧ ((placesOf n).drop i).foldlM (stepS (goS n B len most k) n B most route L) Fi = some F')
      ⟨o2, o3, G1, F, rfl, s1.two, .refl _, hl.stp s1, hf.stp s1, hgo⟩ (fun i σ' H' _ ⟨_, _, _, _, _, s', x', _⟩ => SqL.of (s'.w _ _ (x' _ _ ha))) ?_ ?_⟩
    · rintro i v σ' H' hi ⟨o2, o3, G', Fi, rfl, s', x', hl', hf', hg'⟩
      obtain ⟨dv, hdv, hq⟩ := hxs.get hi
      rw [List.getElem?_map] at hdv
      obtain ⟨pl, hpl, rfl⟩ := Option.map_eq_some_iff.mp hdv
      have hq := hq.mono x'
      have pin := List.mem_of_getElem? hpl
      dsimp only [gName]
      have hdrop : (placesOf n).drop i = pl :: (placesOf n).drop (i + 1) := by
        obtain ⟨hlt, he⟩ := List.getElem?_eq_some_iff.mp hpl
        rw [List.drop_eq_getElem_cons hlt, he]
      rw [hdrop, List.foldlM_cons] at hg'
      obtain ⟨F2, hst, hrest⟩ := Option.bind_eq_some_iff.mp hg'
      have gp' : G' p = some (.ins C dx (flS vd len vkd l most f)) := s'.g _ _ gp
      have ob' : Ob C G' p l f (dI n) (dctD (enc B)) len most := ob.mono s'.g
      have hvr' := hvr.mono s'.g
      have stay : ∀ (o2 o3 : Option V) (G2 H2 : Hp), Stp G' H' G2 H2 → F2 = Fi → ∃ (o2' o3' : Option V) (G' : Hp) (Fi : List Rows), [some (.ref p), some vr, o2, o3] = [some (.ref p), some vr, o2', o3'] ∧ St2 l f G H G' H2 ∧ Ex G1 G' ∧ MD G' H2 l (encN L) ∧ ML G' H2 f (Fi.map dT) ∧ ((placesOf n).drop (i + 1)).foldlM (stepS (goS n B len most k) n B most route L) Fi = some F' :=
        fun o2 o3 G2 H2 s2 e => ⟨o2, o3, G2, Fi, rfl, s'.trans s2.two (fun _ => (hl'.stp s2).g) (fun _ => (hf'.stp s2).g), x'.trans s2.g, hl'.stp s2, hf'.stp s2, by rw [← e]; exact hrest⟩
      have eIn : EvB (tTest (tOp (rInA K true) (tVar 2) (tVar 1))) [some (.ref p), some vr, some v, o3] G' (decide (pl ∉ route)) := by
        have h := b_test (d_op (d_var (i := 2) (σ := [some (.ref p), some vr, some v, o3]) rfl hq) (d_var (i := 1) rfl hvr') (opd_inT (K := K) (neg := true) (flat_dI pl) (flat_dT route) (shaped_dI pl) (shaped_dT route)))
        have e : (if true = true then !(route.map dI).any fun z => PyData.eqv z (dI pl) else (route.map dI).any fun z => PyData.eqv z (dI pl)) = decide (pl ∉ route) := by
          rw [if_pos rfl, any_rows]
          by_cases h : pl ∈ route
          · rw [decide_eq_false (fun z => z h), List.any_eq_true.mpr ⟨pl, h, decide_eq_true rfl⟩]; rfl
          · rw [decide_eq_true h]
            have : (route.any fun c => decide (c = pl)) = false := List.any_eq_false.mpr fun x hx z => h (of_decide_eq_true z ▸ hx)
            rw [this]; rfl
        exact h.is e
      refine eIn G' H' (.refl _) s'.w _ fun G2 H2 s2 => ?_
      have gp2 := s2.g _ _ gp'
      have hl2 := hl'.stp s2
      have hf2 := hf'.stp s2
      by_cases hm : pl ∈ route
      · rw [decide_eq_false (fun z => z hm)]
        refine iteF (iteF (stay (some v) o3 G2 H2 s2 ?_))
        unfold stepS at hst
        rw [if_neg (fun z => z.1 hm)] at hst
        exact (Option.some.inj hst).symm
      rw [decide_eq_true hm]
      refine iteT ?_
      obtain ⟨us, eu, qu⟩ := hf2.at_
      refine ⟨.ref p, rfl, p, C, dx, _, .ref f, rfl, s2.w _ _ gp2, cl, n6, flS_6 .., f, us, rfl, .inl (SqL.of eu), .ref p, rfl, p, C, dx, _, .int most, rfl, s2.w _ _ gp2, cl, n5, flS_5 .., _, _, rfl, rfl, decide ((us.length : Int) < most), rfl, ?_⟩
      have ul : us.length = Fi.length := by rw [qu.len, List.length_map]
      rw [ul]
      by_cases hmo' : ¬ (Fi.length : Int) < most
      · have hmo := hmo'
        rw [decide_eq_false hmo]
        refine iteF (stay (some v) o3 G2 H2 s2 ?_)
        unfold stepS at hst
        rw [if_neg (fun z => hmo z.2)] at hst
        exact (Option.some.inj hst).symm
      have hmo := Decidable.not_not.mp hmo'
      rw [decide_eq_true hmo]
      refine iteT ?_
      unfold stepS at hst
      rw [if_pos ⟨hm, hmo⟩] at hst
      cases hla : route.getLast? with
      | none => rw [hla] at hst; cases hst
      | some last =>
        rw [hla] at hst
        dsimp only at hst
        cases hkk : atKeyB B (takeP n pl last) with
        | none => rw [hkk] at hst; cases hst
        | some q =>
          rw [hkk] at hst
          dsimp only at hst
          cases hc : cnt L q.2 with
          | none => rw [hc] at hst; cases hst
          | some c =>
            rw [hc] at hst
            dsimp only at hst
            have lin : last ∈ route := List.mem_of_getLast? hla
            have nkq : q.2 ≠ [] := by
              unfold cnt at hc
              obtain ⟨r, hr1, _⟩ := Option.map_eq_some_iff.mp hc
              have h2 : r.1 = q.2 := by have := List.find?_some hr1; simpa using this
              rw [← h2]; exact ne r (List.mem_of_find?_eq_some hr1)
            have eix : oIxT (dT route) (.int (-1)) = some (dI last) := ix_lastT hla
            have ev3 : EvD (tDGet (tFld K (tVar 0) "kind_of") (tCall (SpF ad tk) [] E0 (tCons (tFld K (tVar 0) "dials") (tCons (tVar 2) (tCons (tOp (rIxT K) (tVar 1) (tUn (rU fun i => V.int (-i)) (tC (V.int 1)))) tNil))))) [some (.ref p), some vr, some v, o3] G2 (dI q.2) := by
              refine d_dget (es := enc B) (k := kI (takeP n pl last)) (d_fld (i := 0) rfl gp2 cl n3 (flS_3 ..) (qk.mono (s'.g.trans s2.g))) ?_ (by rw [lk_enc, hkk]; rfl)
              rw [kD_kI]
              exact d_calF (a_cons (d_fld (i := 0) rfl gp2 cl n1 (flS_1 ..) (qd.mono (s'.g.trans s2.g))) (a_cons (d_var (i := 2) rfl (hq.mono s2.g)) (a_cons (d_op (d_var (i := 1) rfl (hvr'.mono s2.g)) (d_un (d_c (.int 1)) (us_neg (.int 1) (.int (-1)) rfl G2)) (os_ixT _ _ _ eix G2)) a_nil))) (hto pl last pin (hin last lin))
            refine ev3 G2 H2 (.refl _) s2.w _ fun v3 G3 H3 s3 hv3 => ?_
            dsimp only [gName]
            have s23 := s2.trans s3
            have gp3 := s3.g _ _ gp2
            have hl3 := hl2.stp s3
            have hf3 := hf2.stp s3
            have ob3 : Ob C G3 p l f (dI n) (dctD (enc B)) len most := ob'.mono s23.g
            obtain ⟨kvs, ek, hp⟩ := hl3.at_
            have nkI : kI q.2 ≠ [] := fun z => nkq (List.map_eq_nil_iff.mp z)
            have lk : lkD (encN L) (kI q.2) = some (.int c) := by rw [lk_encN, hc]; rfl
            obtain ⟨z, hz, hqz, _⟩ := hp.val lk
            cases hqz
            have hv3k := hv3
            rw [← kD_kI] at hv3k
            obtain ⟨b, rfl, hb'⟩ := hv3k.key nkI
            refine ⟨.ref p, rfl, p, C, dx, _, .ref l, rfl, s3.w _ _ gp3, cl, n4, flS_4 .., .ref b, rfl, l, .int c, rfl, .inr ⟨kvs, kI q.2, b, .inl ek, rfl, s3.w _ _ hb', hz.symm⟩, _, _, rfl, rfl, decide (0 < c), rfl, ?_⟩
            by_cases hpos' : ¬ 0 < c
            · have hpos := hpos'
              rw [decide_eq_false hpos]
              rw [if_neg hpos] at hst
              exact iteF (stay (some v) (some (.ref b)) G3 H3 s23 (Option.some.inj hst).symm)
            have hpos := Decidable.not_not.mp hpos'
            rw [decide_eq_true hpos]
            rw [if_pos hpos] at hst
            refine iteT ?_
            refine aug_left (c := c) (c' := c - 1) ob3 cl n4 rfl rfl hv3 s3.w hl3 hc nkq hL (fun H Q q => ⟨_, _, rfl, rfl, q⟩) fun o w4 m4 => ?_
            have st4 : St2 l f G H G3 (upd H3 l o) := (s'.trans s23.two (fun _ => hl3.g) (fun _ => hf3.g)).trans (own_step s3.w hl3.g (.inl rfl)) (fun z => z) (fun z => z)
            have mf4 : ML G3 (upd H3 l o) f (Fi.map dT) := hf3.other (Ne.symm nlf)
            have evA : EvS (tCons (tOp (rCatA K) (tVar 1) (tTup (tCons (tVar 2) tNil))) tNil) [some (.ref p), some vr, some v, some (.ref b)] G3 [dT (route ++ [pl])] := by
              have e : dT (route ++ [pl]) = .tuple (route.map dI ++ [dI pl]) := by unfold dT; rw [List.map_append]; rfl
              rw [e]
              exact a_cons (d_op (d_var (i := 1) rfl (hvr'.mono s23.g)) (d_tup (a_cons (d_var (i := 2) rfl (hq.mono s23.g)) a_nil) (show 1 ≤ sizeLine from by decide)) (opd_catT (by rw [List.length_map, sizeLine_eq]; simp; omega))) a_nil
            refine ⟨.ref p, rfl, p, dx, _, rfl, w4 _ _ gp3, flS_no .., evA G3 _ (.refl _) w4 _ fun vs G5 H5 s5 hvs => ?_⟩
            cases hvs with
            | cons h5 t5 =>
              cases t5
              have len2 : F2.length ≤ 1000000 := Nat.le_trans (foldM_len (fun F p F2 h => step_len h) _ F2 F' hrest) hF'
              refine ⟨G5, p, l, f, _, route ++ [pl], setN L q.2 (c - 1), Fi, F2, rfl, s5.w, ob3.mono s5.g, h5, m4.stp s5, mf4.stp s5, by rw [set_keys]; exact nd, fun x hx => ?_, ?_, fun x hx => ?_, by rw [List.length_append]; simp; omega, hst, len2, fun G6 H6 s6 m6 m7 => ?_⟩
              · have : x.1 ∈ (setN L q.2 (c - 1)).map (·.1) := List.mem_map.mpr ⟨x, hx, rfl⟩
                rw [set_keys] at this
                obtain ⟨y, hy, ey⟩ := List.mem_map.mp this
                rw [← ey]; exact ne y hy
              · unfold setN; rw [List.length_map]; exact hL
              · rcases List.mem_append.mp hx with h | h
                · exact hin x h
                · rw [List.mem_singleton.mp h]; exact pin
              · have s56 := s5.two.trans s6 (fun _ => m6.g) (fun _ => m7.g)
                refine aug_left (c := c - 1) (c' := c) (D' := _) (ob3.mono s56.g) cl n4 rfl rfl (hv3.mono s56.g) s6.w m6 (cnt_set hc) nkq (by unfold setN; rw [List.length_map]; exact hL) (fun H Q q => ⟨_, _, rfl, rfl, by rw [Int.sub_add_cancel]; exact q⟩) fun o w7 m8 => ?_
                rw [set_back nd hc] at m8
                exact ⟨some v, some (.ref b), G6, F2, rfl, (st4.trans s56 (fun _ => m6.g) (fun _ => m7.g)).trans (own_step s6.w m6.g (.inl rfl)) (fun z => z) (fun z => z), (x'.trans s23.g).trans s56.g, m8, m7.other (Ne.symm nlf), hrest⟩
    · rintro σ' H' ⟨o2, o3, G', Fi, rfl, s', x', hl', hf', hg'⟩
      rw [hxs.len, List.length_map, List.drop_length] at hg'
      cases hg'
      exact kk _ G' H' s' hl' hf'
theorem ok_Search_go_ {C fI fG : Addr} {fdI fdG : FuncData} (Z : Zs mg) (C_all_places : Cal P w K mg base CX0 1 "all_places" ["dials"] (SpF ad f_all_places)) (C_take_off : Cal P w K mg base CX0 1 "take_off" ["dials", "one", "other"] (SpF ad f_take_off)) (SR : SrT K mg C fI fG fdI fdG s_Search_init s_Search_go) {n : List Int} {B : Bg} {len most : Int}
    (few : (placesOf n).length ≤ 1000) (hap : f_all_places [dI n] = some (.val (dL (placesOf n)))) (hto : ∀ a b, a ∈ placesOf n → b ∈ placesOf n → f_take_off [dI n, dI a, dI b] = some (.val (dI (takeP n a b)))) : ∀ k, FnOk P w K mg base CX0 (2 + k) fG fdG ["self", "route"] (SpGo C n B len most k)
  | 0 => ⟨(fun vs H Q E h => by obtain ⟨G, p, l, f, vr, route, L, F, F', _, _, _, _, _, _, _, _, _, _, _, e, _⟩ := h; cases e), (fun A outer s H args us vs Q E _ _ _ _ h => by obtain ⟨G, p, l, f, vr, route, L, F, F', _, _, _, _, _, _, _, _, _, _, _, e, _⟩ := h; cases e)⟩
  | k + 1 => by
    have IH := ok_Search_go_ Z C_all_places C_take_off SR (n := n) (B := B) (len := len) (most := most) few hap hto k
    have sc : FnScope ["self", "route", "place", "kind"] ["self", "route"] (defScope s_Search_go) := ⟨rfl, rfl, rfl, by decide +kernel, rfl, by decide +kernel, by decide +kernel⟩
    refine SR.FG.ok sc (fun vs H Q E h => ?_) (fun cdv A outer s H vs Q E hr h => ?_)
    · obtain ⟨G, p, l, f, vr, route, L, F, F', rfl, _⟩ := h
      rfl
    · obtain ⟨G, p, l, f, vr, route, L, F, F', rfl, wf, ob, hvr, hl, hf, nd, ne, hL, hin, hlen, hgo, hF', kk⟩ := h
      have hu := hu_of hr
      refine ⟨_, pss_cons (ps_if (pt_cmpR op_eq (pe_callB (r := rLenA K) call_len_seq (by rfl) Z.len PySem.boot_len (pa_cons (pv 1) pa_nil)) (pe_fld (pv 0) rfl) (nomark _))
          (pss_cons (ps_expr (pe_bm PySem.F.plainAttrs_list PySem.F.slot_list_append PySem.F.type_list_append mt_append (pe_fld (pv 0) rfl) (pa_cons (pv 1) pa_nil))) (pss_one ps_retN)) pss_nil)
        (pss_one (ps_for PassesOwn.never rfl (pi_list (pe_cal C_all_places (hr.mono (by first | exact Nat.le_refl _ | exact Nat.le_trans (by decide) (Nat.le_add_right 2 _))) pass0 (pa_cons (pe_fld (pv 0) rfl) pa_nil))) (pg_name (i := 2) sc.nd rfl (Or.inl rfl))
          (pss_one (ps_if (PW.pt (pw_and (pt_cmpR (r := rInA K true) (op_notInA (room65 hr)) (pv 2) (pv 1) (by rfl)) (pw_and1 (pt_cmpR op_lt (pe_callB (r := rLenA K) call_len_seq (by rfl) Z.len PySem.boot_len (pa_cons (pe_fld (pv 0) rfl) pa_nil)) (pe_fld (pv 0) rfl) (nomark _)))))
            (pss_cons (ps_set (i := 3) sc.nd rfl (Or.inl rfl) (pe_dget hu (pe_fld (pv 0) rfl) (pe_cal C_take_off (hr.mono (by first | exact Nat.le_refl _ | exact Nat.le_trans (by decide) (Nat.le_add_right 2 _))) pass0 (pa_cons (pe_fld (pv 0) rfl) (pa_cons (pv 2) (pa_cons (pe_ix (r := rIxT K) ix_tup (pv 1) (pe_un un_neg pe_int) (fun _ _ => rfl)) pa_nil)))) (fun _ _ => rfl)))
              (pss_one (ps_if (pt_cmpR op_gt (pe_dget hu (pe_fld (pv 0) rfl) (pv 3) (fun _ _ => rfl)) pe_int (nomark _))
                (pss_cons (ps_daug hu (pe_fld (pv 0) rfl) (pv 3) pe_int in_sub (by intros; rfl))
                  (pss_cons (ps_expr (pe_meth (pv 0) SR.cl SR.me IH (hr.mono (by first | exact Nat.le_refl _ | exact Nat.le_trans (by decide) (Nat.le_add_right 2 _))) SR.bG .nil pass0 (pa_cons (pe_op (r := rCatA K) op_catA (pv 1) (pe_tup (pa_cons (pv 2) pa_nil))) pa_nil)))
                    (pss_one (ps_daug hu (pe_fld (pv 0) rfl) (pv 3) pe_int in_add (by intros; rfl))))) pss_nil))) pss_nil)))), ?_⟩
      obtain ⟨dx, vd, vkd, gp, qd, qk⟩ := id ob
      have ev0 : EvB (tTest (tOp rEq (tCB (rLenA K) (tCons (tVar 1) tNil)) (tFld K (tVar 0) "length"))) [some (.ref p), some vr, none, none] G (decide (((route.map dI).length : Int) = len)) :=
        b_test (d_op (d_cb (a_cons (d_var (i := 1) rfl hvr) a_nil) cad_lenT) (d_fld (i := 0) rfl gp SR.cl SR.n2 (flS_2 ..) (.int len)) opd_eqN)
      refine q_when ev0 wf (fun hb G1 H1 s1 => ?_) (fun hb G1 H1 s1 => ?_)
      · have hlen' : (route.length : Int) = len := by have := of_decide_eq_true hb; rwa [List.length_map] at this
        have hf1 := hf.stp s1
        have hl1 := hl.stp s1
        have nlf : l ≠ f := fun z => by
          obtain ⟨_, e1, _⟩ := hl.at_
          obtain ⟨_, e2, _⟩ := hf.at_
          rw [z, e2] at e1; cases e1
        obtain ⟨us, eu, qu⟩ := hf1.at_
        have e1 : F' = F ++ [route] := by unfold goS at hgo; rw [if_pos hlen'] at hgo; exact (Option.some.inj hgo).symm
        refine ⟨.ref p, rfl, p, C, dx, _, .ref f, rfl, s1.w _ _ (s1.g _ _ gp), SR.cl, SR.n6, flS_6 .., .inl ⟨rfl, us, SqL.of eu⟩, vr, rfl, f, us, vr, rfl, rfl, eu, ?_, ?_⟩
        · rw [qu.len, List.length_map, sizeLine_eq]
          have : F'.length = F.length + 1 := by rw [e1, List.length_append]; rfl
          omega
        · refine kk G1 _ (s1.two.trans (own_step s1.w hf1.g (.inr rfl)) (fun z => z) (fun z => z)) (hl1.other nlf) ⟨hf1.g, _, upd_same, ?_⟩
          rw [e1, List.map_append]
          exact qu.snoc (hvr.mono s1.g)
      · have hlen' : ¬ (route.length : Int) = len := by have := of_decide_eq_false hb; rwa [List.length_map] at this
        unfold goS at hgo
        rw [if_neg hlen'] at hgo
        exact go_loop (D' := { nx := fun _ H' => Q .non H', rt := Q }) SR.cl SR.n1 SR.n3 SR.n4 SR.n5 SR.n6 few hap hto s1.w (ob.mono s1.g) (hvr.mono s1.g) (hl.stp s1) (hf.stp s1) nd ne hL hin hlen hgo hF' fun σ G2 H2 s2 m2 m3 => kk G2 H2 (s1.two.trans s2 (fun _ => m2.g) (fun _ => m3.g)) m2 m3
section
variable {n a b : List Int}
theorem sq_24 (hn : n ∈ fewD) : (placesOf n).length ≤ 1000 := by
  have okd := okB_ok (List.all_eq_true.mp few_ok n hn)
  have h1 := okd.pl n.length
  rw [List.take_length] at h1
  exact Nat.le_trans h1 (by decide)
theorem sq_places (hn : n ∈ fewD) : f_all_places [dI n] = some (.val (dL (placesOf n))) := few_V (f := fun n => f_all_places [dI n]) (g := fun n => dL (placesOf n)) (by decide +kernel) hn
theorem sq_nothing (hn : n ∈ fewD) : f_nothing_of [dI n] = some (.val (dI (zeros n))) := few_V (f := fun n => f_nothing_of [dI n]) (g := fun n => dI (zeros n)) (by decide +kernel) hn
theorem sq_zeros (hn : n ∈ fewD) : zeros n ∈ placesOf n := by
  have h : ∀ n ∈ fewD, zeros n ∈ placesOf n := by decide +kernel
  exact h n hn
theorem sq_take_go (X Y Z : Ce) : ∀ {n a b : List Int}, a.length = n.length → b.length = n.length → (∀ s ∈ n, 0 < s) →
    lcGo (sTup 3 (sCons (sName 3) (sCons (sName 4) (sCons (sName 5) sNil)))) (fC (.bool true)) (fOp oMod (fOp oSub (fVar 3) (fVar 4)) (fVar 5)) [X, Y, Z, .un, .un, .un] (zipT3 (a.map .int) (b.map .int) (n.map .int)) = some ((takeP n a b).map .int)
  | [], [], [], _, _, _ => rfl
  | s :: n, x :: a, y :: b, h1, h2, h3 => by
    have ih := sq_take_go X Y Z (n := n) (a := a) (b := b) (by simpa using h1) (by simpa using h2) (fun s hs => h3 s (List.mem_cons_of_mem _ hs))
    have hs : 0 < s := h3 s (List.mem_cons_self ..)
    have e : (fOp oMod (fOp oSub (fVar 3) (fVar 4)) (fVar 5)) [X, Y, Z, .d (.int x), .d (.int y), .d (.int s)] = some (.val (.int ((x - y) % s))) := by
      show (match oIc cMod (fun i j => PyData.int (i % j)) (.int (x - y)) (.int s) with | some z => some (Ou.val z) | none => none) = _
      simp [oIc, cMod, hs]
    have e0 : sTup 3 (sCons (sName 3) (sCons (sName 4) (sCons (sName 5) sNil))) (.tuple [.int x, .int y, .int s]) [X, Y, Z, .un, .un, .un] = some [X, Y, Z, .d (.int x), .d (.int y), .d (.int s)] := rfl
    simp only [List.map_cons, zipT3, takeP]
    unfold lcGo
    rw [e0]; dsimp only [fC]
    rw [if_pos rfl, e, ih]
theorem sq_take (hn : n ∈ fewD) (h1 : a ∈ placesOf n) (h2 : b ∈ placesOf n) : f_take_off [dI n, dI a, dI b] = some (.val (dI (takeP n a b))) := by
  have okd := okB_ok (List.all_eq_true.mp few_ok n hn)
  refine (guard_of rfl).trans (bodyD_rt (fRet_val ?_))
  rw [fCb_one (fLc_of (as := zipT3 (a.map PyData.int) (b.map .int) (n.map .int)) rfl (zipT3_small (by have := okd.hi; omega)) (sq_take_go _ _ _ (few_inP hn h1).len (few_inP hn h2).len (fun s hs => by have := okd.sz s hs; omega)))]
  rfl
end
def f_first_routes : List D → Re := firstR f_count_each
theorem ok_first_routes {C fI fG : Addr} {fdI fdG : FuncData} {f : Addr} {fd : FuncData} (Z : Zs mg) (C_nothing_of : Cal P w K mg base CX0 1 "nothing_of" ["dials"] (SpF ad f_nothing_of)) (C_all_places : Cal P w K mg base CX0 1 "all_places" ["dials"] (SpF ad f_all_places)) (C_take_off : Cal P w K mg base CX0 1 "take_off" ["dials", "one", "other"] (SpF ad f_take_off)) (C_count_each : Cal P w K mg base CX0 1 "count_each" ["items"] (SpN ad f_count_each)) (SR : SrT K mg C fI fG fdI fdG s_Search_init s_Search_go) (F : Fun K "first_routes" "first_routes" s_first_routes f fd) : FnOk P w K mg base CX0 20 f fd ["dials", "length", "kind_of", "most"] (SpF ad f_first_routes) := by
  have sc : FnScope ["dials", "length", "kind_of", "most", "search"] ["dials", "length", "kind_of", "most"] (defScope s_first_routes) := ⟨rfl, rfl, rfl, by decide +kernel, rfl, by decide +kernel, by decide +kernel⟩
  refine F.ok sc (fun vs H Q E h => ?_) (fun cdv A outer s H vs Q E hr h => ?_)
  · obtain ⟨G, ds, r, _, hv, e, _⟩ := h
    obtain ⟨n, B, L, len, most, F, rfl, _⟩ := firstR_some e
    exact hv.len
  · obtain ⟨G, ds, r, wf, hv, e, kk⟩ := h
    obtain ⟨n, B, L, len, most, Fs, rfl, hfc, hn, nd, ne, hL, hgo, hF, rfl⟩ := firstR_some e
    have hu := hu_of hr
    refine ⟨_, pss_cons (ps_set (i := 4) sc.nd rfl (Or.inl rfl) (pe_make (k := 2) SR.mkC (ok_Search_init Z C_count_each SR (n := n) (B := B) (es := encN L) (len := len) (most := most) hfc) (hr.mono (by decide)) (by rfl) SR.mgC SR.bI .nil pass0 (pa_cons (pv 0) (pa_cons (pv 1) (pa_cons (pv 2) (pa_cons (pv 3) pa_nil))))))
      (pss_cons (ps_expr (pe_meth (k := 18) (pv 4) SR.cl SR.me (ok_Search_go_ Z C_all_places C_take_off SR (n := n) (B := B) (len := len) (most := most) (sq_24 hn) (sq_places hn) (fun a b h1 h2 => sq_take hn h1 h2) 16) (hr.mono (by decide)) SR.bG .nil pass0 (pa_cons (pe_tup (pa_cons (pe_cal C_nothing_of (hr.mono (by decide)) pass0 (pa_cons (pv 0) pa_nil)) pa_nil)) pa_nil)))
        (pss_one (ps_ret (pe_fld (pv 4) rfl)))), ?_⟩
    cases hv with
    | @cons v0 _ _ _ h0 t => cases t with
      | @cons v1 _ _ _ h1 t => cases t with
        | @cons v2 _ _ _ h2 t => cases t with
          | @cons v3 _ _ _ h3 t =>
            cases t
            cases h1
            cases h3
            have evA : EvS (tCons (tVar 0) (tCons (tVar 1) (tCons (tVar 2) (tCons (tVar 3) tNil)))) [some v0, some (.int len), some v2, some (.int most), none] G [dI n, .int len, dctD (enc B), .int most] :=
              a_cons (d_var (i := 0) rfl h0) (a_cons (d_var (i := 1) rfl (.int _)) (a_cons (d_var (i := 2) rfl h2) (a_cons (d_var (i := 3) rfl (.int _)) a_nil)))
            unfold tSeq tAsg tMake
            refine evA G H (.refl G) wf _ fun vs G1 H1 s1 hvs => ?_
            cases hvs with
            | @cons w0 _ _ _ i0 t => cases t with
              | @cons w1 _ _ _ i1 t => cases t with
                | @cons w2 _ _ _ i2 t => cases t with
                  | @cons w3 _ _ _ i3 t =>
                    cases t
                    cases i1
                    cases i3
                    intro x dx hx hdx ndx
                    have g1x : G1 x = none := fresh_back s1.w hx
                    have g1d : G1 dx = none := fresh_back s1.w hdx
                    obtain ⟨Hn, eHn⟩ : ∃ Hn : Hp, Hn = upd (upd H1 dx (.own x)) x (.ins C dx []) := ⟨_, rfl⟩
                    have hnx : Hn x = some (.ins C dx []) := by rw [eHn, upd_same]
                    have hno : ∀ b o, H1 b = some o → Hn b = some o := fun b o e => by rw [eHn, upd_ne (fun z => by rw [z, hx] at e; cases e), upd_ne (fun z => by rw [z, hdx] at e; cases e)]; exact e
                    have wn : Ex G1 Hn := fun b o e => hno b o (s1.w b o e)
                    rw [← eHn]
                    refine ⟨G1, x, dx, w0, w2, rfl, wn, g1x, hnx, i0, i2, fun G2 H2 l f x2 keep w2' n2 h2x hl hf ml mf => ⟨rfl, ?_⟩⟩
                    dsimp only [gName]
                    have g2x : G2 x = none := n2 x g1x (by rw [hnx]; intro z; cases z) (by rw [hnx]; intro xs z; cases z)
                    have nlx : l ≠ x := fun z => by rw [z, hnx] at hl; cases hl
                    have nfx : f ≠ x := fun z => by rw [z, hnx] at hf; cases hf
                    obtain ⟨G3, eG3⟩ : ∃ G3 : Hp, G3 = upd G2 x (.ins C dx (flS w0 len w2 l most f)) := ⟨_, rfl⟩
                    have x3 : Ex G2 G3 := by rw [eG3]; exact .new g2x
                    have w3 : Ex G3 H2 := fun b o e => by
                      rw [eG3] at e
                      by_cases z : b = x
                      · rw [z, upd_same] at e; rw [z, ← e]; exact h2x
                      · rw [upd_ne z] at e; exact w2' b o e
                    have ml3 : MD G3 H2 l (encN L) := by
                      obtain ⟨kvs, e1, q⟩ := ml.at_
                      exact ⟨by rw [eG3, upd_ne nlx]; exact ml.g, kvs, e1, q.mono x3⟩
                    have mf3 : ML G3 H2 f [] := by
                      obtain ⟨us, e1, q⟩ := mf.at_
                      exact ⟨by rw [eG3, upd_ne nfx]; exact mf.g, us, e1, q.mono x3⟩
                    have ob3 : Ob C G3 x l f (dI n) (dctD (enc B)) len most := ⟨dx, w0, w2, by rw [eG3, upd_same], i0.mono (x2.trans x3), i2.mono (x2.trans x3)⟩
                    have evR : EvS (tCons (tTup (tCons (tCall (SpF ad f_nothing_of) [] E0 (tCons (tVar 0) tNil)) tNil)) tNil) [some v0, some (.int len), some v2, some (.int most), some (.ref x)] G3 [dT [zeros n]] :=
                      a_cons (d_tup (a_cons (d_calF (a_cons (d_var (i := 0) rfl (h0.mono ((s1.g.trans x2).trans x3))) a_nil) (sq_nothing hn)) a_nil) (show 1 ≤ sizeLine from by decide)) a_nil
                    refine ⟨.ref x, rfl, x, dx, _, rfl, h2x, flS_no .., evR G3 H2 (.refl _) w3 _ fun vs G4 H4 s4 hvs => ?_⟩
                    cases hvs with
                    | cons h5 t5 =>
                      cases t5
                      refine ⟨G4, x, l, f, _, [zeros n], L, [], Fs, rfl, s4.w, ob3.mono s4.g, h5, ml3.stp s4, mf3.stp s4, nd, ne, hL, fun q hq => by rw [List.mem_singleton.mp hq]; exact sq_zeros hn, (show 1 + 16 ≤ 100 from by decide), hgo, hF, fun G5 H5 s5 m5 f5 => ?_⟩
                      have g5x : G5 x = some (.ins C dx (flS w0 len w2 l most f)) := s5.g _ _ (s4.g _ _ (by rw [eG3, upd_same]))
                      refine ⟨.ref x, rfl, x, C, dx, _, .ref f, rfl, s5.w _ _ g5x, SR.cl, SR.n6, flS_6 .., ?_⟩
                      have keep5 : ∀ b o, H1 b = some o → H5 b = some o := fun b o e => by
                        have hb := hno b o e
                        have nx : b ≠ x := fun z => by rw [z, hx] at e; cases e
                        have h4 : H4 b = some o := s4.h _ _ (keep b o nx hb)
                        exact s5.h b o (fun z => by rw [z, hl] at hb; cases hb) (fun z => by rw [z, hf] at hb; cases hb) h4
                      have st : Stp G1 H1 G5 H5 := ⟨((x2.trans x3).trans s4.g).trans s5.g, keep5, s5.w, fun b q1 q2 q3 => by
                        have nx : b ≠ x := fun z => by rw [z] at q2; exact q2 hx
                        have hb : Hn b = H1 b := by
                          cases e : H1 b with
                          | none => exact (q2 e).elim
                          | some o => exact hno b o e
                        have q2' : Hn b ≠ none := by rw [hb]; exact q2
                        have q3' : ∀ xs, Hn b ≠ some (.tup xs) := by rw [hb]; exact q3
                        have h2b : H2 b = H1 b := by
                          cases e : H1 b with
                          | none => exact (q2 e).elim
                          | some o => exact keep b o nx (hno b o e)
                        have h4b : H4 b = H1 b := by
                          cases e : H1 b with
                          | none => exact (q2 e).elim
                          | some o => exact s4.h b o (by rw [h2b, e])
                        have g3 : G3 b = none := by rw [eG3, upd_ne nx]; exact n2 b q1 q2' q3'
                        have g4 : G4 b = none := s4.n b g3 (by rw [h2b]; exact q2) (by rw [h2b]; exact q3)
                        exact s5.n b g4 (by rw [h4b]; exact q2) (by rw [h4b]; exact q3)⟩
                      have hf1 : H1 f = none := by
                        cases e : H1 f with
                        | none => rfl
                        | some o => rw [hno f o e] at hf; cases hf
                      obtain ⟨us, st2, _, q2, _, _⟩ := f5.know (s1.trans st) (h_old s1 hf1)
                      exact kk _ _ _ st2 q2
abbrev s_all_routes : Stmt := top 23
def b_all_routes : En → Rf := (fRet (fCall0 f_first_routes (fCons (fVar 0) (fCons (fVar 1) (fCons (fVar 2) (fCons (fC (.int 999999999)) fNil))))))
def f_all_routes : List D → Re := guardN 3 (bodyD b_all_routes 0)
theorem ok_all_routes {f : Addr} {fd : FuncData} (N_NO_LIMIT : ∃ t, mg "NO_LIMIT" = some (.int 999999999 t)) (C_first_routes : Cal P w K mg base CX0 20 "first_routes" ["dials", "length", "kind_of", "most"] (SpF ad f_first_routes)) (F : Fun K "all_routes" "all_routes" s_all_routes f fd) : FnOk P w K mg base CX0 21 f fd ["dials", "length", "kind_of"] (SpF ad f_all_routes) := by
  have sc : FnScope ["dials", "length", "kind_of"] ["dials", "length", "kind_of"] (defScope s_all_routes) := ⟨rfl, rfl, rfl, by decide +kernel, rfl, by decide +kernel, by decide +kernel⟩
  refine F.ok sc (fun vs H Q E h => ?_) (fun cdv A outer s H vs Q E hr h => ?_)
  · obtain ⟨G, ds, r, _, hv, e, _⟩ := h
    unfold f_all_routes at e
    exact hv.len.trans (guard_len e)
  · obtain ⟨G, ds, r, wf, hv, e, k⟩ := h
    unfold f_all_routes at e
    refine ⟨_, (pss_one (ps_ret (pe_cal C_first_routes (hr.mono (by decide)) pass0 (pa_cons (pv 0) (pa_cons (pv 1) (pa_cons (pv 2) (pa_cons (pe_globI N_NO_LIMIT (by rfl)) pa_nil))))))), ?_⟩
    exact body_start (k := 3) (n := 0) rfl (hv.len.trans (guard_len e)) (show Ss E ad _ b_all_routes from (u_ret (u_call0 (u_cons u_var (u_cons u_var (u_cons u_var (u_cons (u_c fun _ => .int _) u_nil))))))) wf hv (guard_get e) k
abbrev s_all_fair : Stmt := top 25
def b_all_fair : En → Rf := (fRet (fCall0 f_all_routes (fCons (fVar 0) (fCons (fCall0 f_place_count (fCons (fVar 0) fNil)) (fCons (fCall0 f_kinds_by_twos (fCons (fVar 0) fNil)) fNil)))))
def f_all_fair : List D → Re := guardN 1 (bodyD b_all_fair 0)
theorem ok_all_fair {f : Addr} {fd : FuncData} (C_all_routes : Cal P w K mg base CX0 21 "all_routes" ["dials", "length", "kind_of"] (SpF ad f_all_routes)) (C_place_count : Cal P w K mg base CX0 1 "place_count" ["dials"] (SpF ad f_place_count)) (C_kinds_by_twos : Cal P w K mg base CX0 3 "kinds_by_twos" ["dials"] (SpF ad f_kinds_by_twos)) (F : Fun K "all_fair" "all_fair" s_all_fair f fd) : FnOk P w K mg base CX0 22 f fd ["dials"] (SpF ad f_all_fair) := by
  have sc : FnScope ["dials"] ["dials"] (defScope s_all_fair) := ⟨rfl, rfl, rfl, by decide +kernel, rfl, by decide +kernel, by decide +kernel⟩
  refine F.ok sc (fun vs H Q E h => ?_) (fun cdv A outer s H vs Q E hr h => ?_)
  · obtain ⟨G, ds, r, _, hv, e, _⟩ := h
    unfold f_all_fair at e
    exact hv.len.trans (guard_len e)
  · obtain ⟨G, ds, r, wf, hv, e, k⟩ := h
    unfold f_all_fair at e
    refine ⟨_, (pss_one (ps_ret (pe_cal C_all_routes (hr.mono (by decide)) pass0 (pa_cons (pv 0) (pa_cons (pe_cal C_place_count (hr.mono (by decide)) pass0 (pa_cons (pv 0) pa_nil)) (pa_cons (pe_cal C_kinds_by_twos (hr.mono (by decide)) pass0 (pa_cons (pv 0) pa_nil)) pa_nil)))))), ?_⟩
    exact body_start (k := 1) (n := 0) rfl (hv.len.trans (guard_len e)) (show Ss E ad _ b_all_fair from (u_ret (u_call0 (u_cons u_var (u_cons (u_call0 (u_cons u_var u_nil)) (u_cons (u_call0 (u_cons u_var u_nil)) u_nil)))))) wf hv (guard_get e) k
abbrev s_fair_tours : Stmt := top 26
def b_fair_tours : En → Rf := (fSeq (fDrop (fCall f_check_dials (fCons (fVar 0) fNil))) (fSeq (fDrop (fCall f_check_at_most (fCons (fVar 0) (fCons (fC (.int 7)) fNil)))) (fRet (fCall0 f_all_fair (fCons (fVar 0) fNil)))))
def f_fair_tours : List D → Re := guardN 1 (bodyD b_fair_tours 0)
theorem ok_fair_tours {f : Addr} {fd : FuncData} (C_check_dials : Cal P w K mg base (L2.CX P w) 4 "check_dials" ["dials"] (SpF ad f_check_dials)) (C_check_at_most : Cal P w K mg base (L2.CX P w) 2 "check_at_most" ["dials", "most"] (SpF ad f_check_at_most)) (C_all_fair : Cal P w K mg base CX0 22 "all_fair" ["dials"] (SpF ad f_all_fair)) (F : Fun K "fair_tours" "fair_tours" s_fair_tours f fd) : FnOk P w K mg base (L2.CX P w) 23 f fd ["dials"] (SpF ad f_fair_tours) := by
  have sc : FnScope ["dials"] ["dials"] (defScope s_fair_tours) := ⟨rfl, rfl, rfl, by decide +kernel, rfl, by decide +kernel, by decide +kernel⟩
  refine F.okX sc (fun vs H Q E h => ?_) (fun cdv A outer s H vs Q E hr h => ?_)
  · obtain ⟨G, ds, r, _, hv, e, _⟩ := h
    unfold f_fair_tours at e
    exact hv.len.trans (guard_len e)
  · obtain ⟨G, ds, r, wf, hv, e, k⟩ := h
    unfold f_fair_tours at e
    refine ⟨_, (pss_cons (ps_expr (pe_cal C_check_dials (hr.mono (by decide)) (passes_call (E := E) (W := fun c d _ H => E c d H) (takes_of rfl rfl rfl rfl) (fun _ _ _ _ h => h)) (pa_cons (pv 0) pa_nil))) (pss_cons (ps_expr (pe_cal C_check_at_most (hr.mono (by decide)) (passes_call (E := E) (W := fun c d _ H => E c d H) (takes_of rfl rfl rfl rfl) (fun _ _ _ _ h => h)) (pa_cons (pv 0) (pa_cons pe_int pa_nil)))) (pss_one (ps_ret (pe_cal C_all_fair (hr.mono (by decide)) pass0 (pa_cons (pv 0) pa_nil)))))), ?_⟩
    exact body_start (k := 1) (n := 0) rfl (hv.len.trans (guard_len e)) (show Ss E ad _ b_fair_tours from (u_seq (u_drop (u_call (u_cons u_var u_nil))) (u_seq (u_drop (u_call (u_cons u_var (u_cons (u_c fun _ => .int 7) u_nil)))) (u_ret (u_call0 (u_cons u_var u_nil)))))) wf hv (guard_get e) k
abbrev s_fair_many : Stmt := top 27
def b_fair_many : En → Rf := (fSeq (fDrop (fCall f_check_dials (fCons (fVar 0) fNil))) (fSeq (fDrop (fCall f_check_at_most (fCons (fVar 0) (fCons (fC (.int 8)) fNil)))) (fRet (fCb oLen (fCons (fCall0 f_all_fair (fCons (fVar 0) fNil)) fNil)))))
def f_fair_many : List D → Re := guardN 1 (bodyD b_fair_many 0)
theorem ok_fair_many {f : Addr} {fd : FuncData} (Z : Zs mg) (C_check_dials : Cal P w K mg base (L2.CX P w) 4 "check_dials" ["dials"] (SpF ad f_check_dials)) (C_check_at_most : Cal P w K mg base (L2.CX P w) 2 "check_at_most" ["dials", "most"] (SpF ad f_check_at_most)) (C_all_fair : Cal P w K mg base CX0 22 "all_fair" ["dials"] (SpF ad f_all_fair)) (F : Fun K "fair_many" "fair_many" s_fair_many f fd) : FnOk P w K mg base (L2.CX P w) 23 f fd ["dials"] (SpF ad f_fair_many) := by
  have sc : FnScope ["dials"] ["dials"] (defScope s_fair_many) := ⟨rfl, rfl, rfl, by decide +kernel, rfl, by decide +kernel, by decide +kernel⟩
  refine F.okX sc (fun vs H Q E h => ?_) (fun cdv A outer s H vs Q E hr h => ?_)
  · obtain ⟨G, ds, r, _, hv, e, _⟩ := h
    unfold f_fair_many at e
    exact hv.len.trans (guard_len e)
  · obtain ⟨G, ds, r, wf, hv, e, k⟩ := h
    unfold f_fair_many at e
    refine ⟨_, (pss_cons (ps_expr (pe_cal C_check_dials (hr.mono (by decide)) (passes_call (E := E) (W := fun c d _ H => E c d H) (takes_of rfl rfl rfl rfl) (fun _ _ _ _ h => h)) (pa_cons (pv 0) pa_nil))) (pss_cons (ps_expr (pe_cal C_check_at_most (hr.mono (by decide)) (passes_call (E := E) (W := fun c d _ H => E c d H) (takes_of rfl rfl rfl rfl) (fun _ _ _ _ h => h)) (pa_cons (pv 0) (pa_cons pe_int pa_nil)))) (pss_one (ps_ret (pe_callB (r := rLenA K) call_len_seq (by rfl) Z.len PySem.boot_len (pa_cons (pe_cal C_all_fair (hr.mono (by decide)) pass0 (pa_cons (pv 0) pa_nil)) pa_nil)))))), ?_⟩
    exact body_start (k := 1) (n := 0) rfl (hv.len.trans (guard_len e)) (show Ss E ad _ b_fair_many from (u_seq (u_drop (u_call (u_cons u_var u_nil))) (u_seq (u_drop (u_call (u_cons u_var (u_cons (u_c fun _ => .int 8) u_nil)))) (u_ret (u_cb cs_len (u_cons (u_call0 (u_cons u_var u_nil)) u_nil)))))) wf hv (guard_get e) k
end
end Mv
namespace Mv
open PySem L2 Evl
theorem small_few0 : small 0 = true := rfl
theorem small_few1 : small 1 = true := rfl
theorem small_few2 : small 2 = true := rfl
theorem small_few3 : small 3 = true := rfl
section
variable {n a b : List Int}
theorem few_okd (hn : n ∈ fewD) : OkD n := okB_ok (List.all_eq_true.mp few_ok n hn)
theorem few_pos (hn : n ∈ fewD) : ∀ s ∈ n, 0 < s := fun s hs => by have := (few_okd hn).sz s hs; omega
theorem few_l4 (hn : n ∈ fewD) : n.length ≤ 4 := (few_okd hn).hi
theorem few_l1 (hn : n ∈ fewD) : 1 ≤ n.length := (few_okd hn).lo
theorem in_len (hn : n ∈ fewD) {p : List Int} (h : p ∈ placesOf n) : p.length = n.length := (few_inP hn h).len
theorem count_v (hn : n ∈ fewD) : f_place_count [dI n] = some (.val (.int (prod n))) := few_V (f := fun n => f_place_count [dI n]) (g := fun n => .int (prod n)) (by decide +kernel) hn
theorem chkDials_v (hn : n ∈ fewD) : f_check_dials [dI n] = some (.val .none) := few_V (f := fun n => f_check_dials [dI n]) (g := fun _ => .none) (by decide +kernel) hn
theorem zipPl {P M : Rows} : zipT (P.map dI) (M.map dI) = (P.zip M).map fun q => .tuple [dI q.1, dI q.2] := zipT_map _ _ _ _
theorem MovesOk.inn (hn : n ∈ fewD) {M : Rows} (o : MovesOk n M) {p : List Int} (h : p ∈ M) : p.length = n.length := (o.inp p h).len
end
end Mv
namespace Mv
open PySem L2 Evl
section
variable {n a b : List Int}
theorem cut1 (ds : List D) : cutD ds (some 1) none = ds.tail := by
  cases ds with
  | nil => rfl
  | cons d ds =>
    have := cut_hi (ds := d :: ds) 1 (by simp)
    rw [List.tail_cons]
    exact this
theorem slT_v {fe : En → Re} {Γ : En} {ds : List D} (h : fe Γ = some (.val (.tuple ds))) : fSl false fe (pSome (fC (.int 1))) pNone Γ = some (.val (.tuple ds.tail)) := by
  unfold fSl
  rw [h]
  show some (Ou.val (sq false (cutD ds (some 1) none))) = _
  rw [cut1]; rfl
theorem tail_map (M : Rows) : (M.map dI).tail = M.tail.map dI := by cases M <;> rfl
end
end Mv
namespace Mv
open PySem L2 Evl
section
variable {n a b : List Int} {Γ : En} {fa fb fy fd : En → Re} {B : Bg} {p t y m : List Int}
theorem intsI_map : ∀ p : List Int, intsI (p.map PyData.int) = some p
  | [] => rfl
  | i :: p => by
    show (match intsI (p.map PyData.int) with | some r => some (i :: r) | none => none) = _
    rw [intsI_map p]
theorem rowI_dI (p : List Int) : rowI (dI p) = some p := intsI_map p
theorem keyR_kI : ∀ p : List Int, keyR (kI p) = some p
  | [] => rfl
  | i :: p => by
    show (match keyR (kI p) with | some r => some (i :: r) | none => none) = _
    rw [keyR_kI p]
theorem bgI_enc : ∀ B : Bg, bgI (enc B) = some B
  | [] => rfl
  | (k, d) :: B => by
    show (match keyR (kI k), rowI (dI d), bgI (enc B) with | some p, some m, some r => some ((p, m) :: r) | _, _, _ => none) = _
    rw [keyR_kI, rowI_dI, bgI_enc B]
theorem bgOf_enc (B : Bg) : bgOf (dctD (enc B)) = some B := by
  unfold bgOf
  rw [dctOf_dctD]
  exact bgI_enc B
theorem eqIn_v (P : Rows) (p : List Int) (neg : Bool) : oIn neg (dI p) (dL P) = some (.bool (if neg then !decide (p ∈ P) else decide (p ∈ P))) := by
  have f : (fine (dI p) && fine (dL P)) = true := by
    unfold fine
    rw [flat_dI, shaped_dI, show flatD (dL P) = true from flat_rows P, show SeqAt.shaped (dL P) = true from shaped_rowsL P]; rfl
  unfold oIn
  rw [if_pos f]
  have e : ((P.map dI).any fun z => PyData.eqv z (dI p)) = decide (p ∈ P) := by
    rw [any_rows]
    by_cases h : p ∈ P
    · rw [decide_eq_true h]; exact List.any_eq_true.mpr ⟨p, h, decide_eq_true rfl⟩
    · rw [decide_eq_false h]
      exact List.any_eq_false.mpr fun q hq z => h (of_decide_eq_true z ▸ hq)
  show some (PyData.bool (if neg = true then !(P.map dI).any fun z => PyData.eqv z (dI p) else (P.map dI).any fun z => PyData.eqv z (dI p))) = _
  rw [e]
theorem eq_v (p q : List Int) : oEq (dI p) (dI q) = some (.bool (decide (p = q))) := by
  unfold oEq
  rw [if_pos (by unfold fine; rw [flat_dI, flat_dI, shaped_dI, shaped_dI]; rfl), eqv_dI]
end
end Mv
namespace Mv
open PySem L2 Evl
section
variable {n a b : List Int} {M : Rows}
theorem inT_v (P : Rows) (p : List Int) (neg : Bool) : oIn neg (dI p) (dT P) = some (.bool (if neg then !decide (p ∈ P) else decide (p ∈ P))) := by
  have := eqIn_v P p neg
  unfold oIn at this ⊢
  have f : (fine (dI p) && fine (dT P)) = true := by
    unfold fine
    rw [flat_dI, shaped_dI, flat_dT, shaped_dT]; rfl
  have f' : (fine (dI p) && fine (dL P)) = true := by
    unfold fine
    rw [flat_dI, shaped_dI, show flatD (dL P) = true from flat_rows P, show SeqAt.shaped (dL P) = true from shaped_rowsL P]; rfl
  rw [if_pos f]
  rw [if_pos f'] at this
  exact this
theorem zero_add {p : List Int} (hn : n ∈ fewD) (h : p ∈ placesOf n) : addP n (zeros n) p = p := by
  have : ∀ {n p : List Int}, InP p n → addP n (zeros n) p = p := fun {n p} h => by
    induction h with
    | nil => rfl
    | @cons x s p n h1 h2 _ ih =>
      show ((0 + x) % s) :: addP n (zeros n) p = _
      rw [ih, Int.zero_add, Int.emod_eq_of_lt h1 h2]
  exact this (few_inP hn h)
end
end Mv
namespace Mv
open PySem L2 Evl
abbrev s__law_draw : Stmt := top 30
abbrev s__law_begun : Stmt := top 29
section
variable {P : Program} {w : World} {mg : Str → Option Value} {base : Heap} {K : PySem.W.Frag}
theorem wd_upd {G H H' : Hp} {s l c : Addr} {T T' : Int} (x : Wd G H s l c T) (k : ∀ b o, b ≠ s → b ≠ l → H b = some o → H' b = some o) (st : StAt H' s l c T') : Wd G H' s l c T' ∧ StS [s, l, c] G H G H' := by
  have w' : Ex G H' := fun b o q => k b o (fun z => by rw [z, x.gs] at q; cases q) (fun z => by rw [z, x.gl] at q; cases q) (x.w b o q)
  refine ⟨⟨w', st, x.gs, x.gl, x.gc⟩, ⟨.refl G, fun b o hb q => k b o (fun z => hb (by simp [z])) (fun z => hb (by simp [z])) q, fun b hb q => ?_, w', fun b h _ _ => h⟩⟩
  obtain ⟨⟨o1, e1, m1⟩, ⟨o2, e2, m2⟩, o3, e3, m3⟩ := st.at
  simp only [List.mem_cons, List.not_mem_nil, or_false] at hb
  rcases hb with z | z | z
  · rw [z, e1]; exact ⟨(fun y => nomatch y), fun _ xs y => m1 xs (Option.some.inj y)⟩
  · rw [z, e2]; exact ⟨(fun y => nomatch y), fun _ xs y => m2 xs (Option.some.inj y)⟩
  · rw [z, e3]; exact ⟨(fun y => nomatch y), fun _ xs y => m3 xs (Option.some.inj y)⟩
theorem ok__law_draw {f : Addr} {fd : FuncData} (Z : Zs mg) (F : Fun K "_law_draw" "_law_draw" s__law_draw f fd) : FnOk P w K mg base CX0 1 f fd ["state", "size_here"] SpDraw := by
  have sc : FnScope ["state", "size_here", "found", "turn", "cell", "mixed"] ["state", "size_here"] (defScope s__law_draw) := ⟨rfl, rfl, rfl, by decide +kernel, rfl, by decide +kernel, by decide +kernel⟩
  refine F.ok sc (fun vs H Q E h => ?_) (fun cdv A outer s H vs Q E hr h => ?_)
  · obtain ⟨G, s, l, c, T, n, rfl, _⟩ := h
    rfl
  · obtain ⟨G, s, l, c, T, n, rfl, wd, n1, n2, hT, k⟩ := h
    have hu := hu_of hr
    refine ⟨_, (pss_cons (ps_while PassesOwn.never (PW.pt (pw_and (pt_cmpR op_eq (pe_dget hu (pv 0) pe_str (fun _ _ => rfl)) pe_int (nomark _)) (pw_and1 (pt_cmpR (r := rNeD K) (op_neD hr.units) (pe_dget hu (pv 0) pe_str (fun _ _ => rfl)) (pe_lst pa_nil) (nomark _))))) (pss_one (ps_dput hu (pv 0) pe_str (pe_bm PySem.F.plainAttrs_list PySem.F.slot_list_pop PySem.F.type_list_pop mt_popAt (pe_dget hu (pv 0) pe_str (fun _ _ => rfl)) (pa_cons pe_int pa_nil)) rfl))) (pss_cons (ps_if (pt_cmpR op_gt (pe_dget hu (pv 0) pe_str (fun _ _ => rfl)) pe_int (nomark _)) (pss_cons (ps_set (i := 2) sc.nd rfl (Or.inl rfl) (pe_op op_mod (pe_callTy call_int1 (by rfl) Z.int (by decide +kernel) (pa_cons (pe_dget hu (pv 0) pe_str (fun _ _ => rfl)) pa_nil)) (pv 1))) (pss_cons (ps_dput hu (pv 0) pe_str (pe_op op_fdiv (pe_dget hu (pv 0) pe_str (fun _ _ => rfl)) (pv 1)) rfl) (pss_one (ps_ret (pv 2))))) pss_nil) (pss_cons (ps_set (i := 3) sc.nd rfl (Or.inl rfl) (pe_op op_add (pe_dget hu (pv 0) pe_str (fun _ _ => rfl)) pe_int)) (pss_cons (ps_dput hu (pv 0) pe_str (pv 3) rfl) (pss_cons (ps_set (i := 4) sc.nd rfl (Or.inl rfl) (pe_ifExp (pt_cmpR (r := rNeD K) (op_neD hr.units) (pe_dget hu (pv 0) pe_str (fun _ _ => rfl)) (pe_lst pa_nil) (nomark _)) (pe_ix (r := rIxL K) ix_list (pe_dget hu (pv 0) pe_str (fun _ _ => rfl)) (pe_op op_mod (pe_callTy call_int1 (by rfl) Z.int (by decide +kernel) (pa_cons (pv 3) pa_nil)) (pe_callB (r := rLenA K) call_len_seq (by rfl) Z.len PySem.boot_len (pa_cons (pe_dget hu (pv 0) pe_str (fun _ _ => rfl)) pa_nil))) (fun _ _ => rfl)) pe_int)) (pss_cons (ps_set (i := 5) sc.nd rfl (Or.inl rfl) (pe_op op_mod (pe_callTy call_int1 (by rfl) Z.int (by decide +kernel) (pa_cons (pe_op op_pow (pe_op op_add (pe_op op_add (pe_op op_mod (pe_callTy call_int1 (by rfl) Z.int (by decide +kernel) (pa_cons (pv 4) pa_nil)) pe_int) (pe_op op_mul pe_int (pv 3))) pe_int) pe_int) pa_nil)) pe_int)) (pss_one (ps_ret (pe_op op_mod (pe_callTy call_int1 (by rfl) Z.int (by decide +kernel) (pa_cons (pe_op op_fdiv (pe_op op_mod (pe_callTy call_int1 (by rfl) Z.int (by decide +kernel) (pa_cons (pe_op op_pow (pe_op op_add (pv 5) (pe_op op_mul pe_int (pv 3))) pe_int) pa_nil)) pe_int) pe_int) pa_nil)) (pv 1)))))))))), ?_⟩
    refine q_whileW (fun m σ H' => σ = [some (.ref s), some (.int n), none, none, none, none] ∧ Wd G H' s l c T ∧ StS [s, l, c] G H G H' ∧ ∃ (lg cs : List Int) (left turn : Int), lg.length = m ∧ H' s = some (.dK (stK l c left turn)) ∧ H' l = some (.lst (lg.map V.int)) ∧ H' c = some (.lst (cs.map V.int)) ∧ (∀ x ∈ lg, 0 ≤ x) ∧ (∀ x ∈ cs, 0 ≤ x) ∧ 0 ≤ left ∧ 0 ≤ turn ∧ turn ≤ T)
      (fun σ H' => σ = [some (.ref s), some (.int n), none, none, none, none] ∧ Wd G H' s l c T ∧ StS [s, l, c] G H G H') ?_ ?_ ?_
    · obtain ⟨lg, cs, left, turn, h⟩ := wd.st.ex
      exact ⟨lg.length, rfl, wd, .refl wd.w, lg, cs, left, turn, rfl, h⟩
    · rintro R hR m σ H1 ⟨rfl, wd1, ss1, lg, cs, left, turn, rfl, hs, hl, hc, plg, pcs, pl, pt, ptT⟩
      refine st_get rfl hs (v_left l c left turn) ?_
      refine ⟨rfl, _, rfl, ?_⟩
      refine ite2 (fun h0 => ?_) (fun h0 => ?_)
      · refine st_get rfl hs (v_large l c left turn) ?_
        refine ne_nil hl fun p hp => ⟨_, rfl, ?_⟩
        have e2 : Ex H1 (upd H1 p (.lst [])) := .new hp
        cases lg with
        | nil => exact iteF (hR _ _ ⟨rfl, wd1.stp (.old wd1.w e2), ss1.trans (Stp.old wd1.w e2).toS⟩)
        | cons x lg =>
          refine iteT ⟨fun σ H' => σ = [some (.ref s), some (.int n), none, none, none, none] ∧ Wd G H' s l c T ∧ StS [s, l, c] G H G H' ∧ ∃ (lg' cs : List Int) (left turn : Int), lg'.length = lg.length ∧ H' s = some (.dK (stK l c left turn)) ∧ H' l = some (.lst (lg'.map V.int)) ∧ H' c = some (.lst (cs.map V.int)) ∧ (∀ x ∈ lg', 0 ≤ x) ∧ (∀ x ∈ cs, 0 ≤ x) ∧ 0 ≤ left ∧ 0 ≤ turn ∧ turn ≤ T, ?_, ?_⟩
          · rintro σ' H' ⟨rfl, w1, w2, lg', cs, left, turn, e, h⟩
            exact ⟨lg.length, Nat.lt_succ_self _, rfl, w1, w2, lg', cs, left, turn, e, h⟩
          · refine st_get rfl (e2 _ _ hs) (v_large l c left turn) ?_
            have hl2 := e2 _ _ hl
            refine ⟨.inl ⟨rfl, _, SqL.of hl2⟩, l, (x :: lg).map V.int, 0, 0, .int x, rfl, rfl, hl2, by decide, by decide, (ixN_seq (by unfold ixN; rw [if_pos (by decide), if_pos (by simp)]; rfl)).1, rfl, ?_⟩
            obtain ⟨sl, sc'⟩ := wd1.st.apart
            have hs2 : upd (upd H1 p (.lst [])) l (.lst (((x :: lg).map V.int).eraseIdx 0)) s = some (.dK (stK l c left turn)) := by rw [upd_ne sl]; exact e2 _ _ hs
            refine ⟨.ref s, rfl, s, _, rfl, DPut.k (k := Sum.inr ("left" : Str)) hs2 (by show 4 < sizeLine; decide), ?_⟩
            rw [p_left]
            have px := plg x (List.mem_cons_self ..)
            have plg' : ∀ y ∈ lg, 0 ≤ y := fun y hy => plg y (List.mem_cons_of_mem _ hy)
            have f1 : upd (upd (upd H1 p (.lst [])) l (.lst (((x :: lg).map V.int).eraseIdx 0))) s (.dK (stK l c x turn)) s = some (.dK (stK l c x turn)) := upd_same
            have f2 : upd (upd (upd H1 p (.lst [])) l (.lst (((x :: lg).map V.int).eraseIdx 0))) s (.dK (stK l c x turn)) l = some (.lst (lg.map V.int)) := by rw [upd_ne sl.symm, upd_same]; rfl
            have f3 : upd (upd (upd H1 p (.lst [])) l (.lst (((x :: lg).map V.int).eraseIdx 0))) s (.dK (stK l c x turn)) c = some (.lst (cs.map V.int)) := by rw [upd_ne sc'.symm, upd_ne wd1.st.lc.symm]; exact e2 _ _ hc
            have st' : StAt (upd (upd (upd H1 p (.lst [])) l (.lst (((x :: lg).map V.int).eraseIdx 0))) s (.dK (stK l c x turn))) s l c T := ⟨⟨lg, cs, x, turn, f1, f2, f3, plg', pcs, px, pt, ptT⟩, wd1.st.lc⟩
            obtain ⟨wd3, ss3⟩ := wd_upd (wd1.stp (.old wd1.w e2)) (fun b o h1 h2 q => by rw [upd_ne h1, upd_ne h2]; exact q) st'
            exact ⟨rfl, wd3, (ss1.trans (Stp.old wd1.w e2).toS).trans ss3, lg, cs, x, turn, rfl, f1, f2, f3, plg', pcs, px, pt, ptT⟩
      · exact iteF (hR _ _ ⟨rfl, wd1, ss1⟩)
    rintro σ H2 ⟨rfl, wd2, ss2⟩
    obtain ⟨lg, cs, left, turn, hs, hl, hc, plg, pcs, pl, pt, ptT⟩ := wd2.st.ex
    refine st_get rfl hs (v_left l c left turn) ?_
    refine ⟨left, 0, rfl, rfl, _, rfl, ?_⟩
    obtain ⟨sl, sc'⟩ := wd2.st.apart
    refine ite2 (fun hpos => ?_) (fun hnp => ?_)
    · -- found = left % n; left = left // n; return found
      have hpos : 0 < left := of_decide_eq_true hpos
      refine st_get rfl hs (v_left l c left turn) ?_
      refine .inl ⟨left, rfl, .int n, rfl, left, n, rfl, rfl, n1, ?_⟩
      refine st_get rfl hs (v_left l c left turn) ?_
      refine ⟨.int n, rfl, left, n, rfl, rfl, ⟨n1, n2⟩, .ref s, rfl, s, _, rfl, DPut.k (k := Sum.inr ("left" : Str)) hs (by show 4 < sizeLine; decide), .int (left % n), rfl, ?_⟩
      rw [p_left]
      have st' : StAt (upd H2 s (.dK (stK l c (left / n) turn))) s l c (T + 1) :=
        ⟨⟨lg, cs, left / n, turn, upd_same, by rw [upd_ne sl.symm]; exact hl, by rw [upd_ne sc'.symm]; exact hc, plg, pcs, Int.ediv_nonneg pl (by omega), pt, by omega⟩, wd2.st.lc⟩
      obtain ⟨wd3, ss3⟩ := wd_upd wd2 (fun b o h1 _ q => by rw [upd_ne h1]; exact q) st'
      exact k _ _ (Int.emod_nonneg _ (by omega)) (Int.emod_lt_of_pos _ n1) wd3 (ss2.trans ss3)
    · -- turn = turn + 1; ..
      refine st_get rfl hs (v_turn l c left turn) ?_
      refine ⟨turn, 1, rfl, rfl, .int (turn + 1), rfl, .ref s, rfl, s, _, rfl, DPut.k (k := Sum.inr ("turn" : Str)) hs (by show 4 < sizeLine; decide), ?_⟩
      rw [p_turn]
      have hs3 : upd H2 s (.dK (stK l c left (turn + 1))) s = some (.dK (stK l c left (turn + 1))) := upd_same
      have hc3 : upd H2 s (.dK (stK l c left (turn + 1))) c = some (.lst (cs.map V.int)) := by rw [upd_ne sc'.symm]; exact hc
      have st' : StAt (upd H2 s (.dK (stK l c left (turn + 1)))) s l c (T + 1) :=
        ⟨⟨lg, cs, left, turn + 1, hs3, by rw [upd_ne sl.symm]; exact hl, hc3, plg, pcs, pl, by omega, by omega⟩, wd2.st.lc⟩
      obtain ⟨wd3, ss3⟩ := wd_upd wd2 (fun b o h1 _ q => by rw [upd_ne h1]; exact q) st'
      dsimp only
      refine q_asgW (fun v H4 => ∃ cell, v = .int cell ∧ 0 ≤ cell ∧ Wd G H4 s l c (T + 1) ∧ StS [s, l, c] G H G H4) (fun Q hQ => ?_) ?_
      · refine st_get rfl hs3 (v_cells l c left (turn + 1)) ?_
        refine ne_nil hc3 fun p hp => ⟨_, rfl, ?_⟩
        have e4 : Ex (upd H2 s (.dK (stK l c left (turn + 1)))) (upd (upd H2 s (.dK (stK l c left (turn + 1)))) p (.lst [])) := .new hp
        have wd4 := wd3.stp (.old wd3.w e4)
        have ss4 := (ss2.trans ss3).trans (Stp.old wd3.w e4).toS
        cases hcs : cs with
        | nil => exact iteF (hQ _ _ ⟨0, rfl, Int.le_refl _, wd4, ss4⟩)
        | cons x0 xs0 =>
          refine iteT ?_
          refine st_get rfl (e4 _ _ hs3) (v_cells l c left (turn + 1)) ?_
          refine ⟨.int (turn + 1), rfl, .inl ⟨turn + 1, rfl, ?_⟩⟩
          refine st_get rfl (e4 _ _ hs3) (v_cells l c left (turn + 1)) ?_
          refine ⟨c, cs.map V.int, rfl, .inl (SqL.of (e4 _ _ hc3)), ?_⟩
          have hn : (0 : Int) < ((cs.map V.int).length : Nat) := by rw [hcs]; simp
          refine ⟨turn + 1, _, rfl, rfl, hn, ?_⟩
          have a1 := Int.emod_nonneg (turn + 1) (show (((cs.map V.int).length : Nat) : Int) ≠ 0 by omega)
          have a2 := Int.emod_lt_of_pos (turn + 1) hn
          obtain ⟨j, hj⟩ := Int.eq_ofNat_of_zero_le a1
          rw [hj] at a2
          show rIxL K (V.ref c) (V.int ((turn + 1) % (((cs.map V.int).length : Nat) : Int))) _ Q
          rw [hj]
          have hjl : j < cs.length := by rw [List.length_map] at a2; omega
          have hg : (cs.map V.int)[j]? = some (V.int cs[j]) := by rw [List.getElem?_map, List.getElem?_eq_getElem hjl]; rfl
          exact ⟨c, cs.map V.int, _, _, rfl, rfl, SqL.of (e4 _ _ hc3), atI_nat hg, hQ _ _ ⟨_, rfl, pcs _ (List.getElem_mem hjl), wd4, ss4⟩⟩
      · rintro v H4 ⟨cell, rfl, hcell, wd4, ss4⟩
        have m1 := Int.emod_nonneg cell (show (2147483563 : Int) ≠ 0 by decide)
        have m2 := Int.emod_lt_of_pos cell (show (0 : Int) < 2147483563 by decide)
        refine ⟨.int cell, rfl, .inl ⟨cell, rfl, cell, 2147483563, rfl, rfl, (by show (0 : Int) < 2147483563; decide), .int (turn + 1), rfl, 40692, turn + 1, rfl, rfl, .inl ⟨by decide, by decide⟩, _, _, rfl, rfl, _, 24681, rfl, rfl, _, 3, rfl, rfl, ⟨by decide, by decide, by omega⟩, .inl ⟨_, rfl, _, 2147483629, rfl, rfl, (by show (0 : Int) < 2147483629; decide), ?_⟩⟩⟩
        have m3 := Int.emod_nonneg ((cell % 2147483563 + 40692 * (turn + 1) + 24681) ^ (3 : Int).toNat) (show (2147483629 : Int) ≠ 0 by decide)
        have m4 := Int.emod_lt_of_pos ((cell % 2147483563 + 40692 * (turn + 1) + 24681) ^ (3 : Int).toNat) (show (0 : Int) < 2147483629 by decide)
        obtain ⟨mixed, hm⟩ : ∃ m, m = (cell % 2147483563 + 40692 * (turn + 1) + 24681) ^ (3 : Int).toNat % 2147483629 := ⟨_, rfl⟩
        rw [← hm] at m3 m4
        refine ⟨.int mixed, (by rw [hm]; rfl), .int (turn + 1), rfl, 104917, turn + 1, rfl, rfl, .inl ⟨by decide, by decide⟩, _, _, rfl, rfl, _, 5, rfl, rfl, ⟨by decide, by decide, by omega⟩, .inl ⟨_, rfl, _, 2147483579, rfl, rfl, (by show (0 : Int) < 2147483579; decide), _, 29, rfl, rfl, ⟨by decide, by decide⟩, .inl ⟨_, rfl, .int n, rfl, _, n, rfl, rfl, n1, ?_⟩⟩⟩
        exact k _ _ (Int.emod_nonneg _ (by omega)) (Int.emod_lt_of_pos _ n1) wd4 ss4
end
theorem given_ints (n : Nat) (f : Nat → Bool) (g : Nat → Int) : given n f (fun i => .int (g i)) = (((List.range n).filter f).map g).map V.int := by
  unfold given
  rw [List.map_map]; rfl
theorem merge_st (l c : Addr) (x y : Int) : mergeK [] (stK l c x y) = stK l c x y := by
  unfold mergeK stK
  simp only [List.foldl]
  rw [putK_new _ valV_nil, List.nil_append, putK_new _ (show valV [(Sum.inr ("large" : Str), V.ref l)] (Sum.inr ("cells" : Str)) = none by rw [valV_neg ne1]; exact valV_nil)]
  simp only [List.cons_append, List.nil_append]
  rw [putK_new _ (show valV [(Sum.inr ("large" : Str), V.ref l), (Sum.inr ("cells" : Str), V.ref c)] (Sum.inr ("left" : Str)) = none by rw [valV_neg ne2, valV_neg ne4]; exact valV_nil)]
  simp only [List.cons_append, List.nil_append]
  rw [putK_new _ (show valV [(Sum.inr ("large" : Str), V.ref l), (Sum.inr ("cells" : Str), V.ref c), (Sum.inr ("left" : Str), V.int x)] (Sum.inr ("turn" : Str)) = none by rw [valV_neg ne3, valV_neg ne5, valV_neg ne6]; exact valV_nil)]
  rfl
section
variable {P : Program} {w : World} {mg : Str → Option Value} {base : Heap} {K : PySem.W.Frag}
theorem ok__law_begun {f : Addr} {fd : FuncData} (Z : Zs mg) (F : Fun K "_law_begun" "_law_begun" s__law_begun f fd) : FnOk P w K mg base CX0 1 f fd ["script"] (SpBegun K) := by
  have sc : FnScope ["script", "cells_here", "cell", "large"] ["script"] (defScope s__law_begun) := ⟨rfl, rfl, rfl, by decide +kernel, rfl, by decide +kernel, by decide +kernel⟩
  refine F.ok sc (fun vs H Q E h => ?_) (fun cdv A outer s H vs Q E hr h => ?_)
  · obtain ⟨G, a, ns, rfl, _⟩ := h
    rfl
  · obtain ⟨G, a, ns, rfl, wf, hS, hlen, k⟩ := h
    refine ⟨_, (pss_cons (ps_setLc (i := 1) (own := [("cell", 2)]) (g := gName 2) (tt := tYes) (by rfl) sc.nd rfl rfl (sw_true rfl rfl rfl (by decide +kernel)) (pi_list (pv 0)) (blkOk_by (N := ["script", "cells_here", "cell", "large"]) (sc := defScope s__law_begun) (by decide +kernel)) (fun _ _ _ _ _ => (pg_name (i := 2) sc.nd rfl (Or.inl rfl))) (fun _ _ _ _ _ => pts_nil) (fun _ _ _ _ _ => (pe_callB call_abs (by rfl) Z.abs (by decide +kernel) (pa_cons (pv 2) pa_nil)))) (pss_cons (ps_setLc (i := 3) (own := [("cell", 2)]) (g := gName 2) (tt := _) (by rfl) sc.nd rfl rfl (sw_true rfl rfl rfl (by decide +kernel)) (pi_list (pv 1)) (blkOk_by (N := ["script", "cells_here", "cell", "large"]) (sc := defScope s__law_begun) (by decide +kernel)) (fun _ _ _ _ _ => (pg_name (i := 2) sc.nd rfl (Or.inl rfl))) (fun _ _ _ _ _ => (pts_one (pt_cmpR op_ge (pv 2) (pe_op op_pow pe_int pe_int) (nomark _)))) (fun _ _ _ _ _ => (pe_op op_sub (pv 2) (pe_op op_pow pe_int pe_int)))) (pss_one (ps_ret (pe_disp (pps_cons pe_str (pv 3) (pps_cons pe_str (pv 1) (pps_cons pe_str pe_int (pps_cons pe_str pe_int pps_nil)))) (by rfl) (by rfl) (fun z => by cases z) (by decide)))))), ?_⟩
    have gi : ∀ {i : Nat} {x : V}, (ns.map V.int)[i]? = some x → x = .int (ns.getD i 0) := by
      intro i x hx
      rw [List.getElem?_map] at hx
      obtain ⟨y, hy, rfl⟩ := Option.map_eq_some_iff.mp hx
      (rw [List.getD_eq_getElem?_getD, hy]); rfl
    refine Evl.q_asgL (Evl.el_lcL (xs := ns.map V.int) (fun _ => true) (fun i => .int (if ns.getD i 0 < 0 then -(ns.getD i 0) else ns.getD i 0)) (Evl.ev_var rfl) hS (by rw [List.length_map]; omega) (fun _ => rfl) (fun i x H1 _ _ => fun H2 e Q q => q H2 (.refl H2)) (fun i x H1 _ hx _ => ?_)) fun c H1 hc0 e1 hc => ?_
    · rw [gi hx]
      exact fun H2 e Q q => ⟨_, rfl, _, rfl, q H2 (.refl H2)⟩
    rw [given_ints] at hc
    have hcs : ∀ x ∈ ((List.range (ns.map V.int).length).filter (fun _ => true)).map (fun i => if ns.getD i 0 < 0 then -(ns.getD i 0) else ns.getD i 0), 0 ≤ x := by
      intro x hx
      obtain ⟨i, _, rfl⟩ := List.mem_map.mp hx
      split <;> omega
    have hcl : (((List.range (ns.map V.int).length).filter (fun _ => true)).map (fun i => if ns.getD i 0 < 0 then -(ns.getD i 0) else ns.getD i 0)).length ≤ 1000 := by
      rw [List.length_map]
      refine Nat.le_trans (List.length_filter_le _ _) ?_
      rw [List.length_range, List.length_map]; exact hlen
    generalize ((List.range (ns.map V.int).length).filter (fun _ => true)).map (fun i => if ns.getD i 0 < 0 then -(ns.getD i 0) else ns.getD i 0) = cs at hc hcs hcl
    have gc : ∀ {i : Nat} {x : V}, (cs.map V.int)[i]? = some x → x = .int (cs.getD i 0) := by
      intro i x hx
      rw [List.getElem?_map] at hx
      obtain ⟨y, hy, rfl⟩ := Option.map_eq_some_iff.mp hx
      (rw [List.getD_eq_getElem?_getD, hy]); rfl
    refine Evl.q_asgL (Evl.el_lcL (xs := cs.map V.int) (fun i => decide (10 ^ 18 ≤ cs.getD i 0)) (fun i => .int (cs.getD i 0 - 10 ^ 18)) (Evl.ev_var rfl) (SqL.of hc) (by rw [List.length_map]; omega) (fun _ => rfl) (fun i x H2 _ hx => ?_) (fun i x H2 _ hx _ => ?_)) fun l H2 hl0 e2 hl => ?_
    · rw [gc hx]
      exact fun H3 e Q q => ⟨_, rfl, 10, 18, rfl, rfl, ⟨by decide, by decide, by decide⟩, cs.getD i 0, 10 ^ 18, rfl, rfl, _, rfl, q H3 (.refl H3)⟩
    · rw [gc hx]
      exact fun H3 e Q q => ⟨_, rfl, 10, 18, rfl, rfl, ⟨by decide, by decide, by decide⟩, cs.getD i 0, 10 ^ 18, rfl, rfl, q H3 (.refl H3)⟩
    rw [given_ints] at hl
    have hls : ∀ x ∈ ((List.range (cs.map V.int).length).filter (fun i => decide (10 ^ 18 ≤ cs.getD i 0))).map (fun i => cs.getD i 0 - 10 ^ 18), 0 ≤ x := by
      intro x hx
      obtain ⟨i, hi, rfl⟩ := List.mem_map.mp hx
      have := of_decide_eq_true (List.mem_filter.mp hi).2
      omega
    generalize ((List.range (cs.map V.int).length).filter (fun i => decide (10 ^ 18 ≤ cs.getD i 0))).map (fun i => cs.getD i 0 - 10 ^ 18) = lg at hl hls
    intro p hp
    have e3 : Ex H2 (upd H2 p (.dK [])) := .new hp
    refine ⟨.ref l, rfl, .ref c, rfl, upd_same, stK l c 0 0, rfl, by show 4 ≤ 15; decide, ?_⟩
    rw [merge_st]
    have hl3 : upd (upd H2 p (.dK [])) p (.dK (stK l c 0 0)) l = some (.lst (lg.map V.int)) := by
      rw [upd_ne (ne_of_none hl hp), upd_ne (ne_of_none hl hp)]; exact hl
    have hc2 : H2 c = some (.lst (cs.map V.int)) := e2 _ _ hc
    have hc3 : upd (upd H2 p (.dK [])) p (.dK (stK l c 0 0)) c = some (.lst (cs.map V.int)) := by
      rw [upd_ne (ne_of_none hc2 hp), upd_ne (ne_of_none hc2 hp)]; exact hc2
    have lc : l ≠ c := fun z => by rw [z] at hl0; rw [hc] at hl0; cases hl0
    have e4 : Ex H (upd (upd H2 p (.dK [])) p (.dK (stK l c 0 0))) := fun b o q => by
      have q2 := e2 _ _ (e1 _ _ q)
      rw [upd_ne (ne_of_none q2 hp), upd_ne (ne_of_none q2 hp)]; exact q2
    exact k p l c _ ⟨wf.trans e4, ⟨⟨lg, cs, 0, 0, upd_same, hl3, hc3, hls, hcs, Int.le_refl _, Int.le_refl _, Int.le_refl _⟩, lc⟩, fresh_back (wf.trans (e1.trans e2)) hp, fresh_back (wf.trans e1) hl0, fresh_back wf hc0⟩ e4
end
end Mv
namespace Mv
open PySem L2 Evl LamX
abbrev s__law_caught : Stmt := top 32
theorem caught_gives {X : Cx} {g CS : Addr} {cdg : Value} {q : Str} (hm : X.mg "MoveError" = some (.ref CS)) : GivesTo X ["work", "caught", "error"] "_law_caught" (defScope s__law_caught) g cdg (defBody s__law_caught) "work" q (TTc X.K CS) := by
  intro f c' s H Q tl act hc h
  have nd : (["work", "caught", "error"] : List Str).Nodup := by decide +kernel
  refine ⟨_, pss_cons (ps_set (i := 1) nd rfl (Or.inl rfl) pe_non) (pss_cons (ps_try_keep (i := 2) (X := (cxOf C8.CX0 X.prog X.w X.K X.mg X.base ["work", "caught", "error"] "_law_caught" (defScope s__law_caught) g cdg X.A X.stack s H C8.E0).nox) (c := .ref CS)
      (tb := fun W D σ H => ∃ Ech : XK, (∀ cls d σ' H', Ech cls d H' → σ'.length = 3 → W cls d σ' H') ∧ σ[0]? = some (some (.ref f)) ∧ H c' = some (CodeO c' q) ∧ tl Ech H fun _ H1 => D.nx σ H1)
      (ts := fun _ _ _ => tAsg (tVar 2) (gName 1)) rfl rfl rfl nd rfl rfl ⟨rfl, rfl, .inl hm⟩ LamX.takes0 (fun W pn xe tk _ => ?_) (fun a oe cls d pn _ _ => pss_one (ps_set (i := 1) nd rfl (Or.inl rfl) (pv 2)))) (pss_one (ps_ret (pv 1)))), ?_⟩
  · refine (⟨fun pins s' σ H' D I h' => ?_⟩)
    obtain ⟨Ech, hW, h1, h2, h3⟩ := (h')
    have hp := fun p1 p2 => act _ pn xe Ech p1 p2 (takes_len tk) (fun cls d σ' H' h hl => hW cls d σ' H' h hl)
    exact (pss_one (ps_expr (hp _ _))).run pins s' σ H' D I ⟨h1, h2, h3⟩
  · refine ⟨fun cls d H' => ∃ b, PySem.W.exmOne X.K cls (.ref CS) = some b ∧ (b = true → ∀ a, H' a = none → Q (.ref a) (upd H' a (CauO cls d a))) ∧ (b = false → False), fun cls d σ' H' ⟨b, e1, e2, e3⟩ hl => ⟨b, e1, fun hb a ha => ?_, fun hb => e3 hb⟩, rfl, hc, ?_⟩
    · match σ', hl with
      | [x, y, z], _ => exact ⟨.ref a, rfl, .ref a, rfl, e2 hb a ha⟩
    · have e : ∀ (Ech : XK), tl Ech H (fun _ H' => Q .non H') → tl Ech H (fun _ H1 => ∃ v, ([some (.ref f), some .non, none] : L2.St)[1]? = some (some v) ∧ Q v H1) := fun Ech h => by
        have e : (fun (_ : V) (H1 : Hp) => ∃ v, ([some (.ref f), some .non, none] : L2.St)[1]? = some (some v) ∧ Q v H1) = fun _ H' => Q .non H' := by
          funext _ H1
          exact propext ⟨fun ⟨v, h1, h2⟩ => by cases h1; exact h2, fun h => ⟨_, rfl, h⟩⟩
        rw [e]; exact h
      exact e _ h
section
variable {P : Program} {w : World} {K : PySem.W.Frag} {mg : Str → Option Value} {base : Heap} {ad : Str → Addr} {TL : List (Addr × Str)}
abbrev s__law_pick : Stmt := top 31
def F__law_pick : WS := (wRet (wOp oIxL (pw (fVar 1)) (wDraw W__law_draw (wCons (pw (fCb oLen (fCons (fVar 1) fNil))) wNil))))
def W__law_pick : List D → Int → (D → Int → Prop) → Prop := bodyW F__law_pick 1 0
theorem ok__law_pick {f : Addr} {fd : FuncData} (Z : Zs mg) (C__law_draw : Cal P w K mg base CX0 1 "_law_draw" ["state", "size_here"] (SpW TL W__law_draw)) (F : Fun K "_law_pick" "_law_pick" s__law_pick f fd) : FnOk P w K mg base CX0 2 f fd ["state", "several"] (SpW TL W__law_pick) := by
  have sc : FnScope ["state", "several"] ["state", "several"] (defScope s__law_pick) := ⟨rfl, rfl, rfl, by decide +kernel, rfl, by decide +kernel, by decide +kernel⟩
  refine F.ok sc (fun vs H Q E h => ?_) (fun cdv A outer s0 H vs Q E hr h => ?_)
  · obtain ⟨G, s, l, c, T, vs2, ds, post, rfl, hv, _, _, _, hb, _⟩ := h
    rw [List.length_cons, hv.len, hb.1]; rfl
  · obtain ⟨G, s, l, c, T, vs2, ds, post, rfl, hv, wd, nt, tb, hb, k⟩ := h
    refine ⟨_, (pss_one (ps_ret (pe_ix (r := rIxL K) ix_list (pv 1) (pe_cal C__law_draw (hr.mono (by decide)) pass0 (pa_cons (pv 0) (pa_cons (pe_callB (r := rLenA K) call_len_seq (by rfl) Z.len PySem.boot_len (pa_cons (pv 1) pa_nil)) pa_nil))) (fun _ _ => rfl)))), ?_⟩
    exact startW (k := 1) (n := 0) rfl (show Sws (X0 TL) _ F__law_pick from (w_ret (w_op os_ixL (w_pure (E := fun _ _ _ => False) (ad := fun _ => 0) u_var) (w_draw (w_cons (w_pure (E := fun _ _ _ => False) (ad := fun _ => 0) (u_cb cs_len (u_cons u_var u_nil))) w_nil))))) hv wd nt tb hb k
theorem okP__law_pick {f : Addr} {fd : FuncData} (Z : Zs mg) (C__law_draw : Cal P w K mg base CX0 1 "_law_draw" ["state", "size_here"] (SpW TL W__law_draw)) (F : Fun K "_law_pick" "_law_pick" s__law_pick f fd) : FnOk P w K mg base CX0 2 f fd ["state", "several"] (SpPk TL) := by
  have sc : FnScope ["state", "several"] ["state", "several"] (defScope s__law_pick) := ⟨rfl, rfl, rfl, by decide +kernel, rfl, by decide +kernel, by decide +kernel⟩
  refine F.ok sc (fun vs H Q E h => ?_) (fun cdv A outer s0 H vs Q E hr h => ?_)
  · obtain ⟨G, s, l, c, T, p, xs, rfl, _⟩ := h; rfl
  · exact ⟨_, (pss_one (ps_ret (pe_ix (r := rIxL K) ix_list (pv 1) (pe_cal C__law_draw (hr.mono (by decide)) pass0 (pa_cons (pv 0) (pa_cons (pe_callB (r := rLenA K) call_len_seq (by rfl) Z.len PySem.boot_len (pa_cons (pv 1) pa_nil)) pa_nil))) (fun _ _ => rfl)))), pick_run h rfl⟩
abbrev s__law_count : Stmt := top 33
def b__law_count : En → Rf := (fSeq (fAsg (fC (.int 1)) (sName 1)) (fSeq (fFor (iT (fVar 0)) (sName 2) (fAsg (fOp oMul (fVar 1) (fVar 2)) (sName 1))) (fRet (fVar 1))))
def f__law_count : List D → Re := guardN 1 (bodyD b__law_count 2)
theorem ok__law_count {f : Addr} {fd : FuncData}  (F : Fun K "_law_count" "_law_count" s__law_count f fd) : FnOk P w K mg base CX0 1 f fd ["dials_here"] (SpF ad f__law_count) := by
  have sc : FnScope ["dials_here", "found", "size_here"] ["dials_here"] (defScope s__law_count) := ⟨rfl, rfl, rfl, by decide +kernel, rfl, by decide +kernel, by decide +kernel⟩
  refine F.ok sc (fun vs H Q E h => ?_) (fun cdv A outer s H vs Q E hr h => ?_)
  · obtain ⟨G, ds, r, _, hv, e, _⟩ := h
    unfold f__law_count at e
    exact hv.len.trans (guard_len e)
  · obtain ⟨G, ds, r, wf, hv, e, k⟩ := h
    unfold f__law_count at e
    refine ⟨_, (pss_cons (ps_set (i := 1) sc.nd rfl (Or.inl rfl) pe_int) (pss_cons (ps_for PassesOwn.never rfl (pi_tup (pv 0)) (pg_name (i := 2) sc.nd rfl (Or.inl rfl)) (pss_one (ps_set (i := 1) sc.nd rfl (Or.inl rfl) (pe_op op_mul (pv 1) (pv 2))))) (pss_one (ps_ret (pv 1))))), ?_⟩
    exact body_start (k := 1) (n := 2) rfl (hv.len.trans (guard_len e)) (show Ss E ad _ b__law_count from (u_seq (u_asg (u_c fun _ => .int 1) g_name) (u_seq (u_for (i_tup u_var) g_name (u_asg (u_op os_mul u_var u_var) g_name)) (u_ret u_var)))) wf hv (guard_get e) k
abbrev s__law_places : Stmt := top 34
def b__law_places : En → Rf := (fSeq (fAsg (fLst (fCons (fTup fNil) fNil)) (sName 1)) (fSeq (fFor (iT (fVar 0)) (sName 2) (fSeq (fAsg (fLst fNil) (sName 3)) (fSeq (fFor (iL (fVar 1)) (sName 4) (fAsg (fOp oCat (fVar 3) (fLc (iR1 (fCons (fVar 2) fNil)) (sName 5) (fC (.bool true)) (fOp oCatT (fVar 4) (fTup (fCons (fVar 5) fNil))) [5])) (sName 3))) (fAsg (fVar 3) (sName 1))))) (fRet (fVar 1))))
def f__law_places : List D → Re := guardN 1 (bodyD b__law_places 5)
theorem ok__law_places {f : Addr} {fd : FuncData} (Z : Zs mg) (F : Fun K "_law_places" "_law_places" s__law_places f fd) : FnOk P w K mg base CX0 1 f fd ["dials_here"] (SpF ad f__law_places) := by
  have sc : FnScope ["dials_here", "found", "size_here", "more", "row", "item"] ["dials_here"] (defScope s__law_places) := ⟨rfl, rfl, rfl, by decide +kernel, rfl, by decide +kernel, by decide +kernel⟩
  refine F.ok sc (fun vs H Q E h => ?_) (fun cdv A outer s H vs Q E hr h => ?_)
  · obtain ⟨G, ds, r, _, hv, e, _⟩ := h
    unfold f__law_places at e
    exact hv.len.trans (guard_len e)
  · obtain ⟨G, ds, r, wf, hv, e, k⟩ := h
    unfold f__law_places at e
    refine ⟨_, (pss_cons (ps_set (i := 1) sc.nd rfl (Or.inl rfl) (pe_lst (pa_cons (pe_tup pa_nil) pa_nil))) (pss_cons (ps_for PassesOwn.never rfl (pi_tup (pv 0)) (pg_name (i := 2) sc.nd rfl (Or.inl rfl)) (pss_cons (ps_set (i := 3) sc.nd rfl (Or.inl rfl) (pe_lst pa_nil)) (pss_cons (ps_for PassesOwn.never rfl (pi_list (pv 1)) (pg_name (i := 4) sc.nd rfl (Or.inr rfl)) (pss_one (ps_set (i := 3) sc.nd rfl (Or.inl rfl) (pe_op op_cat (pv 3) (pe_lc (own := [("item", 5)]) (g := gName 5) (tt := tYes) (by rfl) sc.nd (pi_range1 (by rfl) Z.range (pa_cons (pv 2) pa_nil)) (blkOk_by (N := ["dials_here", "found", "size_here", "more", "row", "item"]) (sc := defScope s__law_places) (by decide +kernel)) (fun _ _ _ _ _ => (pg_name (i := 5) sc.nd rfl (Or.inl rfl))) (fun _ _ _ _ _ => pts_nil) (fun _ _ _ _ _ => (pe_op (r := rCatA K) op_catA (pv 4) (pe_tup (pa_cons (pv 5) pa_nil))))))))) (pss_one (ps_set (i := 1) sc.nd rfl (Or.inl rfl) (pv 3)))))) (pss_one (ps_ret (pv 1))))), ?_⟩
    exact body_start (k := 1) (n := 5) rfl (hv.len.trans (guard_len e)) (show Ss E ad _ b__law_places from (u_seq (u_asg (u_lst (u_cons (u_tup u_nil) u_nil)) g_name) (u_seq (u_for (i_tup u_var) g_name (u_seq (u_asg (u_lst u_nil) g_name) (u_seq (u_for (i_list u_var) g_name (u_asg (u_op os_cat u_var (u_lc (i_rng1 (u_cons u_var u_nil)) g_name u_yes (u_op os_catT u_var (u_tup (u_cons u_var u_nil))) (by decide))) g_name)) (u_asg u_var g_name)))) (u_ret u_var)))) wf hv (guard_get e) k
abbrev s__law_plus : Stmt := top 35
def b__law_plus : En → Rf := (fRet (fCb oTuple (fCons (fLc (iZ3 false false false (fCons (fVar 1) (fCons (fVar 2) (fCons (fVar 0) fNil)))) (sTup 3 (sCons (sName 3) (sCons (sName 4) (sCons (sName 5) sNil)))) (fC (.bool true)) (fOp oMod (fCb oInt (fCons (fOp oAdd (fVar 3) (fVar 4)) fNil)) (fVar 5)) [3, 4, 5]) fNil)))
def f__law_plus : List D → Re := guardN 3 (bodyD b__law_plus 3)
theorem ok__law_plus {f : Addr} {fd : FuncData} (Z : Zs mg) (F : Fun K "_law_plus" "_law_plus" s__law_plus f fd) : FnOk P w K mg base CX0 1 f fd ["dials_here", "one", "other"] (SpF ad f__law_plus) := by
  have sc : FnScope ["dials_here", "one", "other", "here", "there", "size_here"] ["dials_here", "one", "other"] (defScope s__law_plus) := ⟨rfl, rfl, rfl, by decide +kernel, rfl, by decide +kernel, by decide +kernel⟩
  refine F.ok sc (fun vs H Q E h => ?_) (fun cdv A outer s H vs Q E hr h => ?_)
  · obtain ⟨G, ds, r, _, hv, e, _⟩ := h
    unfold f__law_plus at e
    exact hv.len.trans (guard_len e)
  · obtain ⟨G, ds, r, wf, hv, e, k⟩ := h
    unfold f__law_plus at e
    refine ⟨_, (pss_one (ps_ret (pe_callTy (r := rTupOf K) call_tuple_of (by rfl) Z.tuple (by decide +kernel) (pa_cons (pe_lc (own := [("here", 3), ("there", 4), ("size_here", 5)]) (g := gTup K 3 (gCons (gName 3) (gCons (gName 4) (gCons (gName 5) gNil)))) (tt := tYes) (by rfl) sc.nd (pi_zip3 false false false (by rfl) Z.zip (pa_cons (pv 1) (pa_cons (pv 2) (pa_cons (pv 0) pa_nil)))) (blkOk_by (N := ["dials_here", "one", "other", "here", "there", "size_here"]) (sc := defScope s__law_plus) (by decide +kernel)) (fun _ _ _ _ _ => (pg_tup rfl (pgs_cons (pg_name (i := 3) sc.nd rfl (Or.inl rfl)) (pgs_cons (pg_name (i := 4) sc.nd rfl (Or.inl rfl)) (pgs_cons (pg_name (i := 5) sc.nd rfl (Or.inl rfl)) pgs_nil))))) (fun _ _ _ _ _ => pts_nil) (fun _ _ _ _ _ => (pe_op op_mod (pe_callTy call_int1 (by rfl) Z.int (by decide +kernel) (pa_cons (pe_op op_add (pv 3) (pv 4)) pa_nil)) (pv 5)))) pa_nil)))), ?_⟩
    exact body_start (k := 3) (n := 3) rfl (hv.len.trans (guard_len e)) (show Ss E ad _ b__law_plus from (u_ret (u_cb cs_tuple (u_cons (u_lc (i_zip3 (u_cons u_var (u_cons u_var (u_cons u_var u_nil)))) (g_tup (g_cons g_name (g_cons g_name (g_cons g_name g_nil)))) u_yes (u_op os_mod (u_cb cs_int (u_cons (u_op os_add u_var u_var) u_nil)) u_var) (by decide)) u_nil)))) wf hv (guard_get e) k
abbrev s__law_less : Stmt := top 36
def b__law_less : En → Rf := (fRet (fCb oTuple (fCons (fLc (iZ3 false false false (fCons (fVar 1) (fCons (fVar 2) (fCons (fVar 0) fNil)))) (sTup 3 (sCons (sName 3) (sCons (sName 4) (sCons (sName 5) sNil)))) (fC (.bool true)) (fOp oMod (fCb oInt (fCons (fOp oAdd (fOp oSub (fVar 3) (fVar 4)) (fVar 5)) fNil)) (fVar 5)) [3, 4, 5]) fNil)))
def f__law_less : List D → Re := guardN 3 (bodyD b__law_less 3)
theorem ok__law_less {f : Addr} {fd : FuncData} (Z : Zs mg) (F : Fun K "_law_less" "_law_less" s__law_less f fd) : FnOk P w K mg base CX0 1 f fd ["dials_here", "one", "other"] (SpF ad f__law_less) := by
  have sc : FnScope ["dials_here", "one", "other", "here", "there", "size_here"] ["dials_here", "one", "other"] (defScope s__law_less) := ⟨rfl, rfl, rfl, by decide +kernel, rfl, by decide +kernel, by decide +kernel⟩
  refine F.ok sc (fun vs H Q E h => ?_) (fun cdv A outer s H vs Q E hr h => ?_)
  · obtain ⟨G, ds, r, _, hv, e, _⟩ := h
    unfold f__law_less at e
    exact hv.len.trans (guard_len e)
  · obtain ⟨G, ds, r, wf, hv, e, k⟩ := h
    unfold f__law_less at e
    refine ⟨_, (pss_one (ps_ret (pe_callTy (r := rTupOf K) call_tuple_of (by rfl) Z.tuple (by decide +kernel) (pa_cons (pe_lc (own := [("here", 3), ("there", 4), ("size_here", 5)]) (g := gTup K 3 (gCons (gName 3) (gCons (gName 4) (gCons (gName 5) gNil)))) (tt := tYes) (by rfl) sc.nd (pi_zip3 false false false (by rfl) Z.zip (pa_cons (pv 1) (pa_cons (pv 2) (pa_cons (pv 0) pa_nil)))) (blkOk_by (N := ["dials_here", "one", "other", "here", "there", "size_here"]) (sc := defScope s__law_less) (by decide +kernel)) (fun _ _ _ _ _ => (pg_tup rfl (pgs_cons (pg_name (i := 3) sc.nd rfl (Or.inl rfl)) (pgs_cons (pg_name (i := 4) sc.nd rfl (Or.inl rfl)) (pgs_cons (pg_name (i := 5) sc.nd rfl (Or.inl rfl)) pgs_nil))))) (fun _ _ _ _ _ => pts_nil) (fun _ _ _ _ _ => (pe_op op_mod (pe_callTy call_int1 (by rfl) Z.int (by decide +kernel) (pa_cons (pe_op op_add (pe_op op_sub (pv 3) (pv 4)) (pv 5)) pa_nil)) (pv 5)))) pa_nil)))), ?_⟩
    exact body_start (k := 3) (n := 3) rfl (hv.len.trans (guard_len e)) (show Ss E ad _ b__law_less from (u_ret (u_cb cs_tuple (u_cons (u_lc (i_zip3 (u_cons u_var (u_cons u_var (u_cons u_var u_nil)))) (g_tup (g_cons g_name (g_cons g_name (g_cons g_name g_nil)))) u_yes (u_op os_mod (u_cb cs_int (u_cons (u_op os_add (u_op os_sub u_var u_var) u_var) u_nil)) u_var) (by decide)) u_nil)))) wf hv (guard_get e) k
abbrev s__law_nothing : Stmt := top 37
def b__law_nothing : En → Rf := (fRet (fOp oRepT (fTup (fCons (fC (.int 0)) fNil)) (fCb oLen (fCons (fVar 0) fNil))))
def f__law_nothing : List D → Re := guardN 1 (bodyD b__law_nothing 0)
theorem ok__law_nothing {f : Addr} {fd : FuncData} (Z : Zs mg) (F : Fun K "_law_nothing" "_law_nothing" s__law_nothing f fd) : FnOk P w K mg base CX0 1 f fd ["dials_here"] (SpF ad f__law_nothing) := by
  have sc : FnScope ["dials_here"] ["dials_here"] (defScope s__law_nothing) := ⟨rfl, rfl, rfl, by decide +kernel, rfl, by decide +kernel, by decide +kernel⟩
  refine F.ok sc (fun vs H Q E h => ?_) (fun cdv A outer s H vs Q E hr h => ?_)
  · obtain ⟨G, ds, r, _, hv, e, _⟩ := h
    unfold f__law_nothing at e
    exact hv.len.trans (guard_len e)
  · obtain ⟨G, ds, r, wf, hv, e, k⟩ := h
    unfold f__law_nothing at e
    refine ⟨_, (pss_one (ps_ret (pe_op (r := rRepA K) op_repA (pe_tup (pa_cons pe_int pa_nil)) (pe_callB (r := rLenA K) call_len_seq (by rfl) Z.len PySem.boot_len (pa_cons (pv 0) pa_nil))))), ?_⟩
    exact body_start (k := 1) (n := 0) rfl (hv.len.trans (guard_len e)) (show Ss E ad _ b__law_nothing from (u_ret (u_op os_repT (u_tup (u_cons (u_c fun _ => .int 0) u_nil)) (u_cb cs_len (u_cons u_var u_nil))))) wf hv (guard_get e) k
abbrev s__law_bad_dials : Stmt := top 38
def F__law_bad_dials : WS := (wRet (wDraw W__law_pick (wCons (pw (fLst (fCons (fC .none) (fCons (fTup fNil) (fCons (fLst (fCons (fC (.int 2)) (fCons (fC (.int 3)) fNil))) (fCons (fTup (fCons (fC (.int 1)) (fCons (fC (.int 3)) fNil))) (fCons (fTup (fCons (fC (.int 0)) fNil)) (fCons (fTup (fCons (fC (.int 25)) fNil)) (fCons (fTup (fCons (fC (.int 5)) (fCons (fC (.int 5)) fNil))) (fCons (fTup (fCons (fC (.int 2)) (fCons (fC (.int 2)) (fCons (fC (.int 2)) (fCons (fC (.int 2)) (fCons (fC (.int 2)) fNil)))))) (fCons (fTup (fCons (fC (.bool true)) (fCons (fC (.int 3)) fNil))) (fCons (fC (.str "23")) (fCons (fC (.int 6)) (fCons (fTup (fCons (fUn oNeg (fC (.int 2))) fNil)) (fCons (fC (.dict [(.none, .none)])) fNil))))))))))))))) wNil)))
def W__law_bad_dials : List D → Int → (D → Int → Prop) → Prop := bodyW F__law_bad_dials 0 0
theorem ok__law_bad_dials {f : Addr} {fd : FuncData} (C__law_pick : Cal P w K mg base CX0 2 "_law_pick" ["state", "several"] (SpW TL W__law_pick)) (F : Fun K "_law_bad_dials" "_law_bad_dials" s__law_bad_dials f fd) : FnOk P w K mg base CX0 3 f fd ["state"] (SpW TL W__law_bad_dials) := by
  have sc : FnScope ["state"] ["state"] (defScope s__law_bad_dials) := ⟨rfl, rfl, rfl, by decide +kernel, rfl, by decide +kernel, by decide +kernel⟩
  refine F.ok sc (fun vs H Q E h => ?_) (fun cdv A outer s0 H vs Q E hr h => ?_)
  · obtain ⟨G, s, l, c, T, vs2, ds, post, rfl, hv, _, _, _, hb, _⟩ := h
    rw [List.length_cons, hv.len, hb.1]; rfl
  · obtain ⟨G, s, l, c, T, vs2, ds, post, rfl, hv, wd, nt, tb, hb, k⟩ := h
    refine ⟨_, (pss_one (ps_ret (pe_cal C__law_pick (hr.mono (by decide)) pass0 (pa_cons (pv 0) (pa_cons (pe_lst (pa_cons pe_non (pa_cons (pe_tup pa_nil) (pa_cons (pe_lst (pa_cons pe_int (pa_cons pe_int pa_nil))) (pa_cons (pe_tup (pa_cons pe_int (pa_cons pe_int pa_nil))) (pa_cons (pe_tup (pa_cons pe_int pa_nil)) (pa_cons (pe_tup (pa_cons pe_int pa_nil)) (pa_cons (pe_tup (pa_cons pe_int (pa_cons pe_int pa_nil))) (pa_cons (pe_tup (pa_cons pe_int (pa_cons pe_int (pa_cons pe_int (pa_cons pe_int (pa_cons pe_int pa_nil)))))) (pa_cons (pe_tup (pa_cons pe_bl (pa_cons pe_int pa_nil))) (pa_cons pe_str (pa_cons pe_int (pa_cons (pe_tup (pa_cons (pe_un un_neg pe_int) pa_nil)) (pa_cons pe_dnewK pa_nil)))))))))))))) pa_nil))))), ?_⟩
    exact startW (k := 0) (n := 0) rfl (show Sws (X0 TL) _ F__law_bad_dials from (w_ret (w_draw (w_cons (w_pure (E := fun _ _ _ => False) (ad := fun _ => 0) (u_lst (u_cons (u_c fun _ => .non) (u_cons (u_tup u_nil) (u_cons (u_lst (u_cons (u_c fun _ => .int 2) (u_cons (u_c fun _ => .int 3) u_nil))) (u_cons (u_tup (u_cons (u_c fun _ => .int 1) (u_cons (u_c fun _ => .int 3) u_nil))) (u_cons (u_tup (u_cons (u_c fun _ => .int 0) u_nil)) (u_cons (u_tup (u_cons (u_c fun _ => .int 25) u_nil)) (u_cons (u_tup (u_cons (u_c fun _ => .int 5) (u_cons (u_c fun _ => .int 5) u_nil))) (u_cons (u_tup (u_cons (u_c fun _ => .int 2) (u_cons (u_c fun _ => .int 2) (u_cons (u_c fun _ => .int 2) (u_cons (u_c fun _ => .int 2) (u_cons (u_c fun _ => .int 2) u_nil)))))) (u_cons (u_tup (u_cons (u_c fun _ => .bl true) (u_cons (u_c fun _ => .int 3) u_nil))) (u_cons (u_c fun _ => .str "23") (u_cons (u_c fun _ => .int 6) (u_cons (u_tup (u_cons (u_un us_neg (u_c fun _ => .int 2)) u_nil)) (u_cons u_emp u_nil))))))))))))))) w_nil)))) hv wd nt tb hb k
abbrev s__law_many_error : Stmt := top 39
theorem ok__law_many_error {f : Addr} {fd : FuncData} {C0 : Addr} (Z : Zs mg) {fTM : Addr} (TM : PySem.TmX.TmTxt K mg (ad "TooMany") fTM) (EB_TooMany : ErrC K mg C0 "TooMany" (ad "TooMany")) (F : Fun K "_law_many_error" "_law_many_error" s__law_many_error f fd) : FnOk P w K mg base CX0 1 f fd ["caught", "most"] (SpTm (ad "TooMany")) := by
  have sc : FnScope ["caught", "most"] ["caught", "most"] (defScope s__law_many_error) := ⟨rfl, rfl, rfl, by decide +kernel, rfl, by decide +kernel, by decide +kernel⟩
  refine F.ok sc (fun vs H Q E h => ?_) (fun cdv A outer s H vs Q E hr h => ?_)
  · obtain ⟨e, d, m, m', rfl, _⟩ := h; rfl
  · obtain ⟨e, d, m, m', rfl, h1, h2, q⟩ := h
    refine ⟨_, (pss_one (ps_ret (pe_and (pe_callB (r := rIsM K (ad "TooMany")) (call_isM EB_TooMany.i TM.isCls) (by rfl) Z.isinstance (by decide +kernel) (pa_cons (pv 0) (pa_cons (pe_glob (v := .ref (ad "TooMany")) (u := .ref (ad "TooMany")) (by rfl) EB_TooMany.m rfl) pa_nil))) (pe_one (pe_cmpR op_eq (pe_most TM (pv 0)) (pv 1) (nomark _)))))), ?_⟩
    refine ⟨.ref e, rfl, e, d, .int m, rfl, h1, h2, true, rfl, ?_⟩
    rw [if_pos rfl]
    exact ⟨.ref e, rfl, e, d, .int m, rfl, h1, h2, .int m', rfl, rfl, q⟩
abbrev s__law_all_dials : Stmt := top 40
def b__law_all_dials : En → Rf := (fSeq (fPar false false 0 1 (fLst fNil) (fLst (fCons (fTup fNil) fNil))) (fSeq (fFor (iR1 (fCons (fC (.int 4)) fNil)) (sName 2) (fSeq (fAsg (fLst fNil) (sName 3)) (fSeq (fFor (iL (fVar 1)) (sName 4) (fAsg (fOp oCat (fVar 3) (fLc (iR2 (fCons (fC (.int 2)) (fCons (fC (.int 25)) fNil))) (sName 5) (fT (fOp oLe (fOp oMul (fCall0 f__law_count (fCons (fVar 4) fNil)) (fVar 5)) (fC (.int 24)))) (fOp oCatT (fVar 4) (fTup (fCons (fVar 5) fNil))) [5])) (sName 3))) (fPar false false 0 1 (fOp oCat (fVar 0) (fVar 3)) (fVar 3))))) (fRet (fVar 0))))
def f__law_all_dials : List D → Re := guardN 0 (bodyD b__law_all_dials 6)
theorem ok__law_all_dials {f : Addr} {fd : FuncData} (Z : Zs mg) (C__law_count : Cal P w K mg base CX0 1 "_law_count" ["dials_here"] (SpF ad f__law_count)) (F : Fun K "_law_all_dials" "_law_all_dials" s__law_all_dials f fd) : FnOk P w K mg base CX0 2 f fd [] (SpF ad f__law_all_dials) := by
  have sc : FnScope ["found", "rows", "lap", "longer", "told", "size_here"] [] (defScope s__law_all_dials) := ⟨rfl, rfl, rfl, by decide +kernel, rfl, by decide +kernel, by decide +kernel⟩
  refine F.ok sc (fun vs H Q E h => ?_) (fun cdv A outer s H vs Q E hr h => ?_)
  · obtain ⟨G, ds, r, _, hv, e, _⟩ := h
    unfold f__law_all_dials at e
    exact hv.len.trans (guard_len e)
  · obtain ⟨G, ds, r, wf, hv, e, k⟩ := h
    unfold f__law_all_dials at e
    refine ⟨_, (pss_cons (ps_par (i := 0) (j := 1) (by rfl) sc.nd rfl rfl (by decide) rfl rfl (pa_cons (pe_lst pa_nil) (pa_cons (pe_lst (pa_cons (pe_tup pa_nil) pa_nil)) pa_nil)) (by rfl)) (pss_cons (ps_for PassesOwn.never rfl (pi_range1 (by rfl) Z.range (pa_cons pe_int pa_nil)) (pg_name (i := 2) sc.nd rfl (Or.inl rfl)) (pss_cons (ps_set (i := 3) sc.nd rfl (Or.inl rfl) (pe_lst pa_nil)) (pss_cons (ps_for PassesOwn.never rfl (pi_list (pv 1)) (pg_name (i := 4) sc.nd rfl (Or.inr rfl)) (pss_one (ps_set (i := 3) sc.nd rfl (Or.inl rfl) (pe_op op_cat (pv 3) (pe_lc (own := [("size_here", 5)]) (g := gName 5) (tt := _) (by rfl) sc.nd (pi_range2 (by rfl) Z.range (pa_cons pe_int (pa_cons pe_int pa_nil))) (blkOk_by (N := ["found", "rows", "lap", "longer", "told", "size_here"]) (sc := defScope s__law_all_dials) (by decide +kernel)) (fun _ _ _ _ _ => (pg_name (i := 5) sc.nd rfl (Or.inl rfl))) (fun _ _ _ _ _ => (pts_one (pt_cmpR op_le (pe_op op_mul (pe_cal C__law_count (hr.mono (by decide)) pass0 (pa_cons (pv 4) pa_nil)) (pv 5)) pe_int (nomark _)))) (fun _ _ _ _ _ => (pe_op (r := rCatA K) op_catA (pv 4) (pe_tup (pa_cons (pv 5) pa_nil))))))))) (pss_one (ps_par (i := 0) (j := 1) (by rfl) sc.nd rfl rfl (by decide) rfl rfl (pa_cons (pe_op op_cat (pv 0) (pv 3)) (pa_cons (pv 3) pa_nil)) (by rfl)))))) (pss_one (ps_ret (pv 0))))), ?_⟩
    exact body_start (k := 0) (n := 6) rfl (hv.len.trans (guard_len e)) (show Ss E ad _ b__law_all_dials from (u_seq (u_par (m1 := false) (m2 := false) (u_lst u_nil) (u_lst (u_cons (u_tup u_nil) u_nil))) (u_seq (u_for (i_rng1 (u_cons (u_c fun _ => .int 4) u_nil)) g_name (u_seq (u_asg (u_lst u_nil) g_name) (u_seq (u_for (i_list u_var) g_name (u_asg (u_op os_cat u_var (u_lc (i_rng2 (u_cons (u_c fun _ => .int 2) (u_cons (u_c fun _ => .int 25) u_nil))) g_name (u_test (u_op os_le (u_op os_mul (u_call0 (u_cons u_var u_nil)) u_var) (u_c fun _ => .int 24))) (u_op os_catT u_var (u_tup (u_cons u_var u_nil))) (by decide))) g_name)) (u_par (m1 := false) (m2 := false) (u_op os_cat u_var u_var) u_var)))) (u_ret u_var)))) wf hv (guard_get e) k
abbrev s__law_any_dials : Stmt := top 41
def F__law_any_dials : WS := (wRet (wDraw W__law_pick (wCons (pw (fLc (iL (fCall0 f__law_all_dials fNil)) (sName 3) (fT (fChain oLe oLe (fVar 1) (fCall0 f__law_count (fCons (fVar 3) fNil)) (fVar 2))) (fVar 3) [3])) wNil)))
def W__law_any_dials : List D → Int → (D → Int → Prop) → Prop := bodyW F__law_any_dials 2 1
theorem ok__law_any_dials {f : Addr} {fd : FuncData} (C__law_pick : Cal P w K mg base CX0 2 "_law_pick" ["state", "several"] (SpW TL W__law_pick)) (C__law_all_dials : Cal P w K mg base CX0 2 "_law_all_dials" [] (SpF ad f__law_all_dials)) (C__law_count : Cal P w K mg base CX0 1 "_law_count" ["dials_here"] (SpF ad f__law_count)) (F : Fun K "_law_any_dials" "_law_any_dials" s__law_any_dials f fd) : FnOk P w K mg base CX0 3 f fd ["state", "least", "most"] (SpW TL W__law_any_dials) := by
  have sc : FnScope ["state", "least", "most", "item"] ["state", "least", "most"] (defScope s__law_any_dials) := ⟨rfl, rfl, rfl, by decide +kernel, rfl, by decide +kernel, by decide +kernel⟩
  refine F.ok sc (fun vs H Q E h => ?_) (fun cdv A outer s0 H vs Q E hr h => ?_)
  · obtain ⟨G, s, l, c, T, vs2, ds, post, rfl, hv, _, _, _, hb, _⟩ := h
    rw [List.length_cons, hv.len, hb.1]; rfl
  · obtain ⟨G, s, l, c, T, vs2, ds, post, rfl, hv, wd, nt, tb, hb, k⟩ := h
    refine ⟨_, (pss_one (ps_ret (pe_cal C__law_pick (hr.mono (by decide)) pass0 (pa_cons (pv 0) (pa_cons (pe_lc (own := [("item", 3)]) (g := gName 3) (tt := _) (by rfl) sc.nd (pi_list (pe_cal0 C__law_all_dials (hr.mono (by decide)) pass0)) (blkOk_by (N := ["state", "least", "most", "item"]) (sc := defScope s__law_any_dials) (by decide +kernel)) (fun _ _ _ _ _ => (pg_name (i := 3) sc.nd rfl (Or.inl rfl))) (fun _ _ _ _ _ => (pts_one (pt_chain op_le op_le (pv 1) (pe_cal C__law_count (hr.mono (by decide)) pass0 (pa_cons (pv 3) pa_nil)) (pv 2)))) (fun _ _ _ _ _ => (pv 3))) pa_nil))))), ?_⟩
    exact startW (k := 2) (n := 1) rfl (show Sws (X0 TL) _ F__law_any_dials from (w_ret (w_draw (w_cons (w_pure (E := fun _ _ _ => False) (ad := ad) (u_lc (i_list (u_call0 u_nil)) g_name (u_test (u_chain os_le os_le u_var (u_call0 (u_cons u_var u_nil)) u_var)) u_var (by decide))) w_nil)))) hv wd nt tb hb k
abbrev s__law_steps : Stmt := top 42
def b__law_steps : En → Rf := (fRet (fLc (iZ2 false false (fCons (fVar 1) (fCons (fSl false (fVar 1) (pSome (fC (.int 1))) pNone) fNil))) (sTup 2 (sCons (sName 2) (sCons (sName 3) sNil))) (fC (.bool true)) (fCall0 f__law_less (fCons (fVar 0) (fCons (fVar 3) (fCons (fVar 2) fNil)))) [2, 3]))
def f__law_steps : List D → Re := guardN 2 (bodyD b__law_steps 2)
theorem ok__law_steps {f : Addr} {fd : FuncData} (Z : Zs mg) (C__law_less : Cal P w K mg base CX0 1 "_law_less" ["dials_here", "one", "other"] (SpF ad f__law_less)) (F : Fun K "_law_steps" "_law_steps" s__law_steps f fd) : FnOk P w K mg base CX0 2 f fd ["dials_here", "line"] (SpF ad f__law_steps) := by
  have sc : FnScope ["dials_here", "line", "item", "later"] ["dials_here", "line"] (defScope s__law_steps) := ⟨rfl, rfl, rfl, by decide +kernel, rfl, by decide +kernel, by decide +kernel⟩
  refine F.ok sc (fun vs H Q E h => ?_) (fun cdv A outer s H vs Q E hr h => ?_)
  · obtain ⟨G, ds, r, _, hv, e, _⟩ := h
    unfold f__law_steps at e
    exact hv.len.trans (guard_len e)
  · obtain ⟨G, ds, r, wf, hv, e, k⟩ := h
    unfold f__law_steps at e
    refine ⟨_, (pss_one (ps_ret (pe_lc (own := [("item", 2), ("later", 3)]) (g := gTup K 2 (gCons (gName 2) (gCons (gName 3) gNil))) (tt := tYes) (by rfl) sc.nd (pi_zip2 false false (by rfl) Z.zip (pa_cons (pv 1) (pa_cons (pe_slice (r := rSlA K) sl_tupA (pv 1) (po_some pe_int) po_none) pa_nil))) (blkOk_by (N := ["dials_here", "line", "item", "later"]) (sc := defScope s__law_steps) (by decide +kernel)) (fun _ _ _ _ _ => (pg_tup rfl (pgs_cons (pg_name (i := 2) sc.nd rfl (Or.inl rfl)) (pgs_cons (pg_name (i := 3) sc.nd rfl (Or.inl rfl)) pgs_nil)))) (fun _ _ _ _ _ => pts_nil) (fun _ _ _ _ _ => (pe_cal C__law_less (hr.mono (by decide)) pass0 (pa_cons (pv 0) (pa_cons (pv 3) (pa_cons (pv 2) pa_nil)))))))), ?_⟩
    exact body_start (k := 2) (n := 2) rfl (hv.len.trans (guard_len e)) (show Ss E ad _ b__law_steps from (u_ret (u_lc (i_zip2 (u_cons u_var (u_cons (u_sl (k := false) u_var (p_some (E := E) (ad := ad) (u_c fun _ => .int 1)) p_none) u_nil))) (g_tup (g_cons g_name (g_cons g_name g_nil))) u_yes (u_call0 (u_cons u_var (u_cons u_var (u_cons u_var u_nil)))) (by decide)))) wf hv (guard_get e) k
abbrev s__law_kind : Stmt := top 43
def b__law_kind : En → Rf := (fRet (fCb oMin2T (fCons (fVar 1) (fCons (fCall0 f__law_less (fCons (fVar 0) (fCons (fCall0 f__law_nothing (fCons (fVar 0) fNil)) (fCons (fVar 1) fNil)))) fNil))))
def f__law_kind : List D → Re := guardN 2 (bodyD b__law_kind 0)
theorem ok__law_kind {f : Addr} {fd : FuncData} (Z : Zs mg) (C__law_less : Cal P w K mg base CX0 1 "_law_less" ["dials_here", "one", "other"] (SpF ad f__law_less)) (C__law_nothing : Cal P w K mg base CX0 1 "_law_nothing" ["dials_here"] (SpF ad f__law_nothing)) (F : Fun K "_law_kind" "_law_kind" s__law_kind f fd) : FnOk P w K mg base CX0 2 f fd ["dials_here", "step_here"] (SpF ad f__law_kind) := by
  have sc : FnScope ["dials_here", "step_here"] ["dials_here", "step_here"] (defScope s__law_kind) := ⟨rfl, rfl, rfl, by decide +kernel, rfl, by decide +kernel, by decide +kernel⟩
  refine F.ok sc (fun vs H Q E h => ?_) (fun cdv A outer s H vs Q E hr h => ?_)
  · obtain ⟨G, ds, r, _, hv, e, _⟩ := h
    unfold f__law_kind at e
    exact hv.len.trans (guard_len e)
  · obtain ⟨G, ds, r, wf, hv, e, k⟩ := h
    unfold f__law_kind at e
    refine ⟨_, (pss_one (ps_ret (pe_callB (r := rMin2D K) (cr_min2D rfl hr.units) (by rfl) Z.min (by decide +kernel) (pa_cons (pv 1) (pa_cons (pe_cal C__law_less (hr.mono (by decide)) pass0 (pa_cons (pv 0) (pa_cons (pe_cal C__law_nothing (hr.mono (by decide)) pass0 (pa_cons (pv 0) pa_nil)) (pa_cons (pv 1) pa_nil)))) pa_nil))))), ?_⟩
    exact body_start (k := 2) (n := 0) rfl (hv.len.trans (guard_len e)) (show Ss E ad _ b__law_kind from (u_ret (u_cb cs_min2T (u_cons u_var (u_cons (u_call0 (u_cons u_var (u_cons (u_call0 (u_cons u_var u_nil)) (u_cons u_var u_nil)))) u_nil))))) wf hv (guard_get e) k
abbrev s__law_share : Stmt := top 44
def b__law_share : En → Rf := (fRet (fIf (fT (fOp oEq (fCall0 f__law_plus (fCons (fVar 0) (fCons (fVar 1) (fCons (fVar 1) fNil)))) (fCall0 f__law_nothing (fCons (fVar 0) fNil)))) (fC (.int 1)) (fC (.int 2))))
def f__law_share : List D → Re := guardN 2 (bodyD b__law_share 0)
theorem ok__law_share {f : Addr} {fd : FuncData} (C__law_plus : Cal P w K mg base CX0 1 "_law_plus" ["dials_here", "one", "other"] (SpF ad f__law_plus)) (C__law_nothing : Cal P w K mg base CX0 1 "_law_nothing" ["dials_here"] (SpF ad f__law_nothing)) (F : Fun K "_law_share" "_law_share" s__law_share f fd) : FnOk P w K mg base CX0 2 f fd ["dials_here", "step_here"] (SpF ad f__law_share) := by
  have sc : FnScope ["dials_here", "step_here"] ["dials_here", "step_here"] (defScope s__law_share) := ⟨rfl, rfl, rfl, by decide +kernel, rfl, by decide +kernel, by decide +kernel⟩
  refine F.ok sc (fun vs H Q E h => ?_) (fun cdv A outer s H vs Q E hr h => ?_)
  · obtain ⟨G, ds, r, _, hv, e, _⟩ := h
    unfold f__law_share at e
    exact hv.len.trans (guard_len e)
  · obtain ⟨G, ds, r, wf, hv, e, k⟩ := h
    unfold f__law_share at e
    refine ⟨_, (pss_one (ps_ret (pe_ifExp (pt_cmpR (r := rEqD K) (op_eqD hr.units) (pe_cal C__law_plus (hr.mono (by decide)) pass0 (pa_cons (pv 0) (pa_cons (pv 1) (pa_cons (pv 1) pa_nil)))) (pe_cal C__law_nothing (hr.mono (by decide)) pass0 (pa_cons (pv 0) pa_nil)) (nomark _)) pe_int pe_int))), ?_⟩
    exact body_start (k := 2) (n := 0) rfl (hv.len.trans (guard_len e)) (show Ss E ad _ b__law_share from (u_ret (u_if (u_test (u_op os_eq (u_call0 (u_cons u_var (u_cons u_var (u_cons u_var u_nil)))) (u_call0 (u_cons u_var u_nil)))) (u_c fun _ => .int 1) (u_c fun _ => .int 2)))) wf hv (guard_get e) k
abbrev s__law_fits : Stmt := top 45
def b__law_fits : En → Rf := (fSeq (fIfS (fT (fOp (oIn false) (fVar 2) (fVar 1))) (fRet (fC (.bool false))) fNext) (fSeq (fPar false false 4 5 (fCall0 f__law_less (fCons (fVar 0) (fCons (fVar 2) (fCons (fOp oIxT (fVar 1) (fUn oNeg (fC (.int 1)))) fNil)))) (fCall0 f__law_steps (fCons (fVar 0) (fCons (fVar 1) fNil)))) (fSeq (fIfS (fNot (fT (fVar 3))) (fRet (fOp (oIn true) (fVar 4) (fVar 5))) fNext) (fSeq (fAsg (fLc (iL (fVar 5)) (sName 7) (fC (.bool true)) (fCall0 f__law_kind (fCons (fVar 0) (fCons (fVar 7) fNil))) [7]) (sName 6)) (fRet (fOp oLt (fCnt true (fVar 6) (fCall0 f__law_kind (fCons (fVar 0) (fCons (fVar 4) fNil)))) (fCall0 f__law_share (fCons (fVar 0) (fCons (fVar 4) fNil)))))))))
def f__law_fits : List D → Re := guardN 4 (bodyD b__law_fits 4)
theorem ok__law_fits {f : Addr} {fd : FuncData} (C__law_less : Cal P w K mg base CX0 1 "_law_less" ["dials_here", "one", "other"] (SpF ad f__law_less)) (C__law_steps : Cal P w K mg base CX0 2 "_law_steps" ["dials_here", "line"] (SpF ad f__law_steps)) (C__law_kind : Cal P w K mg base CX0 2 "_law_kind" ["dials_here", "step_here"] (SpF ad f__law_kind)) (C__law_share : Cal P w K mg base CX0 2 "_law_share" ["dials_here", "step_here"] (SpF ad f__law_share)) (F : Fun K "_law_fits" "_law_fits" s__law_fits f fd) : FnOk P w K mg base CX0 3 f fd ["dials_here", "line", "item", "fair"] (SpF ad f__law_fits) := by
  have sc : FnScope ["dials_here", "line", "item", "fair", "step_here", "taken", "kinds", "one"] ["dials_here", "line", "item", "fair"] (defScope s__law_fits) := ⟨rfl, rfl, rfl, by decide +kernel, rfl, by decide +kernel, by decide +kernel⟩
  refine F.ok sc (fun vs H Q E h => ?_) (fun cdv A outer s H vs Q E hr h => ?_)
  · obtain ⟨G, ds, r, _, hv, e, _⟩ := h
    unfold f__law_fits at e
    exact hv.len.trans (guard_len e)
  · obtain ⟨G, ds, r, wf, hv, e, k⟩ := h
    unfold f__law_fits at e
    refine ⟨_, (pss_cons (ps_if (pt_cmpR (r := rInA K false) (op_inA (room65 hr)) (pv 2) (pv 1) (by rfl)) (pss_one (ps_ret pe_bl)) pss_nil) (pss_cons (ps_par (i := 4) (j := 5) (by rfl) sc.nd rfl rfl (by decide) rfl rfl (pa_cons (pe_cal C__law_less (hr.mono (by decide)) pass0 (pa_cons (pv 0) (pa_cons (pv 2) (pa_cons (pe_ix (r := rIxT K) ix_tup (pv 1) (pe_un un_neg pe_int) (fun _ _ => rfl)) pa_nil)))) (pa_cons (pe_cal C__law_steps (hr.mono (by decide)) pass0 (pa_cons (pv 0) (pa_cons (pv 1) pa_nil))) pa_nil)) (by rfl)) (pss_cons (ps_if (pt_not (pt_val (pv 3))) (pss_one (ps_ret (pe_cmpR (r := rInA K true) (op_notInA (room65 hr)) (pv 4) (pv 5) (by rfl)))) pss_nil) (pss_cons (ps_setLc (i := 6) (own := [("one", 7)]) (g := gName 7) (tt := tYes) (by rfl) sc.nd rfl rfl (sw_true rfl rfl rfl (by decide +kernel)) (pi_list (pv 5)) (blkOk_by (N := ["dials_here", "line", "item", "fair", "step_here", "taken", "kinds", "one"]) (sc := defScope s__law_fits) (by decide +kernel)) (fun _ _ _ _ _ => (pg_name (i := 7) sc.nd rfl (Or.inl rfl))) (fun _ _ _ _ _ => pts_nil) (fun _ _ _ _ _ => (pe_cal C__law_kind (hr.mono (by decide)) pass0 (pa_cons (pv 0) (pa_cons (pv 7) pa_nil))))) (pss_one (ps_ret (pe_cmpR op_lt (pe_bm (r := rCountD K true) PySem.F.plainAttrs_list PySem.F.slot_list_count PySem.F.type_list_count (by exact mt_countL (room65 hr)) (pv 6) (pa_cons (pe_cal C__law_kind (hr.mono (by decide)) pass0 (pa_cons (pv 0) (pa_cons (pv 4) pa_nil))) pa_nil)) (pe_cal C__law_share (hr.mono (by decide)) pass0 (pa_cons (pv 0) (pa_cons (pv 4) pa_nil))) (nomark _)))))))), ?_⟩
    exact body_start (k := 4) (n := 4) rfl (hv.len.trans (guard_len e)) (show Ss E ad _ b__law_fits from (u_seq (u_ifS (u_test (u_op os_in u_var u_var)) (u_ret (u_c fun _ => .bl false)) u_next) (u_seq (u_par (m1 := false) (m2 := false) (u_call0 (u_cons u_var (u_cons u_var (u_cons (u_op os_ixT u_var (u_un us_neg (u_c fun _ => .int 1))) u_nil)))) (u_call0 (u_cons u_var (u_cons u_var u_nil)))) (u_seq (u_ifS (u_tNot (u_tB u_var)) (u_ret (u_op os_in u_var u_var)) u_next) (u_seq (u_asg (u_lc (i_list u_var) g_name u_yes (u_call0 (u_cons u_var (u_cons u_var u_nil))) (by decide)) g_name) (u_ret (u_op os_lt (u_cntL u_var (u_call0 (u_cons u_var (u_cons u_var u_nil)))) (u_call0 (u_cons u_var (u_cons u_var u_nil)))))))))) wf hv (guard_get e) k
abbrev s__law_grown : Stmt := top 46
def b__law_grown (g_ : List D → Re) : En → Rf := (fSeq (fIfS (fT (fOp oEqA (fCb oLen (fCons (fVar 1) fNil)) (fCall0 f__law_count (fCons (fVar 0) fNil)))) (fRet (fLst (fCons (fVar 1) fNil))) fNext) (fSeq (fAsg (fLst fNil) (sName 3)) (fSeq (fFor (iL (fCall0 f__law_places (fCons (fVar 0) fNil))) (sName 4) (fIfS (fT (fCall0 f__law_fits (fCons (fVar 0) (fCons (fVar 1) (fCons (fVar 4) (fCons (fVar 2) fNil)))))) (fAsg (fOp oCat (fVar 3) (fCall0 g_ (fCons (fVar 0) (fCons (fOp oCatT (fVar 1) (fTup (fCons (fVar 4) fNil))) (fCons (fVar 2) fNil))))) (sName 3)) fNext)) (fRet (fVar 3)))))
def f__law_grown_ : Nat → List D → Re
  | 0 => fun _ => none
  | k + 1 => guardN 3 (bodyD (b__law_grown (f__law_grown_ k)) 2)
def f__law_grown : List D → Re := f__law_grown_ 8
theorem ok__law_grown_ {f : Addr} {fd : FuncData} (Z : Zs mg) (C__law_places : Cal P w K mg base CX0 1 "_law_places" ["dials_here"] (SpF ad f__law_places)) (C__law_count : Cal P w K mg base CX0 1 "_law_count" ["dials_here"] (SpF ad f__law_count)) (C__law_fits : Cal P w K mg base CX0 3 "_law_fits" ["dials_here", "line", "item", "fair"] (SpF ad f__law_fits)) (m_self : mg "_law_grown" = some (.ref f)) (k_self : PySem.W.keepIn K (.ref f) = true) (b_self : Binds K fd ["dials_here", "line", "fair"] []) (F : Fun K "_law_grown" "_law_grown" s__law_grown f fd) : ∀ k, FnOk P w K mg base CX0 (4 + k) f fd ["dials_here", "line", "fair"] (SpF ad (f__law_grown_ k))
  | 0 => ⟨(fun vs H Q E h => by obtain ⟨G, ds, r, _, _, e, _⟩ := h; cases e), (fun A outer s H args us vs Q E _ _ _ _ h => by obtain ⟨G, ds, r, _, _, e, _⟩ := h; cases e)⟩
  | k + 1 => by
    have C__law_grown : Cal P w K mg base CX0 (4 + k) "_law_grown" ["dials_here", "line", "fair"] (SpF ad (f__law_grown_ k)) := ⟨f, fd, ok__law_grown_ Z C__law_places C__law_count C__law_fits m_self k_self b_self F k, m_self, k_self, b_self⟩
    have sc : FnScope ["dials_here", "line", "fair", "found", "item"] ["dials_here", "line", "fair"] (defScope s__law_grown) := ⟨rfl, rfl, rfl, by decide +kernel, rfl, by decide +kernel, by decide +kernel⟩
    refine F.ok sc (fun vs H Q E h => ?_) (fun cdv A outer s H vs Q E hr h => ?_)
    · obtain ⟨G, ds, r, _, hv, e, _⟩ := h
      unfold f__law_grown_ at e
      exact hv.len.trans (guard_len e)
    · obtain ⟨G, ds, r, wf, hv, e, k⟩ := h
      unfold f__law_grown_ at e
      refine ⟨_, (pss_cons (ps_if (pt_cmpR op_eq (pe_callB (r := rLenA K) call_len_seq (by rfl) Z.len PySem.boot_len (pa_cons (pv 1) pa_nil)) (pe_cal C__law_count (hr.mono (by first | exact Nat.le_refl _ | exact Nat.le_trans (by decide) (Nat.le_add_right 4 _))) pass0 (pa_cons (pv 0) pa_nil)) (nomark _)) (pss_one (ps_ret (pe_lst (pa_cons (pv 1) pa_nil)))) pss_nil) (pss_cons (ps_set (i := 3) sc.nd rfl (Or.inl rfl) (pe_lst pa_nil)) (pss_cons (ps_for PassesOwn.never rfl (pi_list (pe_cal C__law_places (hr.mono (by first | exact Nat.le_refl _ | exact Nat.le_trans (by decide) (Nat.le_add_right 4 _))) pass0 (pa_cons (pv 0) pa_nil))) (pg_name (i := 4) sc.nd rfl (Or.inl rfl)) (pss_one (ps_if (pt_val (pe_cal C__law_fits (hr.mono (by first | exact Nat.le_refl _ | exact Nat.le_trans (by decide) (Nat.le_add_right 4 _))) pass0 (pa_cons (pv 0) (pa_cons (pv 1) (pa_cons (pv 4) (pa_cons (pv 2) pa_nil)))))) (pss_one (ps_set (i := 3) sc.nd rfl (Or.inl rfl) (pe_op op_cat (pv 3) (pe_cal C__law_grown (hr.mono (by first | exact Nat.le_refl _ | exact Nat.le_trans (by decide) (Nat.le_add_right 4 _))) pass0 (pa_cons (pv 0) (pa_cons (pe_op (r := rCatA K) op_catA (pv 1) (pe_tup (pa_cons (pv 4) pa_nil))) (pa_cons (pv 2) pa_nil))))))) pss_nil))) (pss_one (ps_ret (pv 3)))))), ?_⟩
      exact body_start (k := 3) (n := 2) rfl (hv.len.trans (guard_len e)) (show Ss E ad _ (b__law_grown (f__law_grown_ _)) from (u_seq (u_ifS (u_test (u_op os_eqA (u_cb cs_len (u_cons u_var u_nil)) (u_call0 (u_cons u_var u_nil)))) (u_ret (u_lst (u_cons u_var u_nil))) u_next) (u_seq (u_asg (u_lst u_nil) g_name) (u_seq (u_for (i_list (u_call0 (u_cons u_var u_nil))) g_name (u_ifS (u_tB (u_call0 (u_cons u_var (u_cons u_var (u_cons u_var (u_cons u_var u_nil)))))) (u_asg (u_op os_cat u_var (u_call0 (u_cons u_var (u_cons (u_op os_catT u_var (u_tup (u_cons u_var u_nil))) (u_cons u_var u_nil))))) g_name) u_next)) (u_ret u_var))))) wf hv (guard_get e) k
theorem ok__law_grown {f : Addr} {fd : FuncData} (Z : Zs mg) (C__law_places : Cal P w K mg base CX0 1 "_law_places" ["dials_here"] (SpF ad f__law_places)) (C__law_count : Cal P w K mg base CX0 1 "_law_count" ["dials_here"] (SpF ad f__law_count)) (C__law_fits : Cal P w K mg base CX0 3 "_law_fits" ["dials_here", "line", "item", "fair"] (SpF ad f__law_fits)) (m_self : mg "_law_grown" = some (.ref f)) (k_self : PySem.W.keepIn K (.ref f) = true) (b_self : Binds K fd ["dials_here", "line", "fair"] []) (F : Fun K "_law_grown" "_law_grown" s__law_grown f fd) : FnOk P w K mg base CX0 12 f fd ["dials_here", "line", "fair"] (SpF ad f__law_grown) := ok__law_grown_ Z C__law_places C__law_count C__law_fits m_self k_self b_self F 8
end
end Mv
namespace Mv
open PySem L2 Evl
section
variable {n a b : List Int} {M : Rows}
theorem lcount_v (hn : n ∈ fewD) : f__law_count [dI n] = some (.val (.int (prod n))) := few_V (f := fun n => f__law_count [dI n]) (g := fun n => .int (prod n)) (by decide +kernel) hn
theorem lplaces_v (hn : n ∈ fewD) : f__law_places [dI n] = some (.val (dL (placesOf n))) := few_V (f := fun n => f__law_places [dI n]) (g := fun n => dL (placesOf n)) (by decide +kernel) hn
theorem lnothing_v (hn : n ∈ fewD) : f__law_nothing [dI n] = some (.val (dI (zeros n))) := few_V (f := fun n => f__law_nothing [dI n]) (g := fun n => dI (zeros n)) (by decide +kernel) hn
theorem lplus_go (X Y Z : Ce) : ∀ {n a b : List Int}, a.length = n.length → b.length = n.length → (∀ s ∈ n, 0 < s) →
    lcGo (sTup 3 (sCons (sName 3) (sCons (sName 4) (sCons (sName 5) sNil)))) (fC (.bool true)) (fOp oMod (fCb oInt (fCons (fOp oAdd (fVar 3) (fVar 4)) fNil)) (fVar 5)) [X, Y, Z, .un, .un, .un] (zipT3 (a.map .int) (b.map .int) (n.map .int)) = some ((addP n a b).map .int)
  | [], [], [], _, _, _ => rfl
  | s :: n, x :: a, y :: b, h1, h2, h3 => by
    have ih := lplus_go X Y Z (n := n) (a := a) (b := b) (by simpa using h1) (by simpa using h2) (fun s hs => h3 s (List.mem_cons_of_mem _ hs))
    have hs : 0 < s := h3 s (List.mem_cons_self ..)
    have e : (fOp oMod (fCb oInt (fCons (fOp oAdd (fVar 3) (fVar 4)) fNil)) (fVar 5)) [X, Y, Z, .d (.int x), .d (.int y), .d (.int s)] = some (.val (.int ((x + y) % s))) := by
      show (match oIc cMod (fun i j => PyData.int (i % j)) (.int (x + y)) (.int s) with | some z => some (Ou.val z) | none => none) = _
      simp [oIc, cMod, hs]
    have e0 : sTup 3 (sCons (sName 3) (sCons (sName 4) (sCons (sName 5) sNil))) (.tuple [.int x, .int y, .int s]) [X, Y, Z, .un, .un, .un] = some [X, Y, Z, .d (.int x), .d (.int y), .d (.int s)] := rfl
    simp only [List.map_cons, zipT3, addP]
    unfold lcGo
    rw [e0]; dsimp only [fC]
    rw [if_pos rfl, e, ih]
theorem lplus_v (hn : n ∈ fewD) (h1 : a.length = n.length) (h2 : b.length = n.length) : f__law_plus [dI n, dI a, dI b] = some (.val (dI (addP n a b))) := by
  refine (guard_of rfl).trans (bodyD_rt (fRet_val ?_))
  rw [fCb_one (fLc_of (as := zipT3 (a.map PyData.int) (b.map .int) (n.map .int)) rfl (zipT3_small (by have := few_l4 hn; omega)) (lplus_go _ _ _ h1 h2 (few_pos hn)))]
  rfl
theorem lenT_v (R : Rows) : oLen [dT R] = some (.int (R.length : Nat)) := by show some (PyData.int ((R.map dI).length : Nat)) = _; rw [List.length_map]
end
end Mv
namespace Mv
open PySem L2 Evl
section
variable {n a b : List Int} {T : Int} {post : D → Int → Prop}
theorem ixL_nat (as : List D) (i : Nat) : oIxL (.list as) (.int (i : Int)) = as[i]? := by
  show (ixD as (i : Int)) = _
  unfold ixD
  rw [if_pos (by omega)]; rfl
theorem wpick_v {as : List D} (h0 : as ≠ []) (hl : as.length < 1000000) (hT : T < 1000000000000) (h : ∀ d ∈ as, post d (T + 1)) : W__law_pick [.list as] T post := by
  refine bodyW_of rfl fun s => ?_
  have e : oLen [.list as] = some (.int (as.length : Nat)) := rfl
  have p0 : 0 < as.length := List.length_pos_iff.mpr h0
  simp only [F__law_pick, wSeq, wRet, wOp, wAsg, wTup, wLst, wCons, wNil, wDraw, wCb, wIf, wT, wAnd, wOr, wNot, wSl, wIfS, wNext, wDrop, wFrz, wApp, wAsgL, wCall, wOrV, wAndV, wNotV, wR1, wIL, wIT, wZ2, pw, pwb, pwa, guardN, bodyD, fSeq, fAsg, fAsgM, fApp, fRet, fRetN, fDrop, fIfS, fNext, fRaise, fIf, fAnd, fOr, fNot, fT, bo, bnd, bndA, rB, fCall0, noEx, fCall, fCallP, permL, fCons, fNil, fTup, fLst, lim, fCb, ret, fOp, fUn, fVar, fC, fIsi, fIsiLT, isLT, fChain, fLk, fLkB, fLkM, fRevL, fSet2, fFrz, lockL, lockG, lkC, sName, sTup, sCons, sNil, wipeC, List.map_cons, List.map_nil, List.replicate_succ, List.replicate_zero, List.cons_append, List.nil_append, List.getElem?_cons_zero, List.getElem?_cons_succ, List.set_cons_zero, List.set_cons_succ, List.length_cons, List.length_nil, Nat.beq_refl, Nat.reduceAdd, Nat.reduceLeDiff, Nat.reduceEqDiff, Nat.zero_add, if_true, if_false, Bool.false_eq_true, reduceIte, Bool.not_true, Bool.not_false, small_few0, small_few1, small_few2, small_few3, e]
  refine draw_of (by omega) (by omega) hT fun r hr => ?_
  rw [ixL_nat, List.getElem?_eq_getElem (by omega)]
  exact h _ (List.getElem_mem _)
def badD : List D := [.none, .tuple [], .list [.int 2, .int 3], .tuple [.int 1, .int 3], .tuple [.int 0], .tuple [.int 25], .tuple [.int 5, .int 5], .tuple [.int 2, .int 2, .int 2, .int 2, .int 2], .tuple [.bool true, .int 3], .str "23", .int 6, .tuple [.int (-2)], .dict [(.none, .none)]]
theorem wbadDials_v (hT : T < 1000000000000) (h : ∀ d ∈ badD, post d (T + 1)) : W__law_bad_dials [] T post := by
  refine bodyW_of rfl fun s => ?_
  unfold F__law_bad_dials
  refine wRet_of (wDraw_of (wCons_of (pw_of (d := .list badD) rfl (wNil_of ?_))))
  exact wpick_v (by intro z; cases z) (by decide) hT h
theorem bad_chk {d : D} (h : d ∈ badD) : f_check_dials [d] = some (.exc "BadDials") := by
  have : (badD.all fun d => isX (f_check_dials [d]) "BadDials") = true := by decide +kernel
  exact isX_eq (List.all_eq_true.mp this d h)
end
end Mv
namespace Mv
open PySem L2 Evl
section
variable {n a b : List Int} {P : Rows} {f g : List Int → List Int}
def e2 (q : List Int × List Int) : D := .tuple [dI q.1, dI q.2]
end
end Mv
namespace Mv
open PySem L2 Evl
section
variable {n p : List Int} {T : Int} {post : D → Int → Prop} {Γ : En} {fe : En → Re} {fl fh : En → Option (Option Int)} {k : Bool} {ds : List D}
end
end Mv
namespace Mv
open PySem L2 Evl
end Mv
namespace Mv
open PySem L2 Evl
section
variable {n : List Int} {B : Bg} {T : Int} {post : D → Int → Prop}
end
section
variable {n : List Int} {B : Bg} {Γ : En} {fe : En → Re}
end
end Mv
namespace Mv
open PySem L2 Evl
section
variable {n a b : List Int}
theorem lless_go (X Y Z : Ce) : ∀ {n a b : List Int}, a.length = n.length → b.length = n.length → (∀ s ∈ n, 0 < s) →
    lcGo (sTup 3 (sCons (sName 3) (sCons (sName 4) (sCons (sName 5) sNil)))) (fC (.bool true)) (fOp oMod (fCb oInt (fCons (fOp oAdd (fOp oSub (fVar 3) (fVar 4)) (fVar 5)) fNil)) (fVar 5)) [X, Y, Z, .un, .un, .un] (zipT3 (a.map .int) (b.map .int) (n.map .int)) = some ((takeP n a b).map .int)
  | [], [], [], _, _, _ => rfl
  | s :: n, x :: a, y :: b, h1, h2, h3 => by
    have ih := lless_go X Y Z (n := n) (a := a) (b := b) (by simpa using h1) (by simpa using h2) (fun s hs => h3 s (List.mem_cons_of_mem _ hs))
    have hs : 0 < s := h3 s (List.mem_cons_self ..)
    have e : (fOp oMod (fCb oInt (fCons (fOp oAdd (fOp oSub (fVar 3) (fVar 4)) (fVar 5)) fNil)) (fVar 5)) [X, Y, Z, .d (.int x), .d (.int y), .d (.int s)] = some (.val (.int ((x - y) % s))) := by
      show (match oIc cMod (fun i j => PyData.int (i % j)) (.int (x - y + s)) (.int s) with | some z => some (Ou.val z) | none => none) = _
      simp [oIc, cMod, hs]
    have e0 : sTup 3 (sCons (sName 3) (sCons (sName 4) (sCons (sName 5) sNil))) (.tuple [.int x, .int y, .int s]) [X, Y, Z, .un, .un, .un] = some [X, Y, Z, .d (.int x), .d (.int y), .d (.int s)] := rfl
    simp only [List.map_cons, zipT3, takeP]
    unfold lcGo
    rw [e0]; dsimp only [fC]
    rw [if_pos rfl, e, ih]
theorem lless_v (hn : n ∈ fewD) (h1 : a.length = n.length) (h2 : b.length = n.length) : f__law_less [dI n, dI a, dI b] = some (.val (dI (takeP n a b))) := by
  refine (guard_of rfl).trans (bodyD_rt (fRet_val ?_))
  rw [fCb_one (fLc_of (as := zipT3 (a.map PyData.int) (b.map .int) (n.map .int)) rfl (zipT3_small (by have := few_l4 hn; omega)) (lless_go _ _ _ h1 h2 (few_pos hn)))]
  rfl
end
end Mv
namespace Mv
open PySem L2 Evl
theorem addP_assoc : ∀ (n a b c : List Int), addP n (addP n a b) c = addP n a (addP n b c)
  | [], _, _, _ => rfl
  | s :: n, [], _, _ => rfl
  | s :: n, x :: a, [], _ => rfl
  | s :: n, x :: a, y :: b, [] => rfl
  | s :: n, x :: a, y :: b, z :: c => by
    show ((((x + y) % s) + z) % s) :: addP n (addP n a b) c = ((x + ((y + z) % s)) % s) :: addP n a (addP n b c)
    rw [addP_assoc n a b c, Int.emod_add_emod, Int.add_emod_emod, Int.add_assoc]
end Mv
namespace Mv
open PySem L2
section
variable {n : List Int}
end
end Mv
namespace Mv
open PySem L2
section
variable {n : List Int}
instance assocP (n : List Int) : Std.Associative (addP n) := ⟨addP_assoc n⟩
instance commP (n : List Int) : Std.Commutative (addP n) := ⟨addP_comm n⟩
end
end Mv
namespace Mv
open PySem L2 Evl
section
variable {n a b c p q x y z h : List Int} {W W' A B S L : Rows}
def stepsR (n : List Int) : Rows → Rows
  | a :: b :: l => takeP n b a :: stepsR n (b :: l)
  | _ => []
theorem stepsR_zip : ∀ W : Rows, (W.zip (W.drop 1)).map (fun q => takeP n q.2 q.1) = stepsR n W
  | [] => rfl
  | [_] => rfl
  | a :: b :: l => by
    have := stepsR_zip (b :: l)
    show takeP n b a :: ((b :: l).zip ((b :: l).drop 1)).map (fun q => takeP n q.2 q.1) = _
    rw [this]; rfl
theorem stepsR_len : ∀ W : Rows, (stepsR n W).length = W.length - 1
  | [] => rfl
  | [_] => rfl
  | a :: b :: l => by
    have := stepsR_len (b :: l)
    show (stepsR n (b :: l)).length + 1 = _
    rw [this]; simp
theorem stepsR_app : ∀ (A : Rows) (x y : List Int) (B : Rows), stepsR n ((A ++ [x]) ++ y :: B) = stepsR n (A ++ [x]) ++ takeP n y x :: stepsR n (y :: B)
  | [], x, y, B => rfl
  | [a], x, y, B => rfl
  | a :: a2 :: A, x, y, B => by
    have := stepsR_app (a2 :: A) x y B
    show takeP n a2 a :: stepsR n (((a2 :: A) ++ [x]) ++ y :: B) = _
    rw [this]; rfl
theorem stepsR_mem : ∀ {W : Rows} {s : List Int}, s ∈ stepsR n W → ∃ u v, u ∈ W ∧ v ∈ W ∧ s = takeP n v u
  | [], s, h => by cases h
  | [_], s, h => by cases h
  | a :: b :: l, s, h => by
    rcases (List.mem_cons.mp h) with rfl | h
    · exact ⟨a, b, List.mem_cons_self .., List.mem_cons_of_mem _ (List.mem_cons_self ..), rfl⟩
    · obtain ⟨u, v, h1, h2, e⟩ := stepsR_mem (W := b :: l) h
      exact ⟨u, v, List.mem_cons_of_mem _ h1, List.mem_cons_of_mem _ h2, e⟩
theorem add_zero_in : ∀ {n a : List Int}, InP a n → addP n a (zeros n) = a
  | _, _, .nil => rfl
  | _, _, .cons (x := x) (s := s) h1 h2 h => by
    show ((x + 0) % s) :: _ = _
    rw [Int.add_zero, Int.emod_eq_of_lt h1 h2]
    exact congrArg _ (add_zero_in h)
theorem take_zero_eq (ia : InP a n) (ib : InP b n) (e : takeP n b a = zeros n) : b = a := by
  have h1 := add_take ia ib
  rw [e, add_zero_in ia] at h1
  exact h1.symm
theorem steps_in (h : ∀ p ∈ W, InP p n) : ∀ s ∈ stepsR n W, InP s n := fun s hs => by
  obtain ⟨u, v, h1, h2, rfl⟩ := stepsR_mem hs
  exact takeP_inP (h v h2) (h u h1)
structure PreOk (n : List Int) (W : Rows) : Prop where
  inn : ∀ p ∈ W, p ∈ placesOf n
  nd : W.Nodup
  z : ∃ l, W = zeros n :: l
  sd : (stepsR n W).Nodup
theorem PreOk.ip (hn : n ∈ fewD) (o : PreOk n W) : ∀ p ∈ W, InP p n := fun p hp => few_inP hn (o.inn p hp)
theorem PreOk.snoc (hn : n ∈ fewD) (o : PreOk n W) {x : List Int} (hp : p ∈ placesOf n) (h1 : p ∉ W) (hx : W.getLast? = some x) (h2 : takeP n p x ∉ stepsR n W) : PreOk n (W ++ [p]) := by
  refine ⟨fun q hq => ?_, ?_, ?_, ?_⟩
  · rcases List.mem_append.mp hq with h | h
    · exact o.inn q h
    · rw [List.mem_singleton.mp h]; exact hp
  · rw [List.nodup_append]
    exact ⟨o.nd, by simp, fun a ha b hb => fun e => h1 (by rw [List.mem_singleton.mp hb] at e; exact e ▸ ha)⟩
  · obtain ⟨l, e⟩ := o.z
    exact ⟨l ++ [p], by rw [e]; rfl⟩
  · obtain ⟨A, rfl⟩ : ∃ A, W = A ++ [x] := by
      have ne : W ≠ [] := fun z => by rw [z] at hx; cases hx
      refine ⟨W.dropLast, ?_⟩
      have := List.dropLast_concat_getLast ne
      rw [List.getLast?_eq_getLast ne] at hx
      cases hx
      exact this.symm
    have e := stepsR_app (n := n) A x p []
    rw [e]
    rw [List.nodup_append]
    refine ⟨o.sd, by show (takeP n p x :: []).Nodup; simp, fun a ha b hb => fun e => h2 ?_⟩
    have : b = takeP n p x := by
      rcases (List.mem_cons.mp hb) with h | h
      · exact h
      · cases h
    rw [← this, ← e]; exact ha
theorem PreOk.take (o : PreOk n W) {k : Nat} (hk : 1 ≤ k) : PreOk n (W.take k) := by
  obtain ⟨l, e⟩ := o.z
  refine ⟨fun p hp => o.inn p (List.mem_of_mem_take hp), o.nd.sublist (List.take_sublist ..), ?_, ?_⟩
  · obtain ⟨j, rfl⟩ : ∃ j, k = j + 1 := ⟨k - 1, by omega⟩
    exact ⟨l.take j, by rw [e]; rfl⟩
  · have : ∀ (W : Rows) (k : Nat), stepsR n (W.take k) = (stepsR n W).take (k - 1) := fun W => by
      induction W with
      | nil => intro k; simp [stepsR]
      | cons a l ih =>
        intro k
        match l, k with
        | [], 0 => rfl
        | [], k + 1 => simp [stepsR]
        | b :: l, 0 => rfl
        | b :: l, 1 => rfl
        | b :: l, k + 2 =>
          have := ih (k + 1)
          show takeP n b a :: stepsR n ((b :: l).take (k + 1)) = (takeP n b a :: stepsR n (b :: l)).take (k + 1)
          rw [this]; rfl
    rw [this]
    exact o.sd.sublist (List.take_sublist ..)
end
end Mv
namespace Mv
open PySem L2 Evl
def grownF (n : List Int) (fit : Rows → List Int → Bool) (len : Nat) : Nat → Rows → List Rows
  | 0, _ => []
  | k + 1, W => if W.length = len then [W] else (placesOf n).flatMap fun p => if fit W p = true then grownF n fit len k (W ++ [p]) else []
section
variable {n a b c p q x y z h : List Int} {W W' A B S L : Rows}
theorem flatMap_le {α β : Type} (P : α → Bool) (f : α → List β) (M : Nat) : ∀ l : List α, (∀ x ∈ l, P x = true → (f x).length ≤ M) → (∀ x ∈ l, P x = false → f x = []) → (l.flatMap f).length ≤ (l.filter P).length * M
  | [], _, _ => by simp
  | x :: l, h1, h2 => by
    have ih := flatMap_le P f M l (fun y hy => h1 y (List.mem_cons_of_mem _ hy)) (fun y hy => h2 y (List.mem_cons_of_mem _ hy))
    rw [List.flatMap_cons, List.length_append, List.filter_cons]
    cases e : P x with
    | true =>
      have := h1 x (List.mem_cons_self ..) e
      rw [if_pos rfl, List.length_cons, Nat.add_mul, Nat.one_mul]; omega
    | false =>
      rw [h2 x (List.mem_cons_self ..) e, if_neg (by decide)]; simpa using ih
theorem free_lenR : ∀ {P W : Rows}, P.Nodup → W.Nodup → (∀ w ∈ W, w ∈ P) → (P.filter fun p => decide (p ∉ W)).length + W.length = P.length := by
  intro P W hP hW h
  have e1 : (P.filter fun p => decide (p ∉ W)).length + (P.filter fun p => decide (p ∈ W)).length = P.length := by
    have : ∀ P : Rows, (P.filter fun p => decide (p ∉ W)).length + (P.filter fun p => decide (p ∈ W)).length = P.length := fun P => by
      induction P with
      | nil => rfl
      | cons x P ih =>
        (rw [List.filter_cons, List.filter_cons])
        by_cases e : x ∈ W
        · rw [decide_eq_false (fun z => z e), decide_eq_true e, if_neg (by decide), if_pos rfl, List.length_cons, List.length_cons]; omega
        · rw [decide_eq_true e, decide_eq_false e, if_pos rfl, if_neg (by decide), List.length_cons, List.length_cons]; omega
    exact this P
  have e2 : (P.filter fun p => decide (p ∈ W)).Perm W := by
    refine (List.perm_ext_iff_of_nodup (hP.filter _) hW).mpr fun q => ?_
    rw [List.mem_filter, decide_eq_true_eq]
    exact ⟨fun z => z.2, fun z => ⟨h q z, z⟩⟩
  rw [← e2.length_eq]; exact e1
def factN : Nat → Nat
  | 0 => 1
  | k + 1 => (k + 1) * factN k
theorem fact_pos : ∀ k, 1 ≤ factN k
  | 0 => Nat.le_refl _
  | k + 1 => Nat.le_trans (fact_pos k) (Nat.le_mul_of_pos_left _ (Nat.succ_pos k))
theorem grown_le {fit : Rows → List Int → Bool} {len : Nat} (hP : (placesOf n).Nodup) (hf : ∀ W p, fit W p = true → p ∉ W) : ∀ (k : Nat) (W : Rows), W.Nodup → (∀ w ∈ W, w ∈ placesOf n) → (grownF n fit len k W).length ≤ factN ((placesOf n).length - W.length)
  | 0, W, _, _ => Nat.zero_le _
  | k + 1, W, nd, inn => by
    unfold grownF
    by_cases e : W.length = len
    · rw [if_pos e]; exact fact_pos _
    · rw [if_neg e]
      have fl := free_lenR hP nd inn
      have ih : ∀ x ∈ placesOf n, decide (x ∉ W) = true → ((if fit W x = true then grownF n fit len k (W ++ [x]) else []) : List Rows).length ≤ factN ((placesOf n).length - (W.length + 1)) := fun x hx hd => by
        by_cases z : fit W x = true
        · rw [if_pos z]
          have := grown_le (fit := fit) (len := len) hP hf k (W ++ [x]) (List.nodup_append.mpr ⟨nd, List.nodup_cons.mpr ⟨List.not_mem_nil, List.nodup_nil⟩, fun a ha b hb e => by rw [List.mem_singleton.mp hb] at e; exact (of_decide_eq_true hd) (e ▸ ha)⟩) (fun w hw => by
            rcases List.mem_append.mp hw with h | h
            · exact inn w h
            · rw [List.mem_singleton.mp h]; exact hx)
          rwa [List.length_append] at this
        · rw [if_neg z]; exact Nat.zero_le _
      have := flatMap_le (fun x => decide (x ∉ W)) (fun p => if fit W p = true then grownF n fit len k (W ++ [p]) else []) _ (placesOf n) ih (fun x _ hd => by
        rw [if_neg (fun z => (of_decide_eq_false hd) (hf W x z))])
      refine Nat.le_trans this ?_
      have h2 : (List.filter (fun x => decide (x ∉ W)) (placesOf n)).length = (placesOf n).length - W.length := by omega
      rw [h2]
      cases h3 : (placesOf n).length - W.length with
      | zero => rw [Nat.zero_mul]; exact Nat.zero_le _
      | succ m =>
        have : (placesOf n).length - (W.length + 1) = m := by omega
        rw [this]; exact Nat.le_refl _
structure KindsOk (n : List Int) (B : Bg) (kd : List Int → List Int) (cap : List Int → Int) (L0 : Cn) : Prop where
  at_ : ∀ s ∈ placesOf n, s ≠ zeros n → atKeyB B s = some (s, kd s)
  l0 : ∀ s ∈ placesOf n, s ≠ zeros n → cnt L0 (kd s) = some (cap (kd s))
def LeftOk (n : List Int) (kd : List Int → List Int) (cap : List Int → Int) (L : Cn) (W : Rows) : Prop := ∀ s ∈ placesOf n, s ≠ zeros n → cnt L (kd s) = some (cap (kd s) - (((stepsR n W).map kd).count (kd s) : Nat))
def fitK (n : List Int) (kd : List Int → List Int) (cap : List Int → Int) (W : Rows) (p : List Int) : Bool := decide (p ∉ W) && (match W.getLast? with
  | some l => decide ((((stepsR n W).map kd).count (kd (takeP n p l)) : Int) < cap (kd (takeP n p l)))
  | none => false)
theorem stepsR_snoc {x : List Int} : ∀ {W : Rows}, W.getLast? = some x → stepsR n (W ++ [p]) = stepsR n W ++ [takeP n p x]
  | [], h => by cases h
  | [a], h => by cases h; rfl
  | a :: b :: l, h => by
    have := stepsR_snoc (W := b :: l) (x := x) (by rw [List.getLast?_cons_cons] at h; exact h)
    show takeP n b a :: stepsR n ((b :: l) ++ [p]) = _
    rw [this]; rfl
theorem cnt_setN {k k2 : List Int} {c : Int} : ∀ {L : Cn}, k2 ≠ k → cnt (setN L k c) k2 = cnt L k2
  | [], _ => rfl
  | q :: L, h => by
    unfold cnt setN
    rw [List.map_cons, List.find?_cons, List.find?_cons]
    by_cases e : q.1 = k
    · have e2 : ¬ q.1 = k2 := fun z => h (by rw [← z]; exact e)
      rw [if_pos e]
      dsimp only
      rw [decide_eq_false e2]
      dsimp only
      have := cnt_setN (L := L) (c := c) h
      unfold cnt setN at this; exact this
    · rw [if_neg e]
      by_cases e2 : q.1 = k2
      · rw [decide_eq_true e2]
      · rw [decide_eq_false e2]
        have := cnt_setN (L := L) (c := c) h
        unfold cnt setN at this; exact this
theorem goS_grown (hn : n ∈ fewD) {B : Bg} {kd : List Int → List Int} {cap : List Int → Int} {L0 : Cn} (ko : KindsOk n B kd cap L0) {len : Nat} {most : Int} : ∀ (k : Nat) (W : Rows) (L : Cn) (F : List Rows), W.Nodup → (∀ w ∈ W, w ∈ placesOf n) → W ≠ [] → W.length ≤ len → len + 1 ≤ W.length + k → LeftOk n kd cap L W →
    ((F.length + (grownF n (fitK n kd cap) len k W).length : Nat) : Int) ≤ most → goS n B (len : Int) most k W L F = some (F ++ grownF n (fitK n kd cap) len k W)
  | 0, W, L, F, _, _, _, h1, h2, _, _ => by omega
  | k + 1, W, L, F, nd, inn, ne, h1, h2, lo, hm => by
    unfold goS grownF
    unfold grownF at hm
    by_cases e : W.length = len
    · rw [if_pos e, if_pos (by rw [e])]
    · rw [if_neg e, if_neg (by omega)]
      rw [if_neg e] at hm
      obtain ⟨x, hx⟩ : ∃ x, W.getLast? = some x := by
        cases z : W.getLast? with
        | none => exact (ne (List.getLast?_eq_none_iff.mp z)).elim
        | some x => exact ⟨x, rfl⟩
      have xin : x ∈ W := List.mem_of_getLast? hx
      have go : ∀ (ps : Rows) (F : List Rows), (∀ p ∈ ps, p ∈ placesOf n) → ((F.length + (ps.flatMap fun p => if fitK n kd cap W p = true then grownF n (fitK n kd cap) len k (W ++ [p]) else []).length : Nat) : Int) ≤ most →
          ps.foldlM (stepS (goS n B (len : Int) most k) n B most W L) F = some (F ++ ps.flatMap fun p => if fitK n kd cap W p = true then grownF n (fitK n kd cap) len k (W ++ [p]) else []) := by
        intro ps
        induction ps with
        | nil => intro F _ _; simp
        | cons p ps ih =>
          intro F hp hb
          rw [List.flatMap_cons] at hb ⊢
          rw [List.foldlM_cons]
          have pin := hp p (List.mem_cons_self ..)
          have hp2 := fun q hq => hp q (List.mem_cons_of_mem _ hq)
          have step : stepS (goS n B (len : Int) most k) n B most W L F p = some (F ++ (if fitK n kd cap W p = true then grownF n (fitK n kd cap) len k (W ++ [p]) else [])) := by
            unfold stepS
            by_cases hpW : p ∈ W
            · rw [if_neg (fun z => z.1 hpW)]
              have : fitK n kd cap W p = false := by unfold fitK; rw [decide_eq_false (fun z => z hpW)]; rfl
              rw [this, if_neg (by decide), List.append_nil]
            · have sne : takeP n p x ≠ zeros n := fun z => hpW (by rw [take_zero_eq (few_inP hn (inn x xin)) (few_inP hn pin) z]; exact xin)
              have sin : takeP n p x ∈ placesOf n := by
                have := steps_in (n := n) (W := [x, p]) (fun q hq => by
                  rcases (List.mem_cons.mp hq) with rfl | hq
                  · exact few_inP hn (inn q xin)
                  · rw [List.mem_singleton.mp hq]; exact few_inP hn pin) (takeP n p x) (by show takeP n p x ∈ [takeP n p x]; exact List.mem_singleton.mpr rfl)
                exact this.mem
              have hc := lo _ sin sne
              have ef : fitK n kd cap W p = decide ((((stepsR n W).map kd).count (kd (takeP n p x)) : Int) < cap (kd (takeP n p x))) := by
                unfold fitK; rw [hx, decide_eq_true hpW]; rfl
              by_cases hF : (F.length : Int) < most
              · rw [if_pos ⟨hpW, hF⟩, hx]
                dsimp only
                rw [ko.at_ _ sin sne]
                dsimp only
                rw [hc]
                dsimp only
                rw [ef]
                by_cases hlt : ((((stepsR n W).map kd).count (kd (takeP n p x)) : Nat) : Int) < cap (kd (takeP n p x))
                · rw [if_pos (by omega), decide_eq_true hlt, if_pos rfl]
                  rw [ef, decide_eq_true hlt, if_pos rfl] at hb
                  refine goS_grown hn ko k (W ++ [p]) _ F ?_ ?_ (by simp) (by rw [List.length_append]; simp; omega) (by rw [List.length_append]; simp; omega) ?_ (by rw [List.length_append] at hb; omega)
                  · exact List.nodup_append.mpr ⟨nd, List.nodup_cons.mpr ⟨List.not_mem_nil, List.nodup_nil⟩, fun a ha b hb e => by rw [List.mem_singleton.mp hb] at e; exact hpW (e ▸ ha)⟩
                  · intro w hw
                    rcases List.mem_append.mp hw with h | h
                    · exact inn w h
                    · rw [List.mem_singleton.mp h]; exact pin
                  · intro s hs hsz
                    rw [stepsR_snoc hx, List.map_append, List.count_append]
                    by_cases es : kd s = kd (takeP n p x)
                    · rw [es, cnt_set hc]
                      have : [takeP n p x].map kd = [kd (takeP n p x)] := rfl
                      rw [this, List.count_singleton_self]
                      congr 1
                      omega
                    · rw [cnt_setN es, lo s hs hsz]
                      have : ([takeP n p x].map kd).count (kd s) = 0 := List.count_eq_zero.mpr fun z => es (List.mem_singleton.mp z)
                      rw [this]; rfl
                · rw [if_neg (by omega), decide_eq_false hlt, if_neg (by decide), List.append_nil]
              · rw [if_neg (fun z => hF z.2)]
                rw [List.length_append] at hb
                have : (if fitK n kd cap W p = true then grownF n (fitK n kd cap) len k (W ++ [p]) else []) = [] := List.length_eq_zero_iff.mp (by omega)
                rw [this, List.append_nil]
          rw [step]
          show List.foldlM _ _ ps = _
          rw [ih _ hp2 (by rw [List.length_append] at hb ⊢; omega), List.append_assoc]
      exact go (placesOf n) F (fun p hp => hp) hm
end
end Mv
namespace Mv
open PySem L2 Evl
section
variable {n p : List Int} {P R L M : Rows} {k : Nat} {Γ : En}
theorem flat_tRs : ∀ L : List Rows, flatDs (L.map dT) = true
  | [] => rfl
  | p :: L => by rw [List.map_cons, flatDs, flat_dT, flat_tRs L]; rfl
theorem lay_tRs : ∀ L : List Rows, PyData.canLayAll0 (L.map dT) = true
  | [] => by simp [PyData.canLayAll0]
  | p :: L => by rw [List.map_cons, PyData.canLayAll0, lay_dT, lay_tRs L]; rfl
theorem dep_tRs : ∀ L : List Rows, PyData.depthAll (L.map dT) ≤ 3
  | [] => by simp [PyData.depthAll]
  | p :: L => by rw [List.map_cons, PyData.depthAll]; have := dep_dT p; have := dep_tRs L; omega
theorem shaped_tRs (L : List Rows) : SeqAt.shaped (.list (L.map dT)) = true := by
  unfold SeqAt.shaped; rw [PyData.canLay0, lay_tRs, PyData.depth]; have := dep_tRs L; simp; omega
theorem fine_tRs (L : List Rows) : fine (.list (L.map dT)) = true := by
  unfold fine; rw [shaped_tRs, show flatD (.list (L.map dT)) = true from flat_tRs L]; rfl
theorem eqv_tRs : ∀ P Q : List Rows, PyData.eqvAll (P.map dT) (Q.map dT) = decide (P = Q)
  | [], [] => rfl
  | [], _ :: _ => by simp [PyData.eqvAll]
  | _ :: _, [] => by simp [PyData.eqvAll]
  | p :: P, q :: Q => by
    rw [List.map_cons, List.map_cons, PyData.eqvAll, eqv_dT, eqv_tRs P Q]
    by_cases h1 : p = q
    · by_cases h2 : P = Q
      · simp [h1, h2]
      · simp [h1, h2]
    · simp [h1]
theorem neRR_v (F G : List Rows) : oNe (.list (F.map dT)) (.list (G.map dT)) = some (.bool (!decide (F = G))) := by
  unfold oNe
  rw [if_pos (by rw [fine_tRs, fine_tRs]; rfl)]
  show some (PyData.bool (!PyData.eqvAll (F.map dT) (G.map dT))) = _
  rw [eqv_tRs]
end
end Mv
namespace Mv
open PySem L2 Evl
section
variable {n p a b h u : List Int} {W A B P : Rows} {Γ : En} {T : Int} {post : D → Int → Prop}
theorem lsteps_v (hn : n ∈ fewD) (hW : ∀ p ∈ W, p ∈ placesOf n) (h : W.length ≤ 1000) : f__law_steps [dI n, dT W] = some (.val (dL (stepsR n W))) := by
  have hz : (W.zip (W.drop 1)).length ≤ 1000000 := by rw [List.length_zip]; omega
  have hp := flc_map (src := iZ2 false false (fCons (fVar 1) (fCons (fSl false (fVar 1) (pSome (fC (.int 1))) pNone) fNil))) (st := sTup 2 (sCons (sName 2) (sCons (sName 3) sNil))) (ft := fC (.bool true)) (fe := fCall0 f__law_less (fCons (fVar 0) (fCons (fVar 3) (fCons (fVar 2) fNil)))) (vs := [2, 3])
    (Γ := [.d (dI n), .d (dT W), .un, .un]) (fun q : List Int × List Int => .tuple [dI q.1, dI q.2]) (fun q => dI (takeP n q.2 q.1)) (W.zip (W.drop 1))
    (by
      have h1 : fSl false (fVar 1) (pSome (fC (.int 1))) pNone [.d (dI n), .d (dT W), .un, .un] = some (.val (.tuple (W.tail.map dI))) := by rw [slT_v (ds := W.map dI) rfl, tail_map]
      simp only [iZ2, guardN, bodyD, fSeq, fAsg, fAsgM, fApp, fRet, fRetN, fDrop, fIfS, fNext, fRaise, fIf, fAnd, fOr, fNot, fT, bo, bnd, bndA, rB, fCall0, noEx, fCall, fCallP, permL, fCons, fNil, fTup, fLst, lim, fCb, ret, fOp, fUn, fVar, fC, fIsi, fIsiLT, isLT, fChain, fLk, fLkB, fLkM, fRevL, fSet2, fFrz, lockL, lockG, lkC, sName, sTup, sCons, sNil, wipeC, List.map_cons, List.map_nil, List.replicate_succ, List.replicate_zero, List.cons_append, List.nil_append, List.getElem?_cons_zero, List.getElem?_cons_succ, List.set_cons_zero, List.set_cons_succ, List.length_cons, List.length_nil, Nat.beq_refl, Nat.reduceAdd, Nat.reduceLeDiff, Nat.reduceEqDiff, Nat.zero_add, if_true, if_false, Bool.false_eq_true, reduceIte, Bool.not_true, Bool.not_false, small_few0, small_few1, small_few2, small_few3, h1]
      rw [List.drop_one, ← zipPl]; rfl) hz fun q hq => by
      refine ⟨[.d (dI n), .d (dT W), .d (dI q.1), .d (dI q.2)], rfl, rfl, ?_⟩
      obtain ⟨m1, m2⟩ := List.of_mem_zip (a := q.1) (b := q.2) hq
      have a1 := lless_v hn (in_len hn (hW _ (List.mem_of_mem_drop m2))) (in_len hn (hW _ m1))
      simp only [guardN, bodyD, fSeq, fAsg, fAsgM, fApp, fRet, fRetN, fDrop, fIfS, fNext, fRaise, fIf, fAnd, fOr, fNot, fT, bo, bnd, bndA, rB, fCall0, noEx, fCall, fCallP, permL, fCons, fNil, fTup, fLst, lim, fCb, ret, fOp, fUn, fVar, fC, fIsi, fIsiLT, isLT, fChain, fLk, fLkB, fLkM, fRevL, fSet2, fFrz, lockL, lockG, lkC, sName, sTup, sCons, sNil, wipeC, List.map_cons, List.map_nil, List.replicate_succ, List.replicate_zero, List.cons_append, List.nil_append, List.getElem?_cons_zero, List.getElem?_cons_succ, List.set_cons_zero, List.set_cons_succ, List.length_cons, List.length_nil, Nat.beq_refl, Nat.reduceAdd, Nat.reduceLeDiff, Nat.reduceEqDiff, Nat.zero_add, if_true, if_false, Bool.false_eq_true, reduceIte, Bool.not_true, Bool.not_false, small_few0, small_few1, small_few2, small_few3, a1]
  rw [show (W.zip (W.drop 1)).map (fun q => dI (takeP n q.2 q.1)) = (stepsR n W).map dI from by rw [← stepsR_zip, List.map_map]; rfl] at hp
  simp only [f__law_steps, b__law_steps, guardN, bodyD, fSeq, fAsg, fAsgM, fApp, fRet, fRetN, fDrop, fIfS, fNext, fRaise, fIf, fAnd, fOr, fNot, fT, bo, bnd, bndA, rB, fCall0, noEx, fCall, fCallP, permL, fCons, fNil, fTup, fLst, lim, fCb, ret, fOp, fUn, fVar, fC, fIsi, fIsiLT, isLT, fChain, fLk, fLkB, fLkM, fRevL, fSet2, fFrz, lockL, lockG, lkC, sName, sTup, sCons, sNil, wipeC, List.map_cons, List.map_nil, List.replicate_succ, List.replicate_zero, List.cons_append, List.nil_append, List.getElem?_cons_zero, List.getElem?_cons_succ, List.set_cons_zero, List.set_cons_succ, List.length_cons, List.length_nil, Nat.beq_refl, Nat.reduceAdd, Nat.reduceLeDiff, Nat.reduceEqDiff, Nat.zero_add, if_true, if_false, Bool.false_eq_true, reduceIte, Bool.not_true, Bool.not_false, small_few0, small_few1, small_few2, small_few3, hp]
  rfl
theorem lastT_v (ne : W ≠ []) : oIxT (dT W) (.int (-1)) = some (dI (W.getLast ne)) := ix_lastT (List.getLast?_eq_getLast ne)
theorem take_flat_le {α β : Type} (f : α → List β) : ∀ (l : List α) (i : Nat), ((l.take i).flatMap f).length ≤ (l.flatMap f).length
  | [], i => by simp
  | x :: l, 0 => by simp
  | x :: l, i + 1 => by
    have := take_flat_le f l i
    rw [List.take_succ_cons, List.flatMap_cons, List.flatMap_cons, List.length_append, List.length_append]; omega
theorem lgrown_v (hn : n ∈ fewD) (pr : (prod n : Int) = ((placesOf n).length : Nat)) (h8 : (placesOf n).length ≤ 8) {fair : Bool} {fit : Rows → List Int → Bool} (hfit : ∀ (W : Rows) p, (∀ q ∈ W, q ∈ placesOf n) → W ≠ [] → W.length ≤ 24 → p ∈ placesOf n → f__law_fits [dI n, dT W, dI p, .bool fair] = some (.val (.bool (fit W p)))) (hf : ∀ W p, fit W p = true → p ∉ W) :
    ∀ (k : Nat) (W : Rows), W.Nodup → (∀ q ∈ W, q ∈ placesOf n) → W ≠ [] → W.length ≤ (placesOf n).length → (placesOf n).length + 1 ≤ W.length + k → f__law_grown_ k [dI n, dT W, .bool fair] = some (.val (.list ((grownF n fit (placesOf n).length k W).map dT)))
  | 0, W, _, _, _, h1, h2 => by omega
  | k + 1, W, nd, inn, ne, h1, h2 => by
    have h0 := lcount_v hn
    have h3 : oLen [dT W] = some (.int (W.length : Nat)) := lenT_v W
    have e : oEqA (.int (W.length : Nat)) (.int (prod n)) = some (.bool (decide (W.length = (placesOf n).length))) := by
      rw [pr]
      show some (PyData.bool (decide (((W.length : Nat) : Int) = ((placesOf n).length : Nat)))) = _
      congr 2
      exact (decide_eq_decide.mpr (by omega))
    have hPn : (placesOf n).Nodup := few_nodup hn
    unfold grownF
    by_cases z : W.length = (placesOf n).length
    · rw [decide_eq_true z] at e
      rw [if_pos z]
      simp only [f__law_grown_, b__law_grown, guardN, bodyD, fSeq, fAsg, fAsgM, fApp, fRet, fRetN, fDrop, fIfS, fNext, fRaise, fIf, fAnd, fOr, fNot, fT, bo, bnd, bndA, rB, fCall0, noEx, fCall, fCallP, permL, fCons, fNil, fTup, fLst, lim, fCb, ret, fOp, fUn, fVar, fC, fIsi, fIsiLT, isLT, fChain, fLk, fLkB, fLkM, fRevL, fSet2, fFrz, lockL, lockG, lkC, sName, sTup, sCons, sNil, wipeC, List.map_cons, List.map_nil, List.replicate_succ, List.replicate_zero, List.cons_append, List.nil_append, List.getElem?_cons_zero, List.getElem?_cons_succ, List.set_cons_zero, List.set_cons_succ, List.length_cons, List.length_nil, Nat.beq_refl, Nat.reduceAdd, Nat.reduceLeDiff, Nat.reduceEqDiff, Nat.zero_add, if_true, if_false, Bool.false_eq_true, reduceIte, Bool.not_true, Bool.not_false, small_few0, small_few1, small_few2, small_few3, h0, h3, e]
    · rw [decide_eq_false z] at e
      rw [if_neg z]
      have hb : ∀ F : List Rows, ((placesOf n).flatMap fun p => if fit W p = true then grownF n fit (placesOf n).length k (W ++ [p]) else []).length ≤ 100000 := fun _ => by
        have := grown_le (len := (placesOf n).length) hPn hf (k + 1) W nd inn
        unfold grownF at this
        rw [if_neg z] at this
        have f8 : ∀ m, m ≤ 8 → factN m ≤ 100000 := by decide
        exact Nat.le_trans this (f8 _ (by omega))
      have hle : ∀ i, (((placesOf n).take i).flatMap fun p => if fit W p = true then grownF n fit (placesOf n).length k (W ++ [p]) else []).length ≤ 100000 := fun i => by
        exact Nat.le_trans (take_flat_le _ _ i) (hb [])
      have h5 := lplaces_v hn
      obtain ⟨Γ', h4, ⟨c, rfl⟩⟩ := for_inv (st := sName 4) (body := fIfS (fT (fCall0 f__law_fits (fCons (fVar 0) (fCons (fVar 1) (fCons (fVar 4) (fCons (fVar 2) fNil)))))) (fAsg (fOp oCat (fVar 3) (fCall0 (f__law_grown_ k) (fCons (fVar 0) (fCons (fOp oCatT (fVar 1) (fTup (fCons (fVar 4) fNil))) (fCons (fVar 2) fNil))))) (sName 3)) fNext)
        (fun i Γ => ∃ c, Γ = [.d (dI n), .d (dT W), .d (.bool fair), .d (.list ((((placesOf n).take i).flatMap fun p => if fit W p = true then grownF n fit (placesOf n).length k (W ++ [p]) else []).map dT)), c]) ((placesOf n).map dI) 0 [.d (dI n), .d (dT W), .d (.bool fair), .d (.list []), .un] ⟨.un, rfl⟩ fun i a Γ ha ⟨c, e⟩ => by
          subst e
          rw [List.getElem?_map] at ha
          obtain ⟨q, hq, rfl⟩ := Option.map_eq_some_iff.mp ha
          have qin := List.mem_of_getElem? hq
          have e1 := hfit W q inn ne (by omega) qin
          have tk : (placesOf n).take (0 + i + 1) = (placesOf n).take (0 + i) ++ [q] := by rw [Nat.zero_add]; exact take_more hq
          refine ⟨_, rfl, ?_⟩
          by_cases zf : fit W q = true
          · have nq := hf W q zf
            have ih := lgrown_v hn pr h8 hfit hf k (W ++ [q]) (List.nodup_append.mpr ⟨nd, List.nodup_cons.mpr ⟨List.not_mem_nil, List.nodup_nil⟩, fun a ha b hb e => by rw [List.mem_singleton.mp hb] at e; exact nq (e ▸ ha)⟩) (fun w hw => by
              rcases List.mem_append.mp hw with h | h
              · exact inn w h
              · rw [List.mem_singleton.mp h]; exact qin) (by simp) (by rw [List.length_append]; simp; omega) (by rw [List.length_append]; simp; omega)
            have ct : oCatT (dT W) (.tuple [dI q]) = some (dT (W ++ [q])) := by
              show (if small ((W.map dI).length + 1) = true then some (PyData.tuple (W.map dI ++ [dI q])) else none) = _
              rw [if_pos (show small _ = true from Nat.ble_eq_true_of_le (by rw [List.length_map]; omega))]
              unfold dT; rw [List.map_append]; rfl
            have cc : oCat (.list ((((placesOf n).take (0 + i)).flatMap fun p => if fit W p = true then grownF n fit (placesOf n).length k (W ++ [p]) else []).map dT)) (.list ((grownF n fit (placesOf n).length k (W ++ [q])).map dT)) = some (.list ((((placesOf n).take (0 + i)).flatMap fun p => if fit W p = true then grownF n fit (placesOf n).length k (W ++ [p]) else []).map dT ++ (grownF n fit (placesOf n).length k (W ++ [q])).map dT)) := by
              show (if small _ = true then _ else none) = _
              have cl := hle (0 + i + 1)
              rw [tk, List.flatMap_append, List.length_append, List.flatMap_singleton, if_pos zf] at cl
              rw [if_pos (show small _ = true from Nat.ble_eq_true_of_le (by simp only [List.length_map]; omega))]
            rw [Nat.zero_add] at cc
            refine ⟨_, ?_, ⟨.d (dI q), by rw [tk, List.flatMap_append, List.flatMap_singleton, if_pos zf, List.map_append]⟩⟩
            rw [zf] at e1
            simp only [guardN, bodyD, fSeq, fAsg, fAsgM, fApp, fRet, fRetN, fDrop, fIfS, fNext, fRaise, fIf, fAnd, fOr, fNot, fT, bo, bnd, bndA, rB, fCall0, noEx, fCall, fCallP, permL, fCons, fNil, fTup, fLst, lim, fCb, ret, fOp, fUn, fVar, fC, fIsi, fIsiLT, isLT, fChain, fLk, fLkB, fLkM, fRevL, fSet2, fFrz, lockL, lockG, lkC, sName, sTup, sCons, sNil, wipeC, List.map_cons, List.map_nil, List.replicate_succ, List.replicate_zero, List.cons_append, List.nil_append, List.getElem?_cons_zero, List.getElem?_cons_succ, List.set_cons_zero, List.set_cons_succ, List.length_cons, List.length_nil, Nat.beq_refl, Nat.reduceAdd, Nat.reduceLeDiff, Nat.reduceEqDiff, Nat.zero_add, if_true, if_false, Bool.false_eq_true, reduceIte, Bool.not_true, Bool.not_false, small_few0, small_few1, small_few2, small_few3, e1, ct, ih, cc]
          · have zf' : fit W q = false := by cases h : fit W q with | true => exact (zf h).elim | false => rfl
            rw [zf'] at e1
            refine ⟨_, ?_, ⟨.d (dI q), by rw [tk, List.flatMap_append, List.flatMap_singleton, if_neg zf, List.append_nil]⟩⟩
            simp only [guardN, bodyD, fSeq, fAsg, fAsgM, fApp, fRet, fRetN, fDrop, fIfS, fNext, fRaise, fIf, fAnd, fOr, fNot, fT, bo, bnd, bndA, rB, fCall0, noEx, fCall, fCallP, permL, fCons, fNil, fTup, fLst, lim, fCb, ret, fOp, fUn, fVar, fC, fIsi, fIsiLT, isLT, fChain, fLk, fLkB, fLkM, fRevL, fSet2, fFrz, lockL, lockG, lkC, sName, sTup, sCons, sNil, wipeC, List.map_cons, List.map_nil, List.replicate_succ, List.replicate_zero, List.cons_append, List.nil_append, List.getElem?_cons_zero, List.getElem?_cons_succ, List.set_cons_zero, List.set_cons_succ, List.length_cons, List.length_nil, Nat.beq_refl, Nat.reduceAdd, Nat.reduceLeDiff, Nat.reduceEqDiff, Nat.zero_add, if_true, if_false, Bool.false_eq_true, reduceIte, Bool.not_true, Bool.not_false, small_few0, small_few1, small_few2, small_few3, e1]
      rw [List.length_map, Nat.zero_add, List.take_length] at h4
      have h6 : fFor (iL (fCall0 f__law_places (fCons (fVar 0) fNil))) (sName 4) (fIfS (fT (fCall0 f__law_fits (fCons (fVar 0) (fCons (fVar 1) (fCons (fVar 4) (fCons (fVar 2) fNil)))))) (fAsg (fOp oCat (fVar 3) (fCall0 (f__law_grown_ k) (fCons (fVar 0) (fCons (fOp oCatT (fVar 1) (fTup (fCons (fVar 4) fNil))) (fCons (fVar 2) fNil))))) (sName 3)) fNext) [.d (dI n), .d (dT W), .d (.bool fair), .d (.list []), .un] = some (.nx [.d (dI n), .d (dT W), .d (.bool fair), .d (.list (((placesOf n).flatMap fun p => if fit W p = true then grownF n fit (placesOf n).length k (W ++ [p]) else []).map dT)), c]) := by
        have h7 : iL (fCall0 f__law_places (fCons (fVar 0) fNil)) [.d (dI n), .d (dT W), .d (.bool fair), .d (.list []), .un] = some (.vals ((placesOf n).map dI)) := by
          simp only [iL, guardN, bodyD, fSeq, fAsg, fAsgM, fApp, fRet, fRetN, fDrop, fIfS, fNext, fRaise, fIf, fAnd, fOr, fNot, fT, bo, bnd, bndA, rB, fCall0, noEx, fCall, fCallP, permL, fCons, fNil, fTup, fLst, lim, fCb, ret, fOp, fUn, fVar, fC, fIsi, fIsiLT, isLT, fChain, fLk, fLkB, fLkM, fRevL, fSet2, fFrz, lockL, lockG, lkC, sName, sTup, sCons, sNil, wipeC, List.map_cons, List.map_nil, List.replicate_succ, List.replicate_zero, List.cons_append, List.nil_append, List.getElem?_cons_zero, List.getElem?_cons_succ, List.set_cons_zero, List.set_cons_succ, List.length_cons, List.length_nil, Nat.beq_refl, Nat.reduceAdd, Nat.reduceLeDiff, Nat.reduceEqDiff, Nat.zero_add, if_true, if_false, Bool.false_eq_true, reduceIte, Bool.not_true, Bool.not_false, small_few0, small_few1, small_few2, small_few3, h5]; rfl
        unfold fFor
        rw [h7]
        exact h4
      simp only [f__law_grown_, b__law_grown, guardN, bodyD, fSeq, fAsg, fAsgM, fApp, fRet, fRetN, fDrop, fIfS, fNext, fRaise, fIf, fAnd, fOr, fNot, fT, bo, bnd, bndA, rB, fCall0, noEx, fCall, fCallP, permL, fCons, fNil, fTup, fLst, lim, fCb, ret, fOp, fUn, fVar, fC, fIsi, fIsiLT, isLT, fChain, fLk, fLkB, fLkM, fRevL, fSet2, fFrz, lockL, lockG, lkC, sName, sTup, sCons, sNil, wipeC, List.map_cons, List.map_nil, List.replicate_succ, List.replicate_zero, List.cons_append, List.nil_append, List.getElem?_cons_zero, List.getElem?_cons_succ, List.set_cons_zero, List.set_cons_succ, List.length_cons, List.length_nil, Nat.beq_refl, Nat.reduceAdd, Nat.reduceLeDiff, Nat.reduceEqDiff, Nat.zero_add, if_true, if_false, Bool.false_eq_true, reduceIte, Bool.not_true, Bool.not_false, small_few0, small_few1, small_few2, small_few3, h0, h3, e, h6]
end
end Mv
namespace Mv
open PySem L2 Evl
section
variable {n p a b h u : List Int} {W A B P : Rows} {Γ : En} {T : Int} {post : D → Int → Prop}
def restP (n : List Int) : Rows := (placesOf n).drop 1
theorem sr_head : (fewD.all fun n => decide (placesOf n = zeros n :: restP n) && decide (prod n = ((placesOf n).length : Nat)) && decide (2 ≤ (placesOf n).length)) = true := by decide +kernel
theorem sr_rest (hn : n ∈ fewD) : placesOf n = zeros n :: restP n := by
  have h := List.all_eq_true.mp sr_head n hn
  simp only [Bool.and_eq_true, decide_eq_true_eq] at h
  exact h.1.1
theorem sr_prod (hn : n ∈ fewD) : prod n = ((placesOf n).length : Nat) := by
  have h := List.all_eq_true.mp sr_head n hn
  simp only [Bool.and_eq_true, decide_eq_true_eq] at h
  exact h.1.2
theorem sr_two (hn : n ∈ fewD) : 2 ≤ (placesOf n).length := by
  have h := List.all_eq_true.mp sr_head n hn
  simp only [Bool.and_eq_true, decide_eq_true_eq] at h
  exact h.2
theorem rest_mem (hn : n ∈ fewD) (hp : p ∈ placesOf n) (hz : p ≠ zeros n) : p ∈ restP n := by
  rw [sr_rest hn] at hp
  rcases List.mem_cons.mp hp with h | h
  · exact (hz h).elim
  · exact h
theorem at_mapB (f : List Int → List Int) {s : List Int} : ∀ {P : Rows}, s ∈ P → atKeyB (P.map fun p => (p, f p)) s = some (s, f s)
  | x :: P, h => by
    unfold atKeyB
    rw [List.map_cons, List.find?_cons]
    by_cases e : x = s
    · rw [decide_eq_true e, e]
    · rw [decide_eq_false e]
      rcases (List.mem_cons.mp h) with z | z
      · exact (e z.symm).elim
      · exact at_mapB f z
theorem cnt_mapL (f : List Int → Int) {s : List Int} : ∀ {P : Rows}, s ∈ P → cnt (P.map fun p => (p, f p)) s = some (f s)
  | x :: P, h => by
    unfold cnt
    rw [List.map_cons, List.find?_cons]
    by_cases e : x = s
    · rw [decide_eq_true e, e]; rfl
    · rw [decide_eq_false e]
      rcases (List.mem_cons.mp h) with z | z
      · exact (e z.symm).elim
      · have := cnt_mapL f z
        unfold cnt at this; exact this
theorem cnOf_encN (L : Cn) : cnOf (dctD (encN L)) = some L := by
  have h : ∀ L : Cn, cnI (encN L) = some L := fun L => by
    induction L with
    | nil => rfl
    | cons q L ih =>
      show (match keyR (kI q.1), PyData.int q.2, cnI (encN L) with | some p, .int m, some r => some ((p, m) :: r) | _, _, _ => none) = _
      rw [keyR_kI, ih]
  unfold cnOf
  rw [dctOf_dctD]; exact h L
theorem first_v {B : Bg} {L : Cn} {kd : List Int → List Int} {cap : List Int → Int} {len : Nat} {most : Int} (hn : n ∈ fewD) (hB : f_count_each [dL (B.map (·.2))] = some (.val (dctD (encN L)))) (nd : (L.map (·.1)).Nodup) (ne : ∀ q ∈ L, q.1 ≠ []) (hL : L.length < 1000) (ko : KindsOk n B kd cap L) (h1 : 1 ≤ len) (h16 : len ≤ 16)
    (hm : ((grownF n (fitK n kd cap) len 16 [zeros n]).length : Int) ≤ most) (hb : (grownF n (fitK n kd cap) len 16 [zeros n]).length ≤ 1000000) : f_first_routes [dI n, .int (len : Nat), dctD (enc B), .int most] = some (.val (.list ((grownF n (fitK n kd cap) len 16 [zeros n]).map dT))) := by
  have hz : zeros n ∈ placesOf n := by rw [sr_rest hn]; exact List.mem_cons_self ..
  have g := goS_grown hn ko (len := len) (most := most) 16 [zeros n] L [] (List.nodup_cons.mpr ⟨List.not_mem_nil, List.nodup_nil⟩) (fun w hw => by rw [List.mem_singleton.mp hw]; exact hz) (by simp) h1 (by simp; omega) (fun s hs hsz => by
    rw [ko.l0 s hs hsz]
    show some (cap (kd s)) = some (cap (kd s) - (((([] : Rows)).map kd).count (kd s) : Nat))
    simp) (by simpa using hm)
  rw [List.nil_append] at g
  have hc : cnB n L = true := by
    unfold cnB
    simp only [Bool.and_eq_true, decide_eq_true_eq, List.all_eq_true]
    exact ⟨⟨⟨hn, nd⟩, fun q hq => by
      have := ne q hq
      cases h : q.1 with
      | nil => exact (this h).elim
      | cons _ _ => rfl⟩, hL⟩
  show firstR f_count_each _ = _
  unfold firstR
  dsimp only
  rw [rowI_dI, bgOf_enc]
  dsimp only
  rw [hB]
  dsimp only
  rw [cnOf_encN]
  dsimp only
  unfold findS
  rw [if_pos hc, g]
  dsimp only
  rw [if_pos hb]
def isBg (r : Re) (B : Bg) : Bool := match r with
  | some (.val d) => decide (bgOf d = some B)
  | _ => false
theorem isBg_eq {r : Re} {B : Bg} (h : isBg r B = true) : r = some (.val (dctD (enc B))) := by
  unfold isBg at h
  split at h
  · rw [bgOf_some (of_decide_eq_true h)]
  · cases h
def isCn (r : Re) (L : Cn) : Bool := match r with
  | some (.val d) => decide (cnOf d = some L)
  | _ => false
theorem isCn_eq {r : Re} {L : Cn} (h : isCn r L = true) : r = some (.val (dctD (encN L))) := by
  unfold isCn at h
  split at h
  · rw [cnOf_some (of_decide_eq_true h)]
  · cases h
theorem fitK_new {kd : List Int → List Int} {cap : List Int → Int} (W : Rows) (p : List Int) (h : fitK n kd cap W p = true) : p ∉ W := by
  unfold fitK at h
  rw [Bool.and_eq_true] at h
  exact of_decide_eq_true h.1
theorem grown_fuel {fit : Rows → List Int → Bool} {len : Nat} : ∀ (k j : Nat) (W : Rows), W.length ≤ len → len + 1 ≤ W.length + k → len + 1 ≤ W.length + j → grownF n fit len k W = grownF n fit len j W
  | 0, j, W, h0, h1, _ => by omega
  | k + 1, 0, W, h0, _, h2 => by omega
  | k + 1, j + 1, W, h0, h1, h2 => by
    unfold grownF
    by_cases z : W.length = len
    · rw [if_pos z, if_pos z]
    · rw [if_neg z, if_neg z]
      congr 1
      funext p
      by_cases f : fit W p = true
      · rw [if_pos f, if_pos f]
        exact grown_fuel k j (W ++ [p]) (by rw [List.length_append]; simp; omega) (by rw [List.length_append]; simp; omega) (by rw [List.length_append]; simp; omega)
      · rw [if_neg f, if_neg f]
theorem grown_few (hn : n ∈ fewD) (h8 : (placesOf n).length ≤ 8) {fit : Rows → List Int → Bool} (hf : ∀ W p, fit W p = true → p ∉ W) (len k : Nat) : (grownF n fit len k [zeros n]).length ≤ 5040 := by
  have hz : zeros n ∈ placesOf n := by rw [sr_rest hn]; exact List.mem_cons_self ..
  refine Nat.le_trans (grown_le (few_nodup hn) hf k [zeros n] (List.nodup_cons.mpr ⟨List.not_mem_nil, List.nodup_nil⟩) (fun w hw => by rw [List.mem_singleton.mp hw]; exact hz)) ?_
  have : ∀ m, m ≤ 7 → factN m ≤ 5040 := by decide
  exact this _ (by simp; omega)
end
end Mv
namespace Mv
open PySem L2 Evl
section
variable {n p a b h u : List Int} {W V A B P R : Rows} {Γ : En} {T : Int} {post : D → Int → Prop}
theorem few_anyd : (match f__law_all_dials [] with | some (.val (.list xs)) => (match rowsOf xs with | some R => (R.all fun n => fewD.contains n) && (fewD.all fun n => R.contains n) | none => false) && Nat.ble xs.length 1000 | _ => false) = true := by decide +kernel
theorem wany_g {lo hi : Int} (hx : ∃ n ∈ fewD, lo ≤ prod n ∧ prod n ≤ hi) (hT : T < 1000000000000) (h : ∀ n, n ∈ fewD → lo ≤ prod n → prod n ≤ hi → post (dI n) (T + 1)) : W__law_any_dials [.int lo, .int hi] T post := by
  refine bodyW_of rfl fun s => ?_
  have h0 := few_anyd
  split at h0
  · rename_i xs ex
    rw [Bool.and_eq_true] at h0
    obtain ⟨h1, h3⟩ := h0
    split at h1
    · rename_i R eR
      have exs := rows_of eR
      subst exs
      rw [Bool.and_eq_true] at h1
      obtain ⟨h1, h4⟩ := h1
      have inR : ∀ n ∈ R, n ∈ fewD := fun n hn => List.contains_iff_mem.mp (List.all_eq_true.mp h1 n hn)
      rw [List.length_map] at h3
      have l2 := Nat.le_of_ble_eq_true h3
      unfold F__law_any_dials
      have hf := flc_of (src := iL (fCall0 f__law_all_dials fNil)) (st := sName 3) (ft := fT (fChain oLe oLe (fVar 1) (fCall0 f__law_count (fCons (fVar 3) fNil)) (fVar 2))) (fe := fVar 3) (vs := [3]) (Γ := [.fx (.ref s), .d (.int lo), .d (.int hi), .un]) dI (fun n => decide (lo ≤ prod n ∧ prod n ≤ hi)) dI R (by
        have : fCall0 f__law_all_dials fNil [.fx (.ref s), .d (.int lo), .d (.int hi), .un] = some (.val (.list (R.map dI))) := by simp only [guardN, bodyD, fSeq, fAsg, fAsgM, fApp, fRet, fRetN, fDrop, fIfS, fNext, fRaise, fIf, fAnd, fOr, fNot, fT, bo, bnd, bndA, rB, fCall0, noEx, fCall, fCallP, permL, fCons, fNil, fTup, fLst, lim, fCb, ret, fOp, fUn, fVar, fC, fIsi, fIsiLT, isLT, fChain, fLk, fLkB, fLkM, fRevL, fSet2, fFrz, lockL, lockG, lkC, sName, sTup, sCons, sNil, wipeC, List.map_cons, List.map_nil, List.replicate_succ, List.replicate_zero, List.cons_append, List.nil_append, List.getElem?_cons_zero, List.getElem?_cons_succ, List.set_cons_zero, List.set_cons_succ, List.length_cons, List.length_nil, Nat.beq_refl, Nat.reduceAdd, Nat.reduceLeDiff, Nat.reduceEqDiff, Nat.zero_add, if_true, if_false, Bool.false_eq_true, reduceIte, Bool.not_true, Bool.not_false, small_few0, small_few1, small_few2, small_few3, ex]
        simp only [iL, this]) (by omega) fun m hm => by
          refine ⟨[.fx (.ref s), .d (.int lo), .d (.int hi), .d (dI m)], rfl, ?_, fun _ => rfl⟩
          have c1 := lcount_v (inR m hm)
          have e1 : oLe (.int lo) (.int (prod m)) = some (.bool (decide (lo ≤ prod m))) := rfl
          have e2 : oLe (.int (prod m)) (.int hi) = some (.bool (decide (prod m ≤ hi))) := rfl
          by_cases z1 : lo ≤ prod m
          · by_cases z2 : prod m ≤ hi
            · rw [decide_eq_true z1] at e1
              rw [decide_eq_true z2] at e2
              rw [decide_eq_true ⟨z1, z2⟩]
              simp only [guardN, bodyD, fSeq, fAsg, fAsgM, fApp, fRet, fRetN, fDrop, fIfS, fNext, fRaise, fIf, fAnd, fOr, fNot, fT, bo, bnd, bndA, rB, fCall0, noEx, fCall, fCallP, permL, fCons, fNil, fTup, fLst, lim, fCb, ret, fOp, fUn, fVar, fC, fIsi, fIsiLT, isLT, fChain, fLk, fLkB, fLkM, fRevL, fSet2, fFrz, lockL, lockG, lkC, sName, sTup, sCons, sNil, wipeC, List.map_cons, List.map_nil, List.replicate_succ, List.replicate_zero, List.cons_append, List.nil_append, List.getElem?_cons_zero, List.getElem?_cons_succ, List.set_cons_zero, List.set_cons_succ, List.length_cons, List.length_nil, Nat.beq_refl, Nat.reduceAdd, Nat.reduceLeDiff, Nat.reduceEqDiff, Nat.zero_add, if_true, if_false, Bool.false_eq_true, reduceIte, Bool.not_true, Bool.not_false, small_few0, small_few1, small_few2, small_few3, fChain, c1, e1, e2]
            · rw [decide_eq_true z1] at e1
              rw [decide_eq_false z2] at e2
              rw [decide_eq_false (fun h => z2 h.2)]
              simp only [guardN, bodyD, fSeq, fAsg, fAsgM, fApp, fRet, fRetN, fDrop, fIfS, fNext, fRaise, fIf, fAnd, fOr, fNot, fT, bo, bnd, bndA, rB, fCall0, noEx, fCall, fCallP, permL, fCons, fNil, fTup, fLst, lim, fCb, ret, fOp, fUn, fVar, fC, fIsi, fIsiLT, isLT, fChain, fLk, fLkB, fLkM, fRevL, fSet2, fFrz, lockL, lockG, lkC, sName, sTup, sCons, sNil, wipeC, List.map_cons, List.map_nil, List.replicate_succ, List.replicate_zero, List.cons_append, List.nil_append, List.getElem?_cons_zero, List.getElem?_cons_succ, List.set_cons_zero, List.set_cons_succ, List.length_cons, List.length_nil, Nat.beq_refl, Nat.reduceAdd, Nat.reduceLeDiff, Nat.reduceEqDiff, Nat.zero_add, if_true, if_false, Bool.false_eq_true, reduceIte, Bool.not_true, Bool.not_false, small_few0, small_few1, small_few2, small_few3, fChain, c1, e1, e2]
          · rw [decide_eq_false z1] at e1
            rw [decide_eq_false (fun h => z1 h.1)]
            simp only [guardN, bodyD, fSeq, fAsg, fAsgM, fApp, fRet, fRetN, fDrop, fIfS, fNext, fRaise, fIf, fAnd, fOr, fNot, fT, bo, bnd, bndA, rB, fCall0, noEx, fCall, fCallP, permL, fCons, fNil, fTup, fLst, lim, fCb, ret, fOp, fUn, fVar, fC, fIsi, fIsiLT, isLT, fChain, fLk, fLkB, fLkM, fRevL, fSet2, fFrz, lockL, lockG, lkC, sName, sTup, sCons, sNil, wipeC, List.map_cons, List.map_nil, List.replicate_succ, List.replicate_zero, List.cons_append, List.nil_append, List.getElem?_cons_zero, List.getElem?_cons_succ, List.set_cons_zero, List.set_cons_succ, List.length_cons, List.length_nil, Nat.beq_refl, Nat.reduceAdd, Nat.reduceLeDiff, Nat.reduceEqDiff, Nat.zero_add, if_true, if_false, Bool.false_eq_true, reduceIte, Bool.not_true, Bool.not_false, small_few0, small_few1, small_few2, small_few3, fChain, c1, e1]
      obtain ⟨S, eS⟩ : ∃ S, S = R.filter fun n => decide (lo ≤ prod n ∧ prod n ≤ hi) := ⟨_, rfl⟩
      rw [← eS] at hf
      have lS : S.length ≤ 1000 := by rw [eS]; exact Nat.le_trans (List.length_filter_le _ _) l2
      refine wRet_of (wDraw_of (wCons_of (pw_of (d := .list (S.map dI)) hf (wNil_of (wpick_v (fun e => ?_) (by rw [List.length_map]; omega) hT fun d hd => ?_)))))
      · obtain ⟨m, hm, h5⟩ := hx
        have : m ∈ S := by
          rw [eS, List.mem_filter]
          exact ⟨List.contains_iff_mem.mp (List.all_eq_true.mp h4 m hm), decide_eq_true h5⟩
        rw [List.map_eq_nil_iff.mp e] at this; cases this
      · obtain ⟨m, hm, rfl⟩ := List.mem_map.mp hd
        rw [eS, List.mem_filter] at hm
        have := of_decide_eq_true hm.2
        exact h m (inR m hm.1) this.1 this.2
    · cases h1
  · cases h0
theorem gtI_v (i j : Int) : oGt (.int i) (.int j) = some (.bool (decide (j < i))) := rfl
theorem atMost_ok (hn : n ∈ fewD) {m : Int} (h : prod n ≤ m) : f_check_at_most [dI n, .int m] = some (.val .none) := by
  have h1 := count_v hn
  have h2 := gtI_v (prod n) m
  rw [decide_eq_false (by omega)] at h2
  simp only [f_check_at_most, b_check_at_most, guardN, bodyD, fSeq, fAsg, fAsgM, fApp, fRet, fRetN, fDrop, fIfS, fNext, fRaise, fIf, fAnd, fOr, fNot, fT, bo, bnd, bndA, rB, fCall0, noEx, fCall, fCallP, permL, fCons, fNil, fTup, fLst, lim, fCb, ret, fOp, fUn, fVar, fC, fIsi, fIsiLT, isLT, fChain, fLk, fLkB, fLkM, fRevL, fSet2, fFrz, lockL, lockG, lkC, sName, sTup, sCons, sNil, wipeC, List.map_cons, List.map_nil, List.replicate_succ, List.replicate_zero, List.cons_append, List.nil_append, List.getElem?_cons_zero, List.getElem?_cons_succ, List.set_cons_zero, List.set_cons_succ, List.length_cons, List.length_nil, Nat.beq_refl, Nat.reduceAdd, Nat.reduceLeDiff, Nat.reduceEqDiff, Nat.zero_add, if_true, if_false, Bool.false_eq_true, reduceIte, Bool.not_true, Bool.not_false, small_few0, small_few1, small_few2, small_few3, h1, h2]
theorem atMost_bad (hn : n ∈ fewD) {m : Int} {x : Str} (hx : tmName m = some x) (h : m < prod n) : f_check_at_most [dI n, .int m] = some (.exc x) := by
  have h1 := count_v hn
  have h2 := gtI_v (prod n) m
  rw [decide_eq_true h] at h2
  simp only [f_check_at_most, b_check_at_most, guardN, bodyD, fSeq, fAsg, fAsgM, fApp, fRet, fRetN, fDrop, fIfS, fNext, fRaise, fIf, fAnd, fOr, fNot, fT, bo, bnd, bndA, rB, fCall0, noEx, fCall, fCallP, permL, fCons, fNil, fTup, fLst, lim, fCb, ret, fOp, fUn, fVar, fC, fIsi, fIsiLT, isLT, fChain, fLk, fLkB, fLkM, fRevL, fSet2, fFrz, lockL, lockG, lkC, sName, sTup, sCons, sNil, wipeC, List.map_cons, List.map_nil, List.replicate_succ, List.replicate_zero, List.cons_append, List.nil_append, List.getElem?_cons_zero, List.getElem?_cons_succ, List.set_cons_zero, List.set_cons_succ, List.length_cons, List.length_nil, Nat.beq_refl, Nat.reduceAdd, Nat.reduceLeDiff, Nat.reduceEqDiff, Nat.zero_add, if_true, if_false, Bool.false_eq_true, reduceIte, Bool.not_true, Bool.not_false, small_few0, small_few1, small_few2, small_few3, h1, h2, fRaiseM, hx]
end
end Mv
namespace Mv
open PySem L2 Evl
section
variable {n p a b h u : List Int} {W V A B P R : Rows} {Γ : En} {T : Int} {post : D → Int → Prop}
def negP (n p : List Int) : List Int := takeP n (zeros n) p
def kdT (n p : List Int) : List Int := if HT.lexLt (negP n p) p = true then negP n p else p
def capT (n p : List Int) : Int := if addP n p p = zeros n then 1 else 2
def dedupF : Rows → Rows → Rows
  | acc, [] => acc
  | acc, x :: l => if acc.contains x then dedupF acc l else dedupF (acc ++ [x]) l
def twosB (n : List Int) : Bg := (restP n).map fun p => (p, kdT n p)
def kindsT (n : List Int) : Rows := dedupF [] ((restP n).map (kdT n))
def twosL (n : List Int) : Cn := (kindsT n).map fun k => (k, capT n k)
theorem few_twos : (fewD.all fun n => isBg (f_kinds_by_twos [dI n]) (twosB n)) = true := by decide +kernel
theorem few_twosC : (fewD.all fun n => isCn (f_count_each [dL ((twosB n).map (·.2))]) (twosL n)) = true := by decide +kernel
theorem few_kinds : (fewD.all fun n => decide (kindsT n).Nodup && (kindsT n).all (fun k => !k.isEmpty) && Nat.ble (kindsT n).length 24 && (restP n).all (fun s => (kindsT n).contains (kdT n s) && decide (capT n (kdT n s) = capT n s))) = true := by decide +kernel
theorem twos_v (hn : n ∈ fewD) : f_kinds_by_twos [dI n] = some (.val (dctD (enc (twosB n)))) := isBg_eq (List.all_eq_true.mp few_twos n hn)
theorem twosCnt_v (hn : n ∈ fewD) : f_count_each [dL ((twosB n).map (·.2))] = some (.val (dctD (encN (twosL n)))) := isCn_eq (List.all_eq_true.mp few_twosC n hn)
structure KindsT (n : List Int) : Prop where
  nd : (kindsT n).Nodup
  ne : ∀ k ∈ kindsT n, k ≠ []
  len : (kindsT n).length ≤ 24
  has : ∀ s ∈ restP n, kdT n s ∈ kindsT n
  cap : ∀ s ∈ restP n, capT n (kdT n s) = capT n s
theorem kindsT_ok (hn : n ∈ fewD) : KindsT n := by
  have h := List.all_eq_true.mp few_kinds n hn
  simp only [Bool.and_eq_true, decide_eq_true_eq, List.all_eq_true] at h
  obtain ⟨⟨⟨h1, h2⟩, h3⟩, h4⟩ := (h)
  exact ⟨h1, fun k hk z => (by have := h2 k hk; rw [z] at this; cases this), Nat.le_of_ble_eq_true h3, fun s hs => List.contains_iff_mem.mp (h4 s hs).1, fun s hs => (h4 s hs).2⟩
theorem twos_ok (hn : n ∈ fewD) : KindsOk n (twosB n) (kdT n) (capT n) (twosL n) :=
  ⟨fun s hs hz => at_mapB (kdT n) (rest_mem hn hs hz), fun s hs hz => cnt_mapL (capT n) ((kindsT_ok hn).has s (rest_mem hn hs hz))⟩
theorem fairs_v (hn : n ∈ fewD) (h8 : (placesOf n).length ≤ 8) : f_all_fair [dI n] = some (.val (.list ((grownF n (fitK n (kdT n) (capT n)) (placesOf n).length 16 [zeros n]).map dT))) := by
  have pr := sr_prod hn
  have two := sr_two hn
  have gl := grown_few hn h8 (fit := fitK n (kdT n) (capT n)) (fun W p h => fitK_new W p h) (placesOf n).length 16
  have K := kindsT_ok hn
  have nd : ((twosL n).map (·.1)).Nodup := by
    show (((kindsT n).map fun p => ((p, capT n p) : List Int × Int)).map (·.1)).Nodup
    rw [List.map_map, show ((fun q : List Int × Int => q.1) ∘ fun p => ((p, capT n p) : List Int × Int)) = (fun p => p) from rfl, List.map_id']
    exact K.nd
  have h := first_v (most := 999999999) (len := (placesOf n).length) hn (twosCnt_v hn) nd (fun q hq => by
    obtain ⟨p, hp, rfl⟩ := (List.mem_map.mp hq)
    exact K.ne p hp) (by
      show ((kindsT n).map _).length < 1000
      rw [List.length_map]; have := K.len; omega) (twos_ok hn) (by omega) (by omega) (by omega) (by omega)
  have c3 := count_v hn
  rw [pr] at c3
  have c4 := twos_v hn
  have c5 : f_all_routes [dI n, .int ((placesOf n).length : Nat), dctD (enc (twosB n))] = some (.val (.list ((grownF n (fitK n (kdT n) (capT n)) (placesOf n).length 16 [zeros n]).map dT))) := by simp only [f_all_routes, b_all_routes, guardN, bodyD, fSeq, fAsg, fAsgM, fApp, fRet, fRetN, fDrop, fIfS, fNext, fRaise, fIf, fAnd, fOr, fNot, fT, bo, bnd, bndA, rB, fCall0, noEx, fCall, fCallP, permL, fCons, fNil, fTup, fLst, lim, fCb, ret, fOp, fUn, fVar, fC, fIsi, fIsiLT, isLT, fChain, fLk, fLkB, fLkM, fRevL, fSet2, fFrz, lockL, lockG, lkC, sName, sTup, sCons, sNil, wipeC, List.map_cons, List.map_nil, List.replicate_succ, List.replicate_zero, List.cons_append, List.nil_append, List.getElem?_cons_zero, List.getElem?_cons_succ, List.set_cons_zero, List.set_cons_succ, List.length_cons, List.length_nil, Nat.beq_refl, Nat.reduceAdd, Nat.reduceLeDiff, Nat.reduceEqDiff, Nat.zero_add, if_true, if_false, Bool.false_eq_true, reduceIte, Bool.not_true, Bool.not_false, small_few0, small_few1, small_few2, small_few3, h]
  simp only [f_all_fair, b_all_fair, guardN, bodyD, fSeq, fAsg, fAsgM, fApp, fRet, fRetN, fDrop, fIfS, fNext, fRaise, fIf, fAnd, fOr, fNot, fT, bo, bnd, bndA, rB, fCall0, noEx, fCall, fCallP, permL, fCons, fNil, fTup, fLst, lim, fCb, ret, fOp, fUn, fVar, fC, fIsi, fIsiLT, isLT, fChain, fLk, fLkB, fLkM, fRevL, fSet2, fFrz, lockL, lockG, lkC, sName, sTup, sCons, sNil, wipeC, List.map_cons, List.map_nil, List.replicate_succ, List.replicate_zero, List.cons_append, List.nil_append, List.getElem?_cons_zero, List.getElem?_cons_succ, List.set_cons_zero, List.set_cons_succ, List.length_cons, List.length_nil, Nat.beq_refl, Nat.reduceAdd, Nat.reduceLeDiff, Nat.reduceEqDiff, Nat.zero_add, if_true, if_false, Bool.false_eq_true, reduceIte, Bool.not_true, Bool.not_false, small_few0, small_few1, small_few2, small_few3, c3, c4, c5]
theorem minOk_dI {x y : Int} {p q : List Int} : minOk [dI (x :: p), dI (y :: q)] = true := by
  unfold minOk
  have h1 : flatDs [dI (x :: p), dI (y :: q)] = true := flat_rows [x :: p, y :: q]
  rw [h1]
  have h2 : (([dI (x :: p), dI (y :: q)] : List D).all fun d => ([dI (x :: p), dI (y :: q)] : List D).all fun e => PySem.W.alike d e) = true := by
    refine List.all_eq_true.mpr fun d hd => List.all_eq_true.mpr fun e he => ?_
    obtain ⟨d', rfl⟩ : ∃ d', d = dI d' := by
      rcases (List.mem_cons.mp hd) with rfl | hd
      · exact ⟨_, rfl⟩
      · rw [List.mem_singleton.mp hd]; exact ⟨_, rfl⟩
    obtain ⟨e', rfl⟩ : ∃ e', e = dI e' := by
      rcases (List.mem_cons.mp he) with rfl | he
      · exact ⟨_, rfl⟩
      · rw [List.mem_singleton.mp he]; exact ⟨_, rfl⟩
    exact alike_dI d' e'
  rw [h2]
  have h3 := dep_rows [x :: p, y :: q]
  have h4 : Nat.ble (PyData.depthAll [dI (x :: p), dI (y :: q)]) 60 = true := Nat.ble_eq_true_of_le (by
    have : PyData.depthAll ([x :: p, y :: q].map dI) = PyData.depthAll [dI (x :: p), dI (y :: q)] := rfl
    omega)
  rw [h4]; rfl
theorem lkind_v (hn : n ∈ fewD) {s : List Int} (hs : s ∈ placesOf n) : f__law_kind [dI n, dI s] = some (.val (dI (kdT n s))) := by
  have h1 := lnothing_v hn
  have hz : zeros n ∈ placesOf n := by rw [sr_rest hn]; exact List.mem_cons_self ..
  have h2 := lless_v hn (in_len hn hz) (in_len hn hs)
  have l1 := in_len hn hs
  have l2 := few_l1 hn
  have l3 : (takeP n (zeros n) s).length = n.length := (takeP_in (in_len hn hz) (in_len hn hs) (few_pos hn)).len
  have e : oMin2T [dI s, dI (takeP n (zeros n) s)] = some (dI (kdT n s)) := by
    obtain ⟨x, s', rfl⟩ : ∃ x s', s = x :: s' := by
      cases s with
      | nil => rw [List.length_nil] at l1; omega
      | cons x s' => exact ⟨x, s', rfl⟩
    obtain ⟨y, t', et⟩ : ∃ y t', takeP n (zeros n) (x :: s') = y :: t' := by
      cases h : takeP n (zeros n) (x :: s') with
      | nil => rw [h, List.length_nil] at l3; omega
      | cons y t' => exact ⟨y, t', rfl⟩
    unfold kdT negP
    rw [et]
    show (if minOk [dI (x :: s'), dI (y :: t')] = true then some (if PySem.W.dataLt (dI (y :: t')) (dI (x :: s')) = true then dI (y :: t') else dI (x :: s')) else none) = _
    rw [if_pos minOk_dI, ← lex_is]
    split <;> rfl
  simp only [f__law_kind, b__law_kind, guardN, bodyD, fSeq, fAsg, fAsgM, fApp, fRet, fRetN, fDrop, fIfS, fNext, fRaise, fIf, fAnd, fOr, fNot, fT, bo, bnd, bndA, rB, fCall0, noEx, fCall, fCallP, permL, fCons, fNil, fTup, fLst, lim, fCb, ret, fOp, fUn, fVar, fC, fIsi, fIsiLT, isLT, fChain, fLk, fLkB, fLkM, fRevL, fSet2, fFrz, lockL, lockG, lkC, sName, sTup, sCons, sNil, wipeC, List.map_cons, List.map_nil, List.replicate_succ, List.replicate_zero, List.cons_append, List.nil_append, List.getElem?_cons_zero, List.getElem?_cons_succ, List.set_cons_zero, List.set_cons_succ, List.length_cons, List.length_nil, Nat.beq_refl, Nat.reduceAdd, Nat.reduceLeDiff, Nat.reduceEqDiff, Nat.zero_add, if_true, if_false, Bool.false_eq_true, reduceIte, Bool.not_true, Bool.not_false, small_few0, small_few1, small_few2, small_few3, h1, h2, e]
theorem lshare_v (hn : n ∈ fewD) {s : List Int} (hs : s ∈ placesOf n) : f__law_share [dI n, dI s] = some (.val (.int (capT n s))) := by
  have h1 := lnothing_v hn
  have h2 := lplus_v hn (in_len hn hs) (in_len hn hs)
  have h3 : oEq (dI (addP n s s)) (dI (zeros n)) = some (.bool (decide (addP n s s = zeros n))) := eq_v _ _
  simp only [f__law_share, b__law_share, guardN, bodyD, fSeq, fAsg, fAsgM, fApp, fRet, fRetN, fDrop, fIfS, fNext, fRaise, fIf, fAnd, fOr, fNot, fT, bo, bnd, bndA, rB, fCall0, noEx, fCall, fCallP, permL, fCons, fNil, fTup, fLst, lim, fCb, ret, fOp, fUn, fVar, fC, fIsi, fIsiLT, isLT, fChain, fLk, fLkB, fLkM, fRevL, fSet2, fFrz, lockL, lockG, lkC, sName, sTup, sCons, sNil, wipeC, List.map_cons, List.map_nil, List.replicate_succ, List.replicate_zero, List.cons_append, List.nil_append, List.getElem?_cons_zero, List.getElem?_cons_succ, List.set_cons_zero, List.set_cons_succ, List.length_cons, List.length_nil, Nat.beq_refl, Nat.reduceAdd, Nat.reduceLeDiff, Nat.reduceEqDiff, Nat.zero_add, if_true, if_false, Bool.false_eq_true, reduceIte, Bool.not_true, Bool.not_false, small_few0, small_few1, small_few2, small_few3, h1, h2, h3]
  unfold capT
  by_cases z : addP n s s = zeros n
  · rw [decide_eq_true z, if_pos z]; rfl
  · rw [decide_eq_false z, if_neg z]; rfl
theorem idxB_rows (P : Rows) (p : List Int) : idxB (P.map dI) (dI p) = true := by
  unfold idxB
  rw [show SeqAt.shaped (.list (P.map dI)) = true from shaped_rowsL P, shaped_dI, flat_dI, flat_rows]; rfl
theorem countP_rows (p : List Int) : ∀ P : Rows, (P.map dI).countP (fun y => PyData.eqv y (dI p)) = P.count p
  | [] => rfl
  | q :: P => by
    have e : PyData.eqv (dI q) (dI p) = decide (q = p) := by
      have := any_rows [q] p
      simpa using this
    rw [List.map_cons, List.countP_cons, countP_rows p P, List.count_cons, e]
    by_cases z : q = p
    · rw [decide_eq_true z, if_pos rfl, if_pos (by rw [z]; exact beq_self_eq_true _)]
    · rw [decide_eq_false z, if_neg (by decide), if_neg (fun h => z (beq_iff_eq.mp h))]
theorem fairFits_v (hn : n ∈ fewD) {p : List Int} (hW : ∀ q ∈ W, q ∈ placesOf n) (hl : W.length ≤ 1000) (ne : W ≠ []) (hp : p ∈ placesOf n) : f__law_fits [dI n, dT W, dI p, .bool true] = some (.val (.bool (fitK n (kdT n) (capT n) W p))) := by
  have h1 := inT_v W p false
  have h2 := lastT_v ne
  have lin := hW _ (List.getLast_mem ne)
  have h3 := lless_v hn (in_len hn hp) (in_len hn lin)
  have h4 := lsteps_v hn hW hl
  have hm : fUn oNeg (fC (.int 1)) = fun _ => some (.val (.int (-1))) := rfl
  have ip : ∀ q ∈ W, InP q n := fun q hq => few_inP hn (hW q hq)
  have ef : fitK n (kdT n) (capT n) W p = (decide (p ∉ W) && decide ((((stepsR n W).map (kdT n)).count (kdT n (takeP n p (W.getLast ne))) : Int) < capT n (kdT n (takeP n p (W.getLast ne))))) := by
    unfold fitK; rw [List.getLast?_eq_getLast ne]
  rw [ef]
  by_cases z : p ∈ W
  · rw [if_neg (by decide), decide_eq_true z] at h1
    simp only [f__law_fits, b__law_fits, guardN, bodyD, fSeq, fAsg, fAsgM, fApp, fRet, fRetN, fDrop, fIfS, fNext, fRaise, fIf, fAnd, fOr, fNot, fT, bo, bnd, bndA, rB, fCall0, noEx, fCall, fCallP, permL, fCons, fNil, fTup, fLst, lim, fCb, ret, fOp, fUn, fVar, fC, fIsi, fIsiLT, isLT, fChain, fLk, fLkB, fLkM, fRevL, fSet2, fFrz, lockL, lockG, lkC, sName, sTup, sCons, sNil, wipeC, List.map_cons, List.map_nil, List.replicate_succ, List.replicate_zero, List.cons_append, List.nil_append, List.getElem?_cons_zero, List.getElem?_cons_succ, List.set_cons_zero, List.set_cons_succ, List.length_cons, List.length_nil, Nat.beq_refl, Nat.reduceAdd, Nat.reduceLeDiff, Nat.reduceEqDiff, Nat.zero_add, if_true, if_false, Bool.false_eq_true, reduceIte, Bool.not_true, Bool.not_false, small_few0, small_few1, small_few2, small_few3, h1]
    rw [decide_eq_false (fun q => q z)]; rfl
  · rw [if_neg (by decide), decide_eq_false z] at h1
    obtain ⟨st, est⟩ : ∃ st, st = takeP n p (W.getLast ne) := ⟨_, rfl⟩
    have g : fPar false false 4 5 (fCall0 f__law_less (fCons (fVar 0) (fCons (fVar 2) (fCons (fOp oIxT (fVar 1) (fUn oNeg (fC (.int 1)))) fNil)))) (fCall0 f__law_steps (fCons (fVar 0) (fCons (fVar 1) fNil))) [.d (dI n), .d (dT W), .d (dI p), .d (.bool true), .un, .un, .un, .un] = some (.nx [.d (dI n), .d (dT W), .d (dI p), .d (.bool true), .d (dI st), .d (dL (stepsR n W)), .un, .un]) := by
      have g1 : fCall0 f__law_less (fCons (fVar 0) (fCons (fVar 2) (fCons (fOp oIxT (fVar 1) (fUn oNeg (fC (.int 1)))) fNil))) [.d (dI n), .d (dT W), .d (dI p), .d (.bool true), .un, .un, .un, .un] = some (.val (dI st)) := by
        rw [hm, est]
        simp only [guardN, bodyD, fSeq, fAsg, fAsgM, fApp, fRet, fRetN, fDrop, fIfS, fNext, fRaise, fIf, fAnd, fOr, fNot, fT, bo, bnd, bndA, rB, fCall0, noEx, fCall, fCallP, permL, fCons, fNil, fTup, fLst, lim, fCb, ret, fOp, fUn, fVar, fC, fIsi, fIsiLT, isLT, fChain, fLk, fLkB, fLkM, fRevL, fSet2, fFrz, lockL, lockG, lkC, sName, sTup, sCons, sNil, wipeC, List.map_cons, List.map_nil, List.replicate_succ, List.replicate_zero, List.cons_append, List.nil_append, List.getElem?_cons_zero, List.getElem?_cons_succ, List.set_cons_zero, List.set_cons_succ, List.length_cons, List.length_nil, Nat.beq_refl, Nat.reduceAdd, Nat.reduceLeDiff, Nat.reduceEqDiff, Nat.zero_add, if_true, if_false, Bool.false_eq_true, reduceIte, Bool.not_true, Bool.not_false, small_few0, small_few1, small_few2, small_few3, h2, h3]
      have g2 : fCall0 f__law_steps (fCons (fVar 0) (fCons (fVar 1) fNil)) [.d (dI n), .d (dT W), .d (dI p), .d (.bool true), .un, .un, .un, .un] = some (.val (dL (stepsR n W))) := by simp only [guardN, bodyD, fSeq, fAsg, fAsgM, fApp, fRet, fRetN, fDrop, fIfS, fNext, fRaise, fIf, fAnd, fOr, fNot, fT, bo, bnd, bndA, rB, fCall0, noEx, fCall, fCallP, permL, fCons, fNil, fTup, fLst, lim, fCb, ret, fOp, fUn, fVar, fC, fIsi, fIsiLT, isLT, fChain, fLk, fLkB, fLkM, fRevL, fSet2, fFrz, lockL, lockG, lkC, sName, sTup, sCons, sNil, wipeC, List.map_cons, List.map_nil, List.replicate_succ, List.replicate_zero, List.cons_append, List.nil_append, List.getElem?_cons_zero, List.getElem?_cons_succ, List.set_cons_zero, List.set_cons_succ, List.length_cons, List.length_nil, Nat.beq_refl, Nat.reduceAdd, Nat.reduceLeDiff, Nat.reduceEqDiff, Nat.zero_add, if_true, if_false, Bool.false_eq_true, reduceIte, Bool.not_true, Bool.not_false, small_few0, small_few1, small_few2, small_few3, h4]
      unfold fPar
      rw [g1, g2]; rfl
    have sin : st ∈ placesOf n := by
      rw [est]
      have := steps_in (n := n) (W := [W.getLast ne, p]) (fun q hq => by
        rcases (List.mem_cons.mp hq) with rfl | hq
        · exact few_inP hn lin
        · rw [List.mem_singleton.mp hq]; exact few_inP hn hp) (takeP n p (W.getLast ne)) (List.mem_singleton.mpr rfl)
      exact this.mem
    have snz : st ≠ zeros n := fun e => z (by rw [take_zero_eq (few_inP hn lin) (few_inP hn hp) (est ▸ e)]; exact List.getLast_mem ne)
    have cap := (kindsT_ok hn).cap st (rest_mem hn sin snz)
    have lk := flc_map (src := iL (fVar 5)) (st := sName 7) (ft := fC (.bool true)) (fe := fCall0 f__law_kind (fCons (fVar 0) (fCons (fVar 7) fNil))) (vs := [7]) (Γ := [.d (dI n), .d (dT W), .d (dI p), .d (.bool true), .d (dI st), .d (dL (stepsR n W)), .un, .un]) dI (fun s => dI (kdT n s)) (stepsR n W) rfl (by rw [stepsR_len]; omega) fun s hs => by
      refine ⟨[.d (dI n), .d (dT W), .d (dI p), .d (.bool true), .d (dI st), .d (dL (stepsR n W)), .un, .d (dI s)], rfl, rfl, ?_⟩
      have h := lkind_v hn (steps_in ip s hs).mem
      simp only [guardN, bodyD, fSeq, fAsg, fAsgM, fApp, fRet, fRetN, fDrop, fIfS, fNext, fRaise, fIf, fAnd, fOr, fNot, fT, bo, bnd, bndA, rB, fCall0, noEx, fCall, fCallP, permL, fCons, fNil, fTup, fLst, lim, fCb, ret, fOp, fUn, fVar, fC, fIsi, fIsiLT, isLT, fChain, fLk, fLkB, fLkM, fRevL, fSet2, fFrz, lockL, lockG, lkC, sName, sTup, sCons, sNil, wipeC, List.map_cons, List.map_nil, List.replicate_succ, List.replicate_zero, List.cons_append, List.nil_append, List.getElem?_cons_zero, List.getElem?_cons_succ, List.set_cons_zero, List.set_cons_succ, List.length_cons, List.length_nil, Nat.beq_refl, Nat.reduceAdd, Nat.reduceLeDiff, Nat.reduceEqDiff, Nat.zero_add, if_true, if_false, Bool.false_eq_true, reduceIte, Bool.not_true, Bool.not_false, small_few0, small_few1, small_few2, small_few3, h]
    have e1 : (stepsR n W).map (fun s => dI (kdT n s)) = ((stepsR n W).map (kdT n)).map dI := by rw [List.map_map]; rfl
    rw [e1] at lk
    have h6 := lkind_v hn sin
    have h7 := lshare_v hn sin
    have h8 : fCnt true (fVar 6) (fCall0 f__law_kind (fCons (fVar 0) (fCons (fVar 4) fNil))) [.d (dI n), .d (dT W), .d (dI p), .d (.bool true), .d (dI st), .d (dL (stepsR n W)), .d (.list (((stepsR n W).map (kdT n)).map dI)), .un] = some (.val (.int (((stepsR n W).map (kdT n)).count (kdT n st) : Nat))) := by
      have c1 : fCall0 f__law_kind (fCons (fVar 0) (fCons (fVar 4) fNil)) [.d (dI n), .d (dT W), .d (dI p), .d (.bool true), .d (dI st), .d (dL (stepsR n W)), .d (.list (((stepsR n W).map (kdT n)).map dI)), .un] = some (.val (dI (kdT n st))) := by simp only [guardN, bodyD, fSeq, fAsg, fAsgM, fApp, fRet, fRetN, fDrop, fIfS, fNext, fRaise, fIf, fAnd, fOr, fNot, fT, bo, bnd, bndA, rB, fCall0, noEx, fCall, fCallP, permL, fCons, fNil, fTup, fLst, lim, fCb, ret, fOp, fUn, fVar, fC, fIsi, fIsiLT, isLT, fChain, fLk, fLkB, fLkM, fRevL, fSet2, fFrz, lockL, lockG, lkC, sName, sTup, sCons, sNil, wipeC, List.map_cons, List.map_nil, List.replicate_succ, List.replicate_zero, List.cons_append, List.nil_append, List.getElem?_cons_zero, List.getElem?_cons_succ, List.set_cons_zero, List.set_cons_succ, List.length_cons, List.length_nil, Nat.beq_refl, Nat.reduceAdd, Nat.reduceLeDiff, Nat.reduceEqDiff, Nat.zero_add, if_true, if_false, Bool.false_eq_true, reduceIte, Bool.not_true, Bool.not_false, small_few0, small_few1, small_few2, small_few3, h6]
      unfold fCnt
      rw [c1]
      show (if idxB (((stepsR n W).map (kdT n)).map dI) (dI (kdT n st)) = true then some (Ou.val (PyData.int (((((stepsR n W).map (kdT n)).map dI).countP fun y => PyData.eqv y (dI (kdT n st)) : Nat) : Int))) else none) = _
      rw [if_pos (idxB_rows _ _), countP_rows]
    have h9 : ∀ i j : Int, oLt (.int i) (.int j) = some (.bool (decide (i < j))) := fun _ _ => rfl
    simp only [f__law_fits, b__law_fits, guardN, bodyD, fSeq, fAsg, fAsgM, fApp, fRet, fRetN, fDrop, fIfS, fNext, fRaise, fIf, fAnd, fOr, fNot, fT, bo, bnd, bndA, rB, fCall0, noEx, fCall, fCallP, permL, fCons, fNil, fTup, fLst, lim, fCb, ret, fOp, fUn, fVar, fC, fIsi, fIsiLT, isLT, fChain, fLk, fLkB, fLkM, fRevL, fSet2, fFrz, lockL, lockG, lkC, sName, sTup, sCons, sNil, wipeC, List.map_cons, List.map_nil, List.replicate_succ, List.replicate_zero, List.cons_append, List.nil_append, List.getElem?_cons_zero, List.getElem?_cons_succ, List.set_cons_zero, List.set_cons_succ, List.length_cons, List.length_nil, Nat.beq_refl, Nat.reduceAdd, Nat.reduceLeDiff, Nat.reduceEqDiff, Nat.zero_add, if_true, if_false, Bool.false_eq_true, reduceIte, Bool.not_true, Bool.not_false, small_few0, small_few1, small_few2, small_few3, h1, g, lk, h7, h8, h9]
    rw [decide_eq_true z, ← est, cap]; rfl
end
end Mv
namespace Mv
open PySem L2 Evl
theorem noLs_ints : ∀ q : List Int, noLs (q.map PyData.int) = true
  | [] => rfl
  | x :: q => by rw [List.map_cons, noLs, noLs_ints q]; rfl
theorem noL_dI (q : List Int) : noL (dI q) = true := noLs_ints q
theorem noLs_rows : ∀ R : Rows, noLs (R.map dI) = true
  | [] => rfl
  | q :: R => by rw [List.map_cons, noLs, noL_dI, noLs_rows R]; rfl
theorem noL_dT (p : Rows) : noL (dT p) = true := noLs_rows p
theorem noLs_tRs : ∀ L : List Rows, noLs (L.map dT) = true
  | [] => rfl
  | p :: L => by rw [List.map_cons, noLs, noL_dT, noLs_tRs L]; rfl
theorem newRe_rows (L : List Rows) : newRe true (some (.val (.list (L.map dT)))) = some (.val (.list (L.map dT))) := by
  show (if (true && noLs (L.map dT)) = true then _ else none) = _
  rw [noLs_tRs]; rfl
end Mv
namespace Mv
open PySem L2 Evl LamX
section
variable {P : Program} {w : World} {K : PySem.W.Frag} {mg : Str → Option Value} {base : Heap} {ad : Str → Addr}
abbrev s_law : Stmt := top 47
def qLam : Str := "law.<locals>.<lambda>"
def F_law (a : Addr) (sN : Nat) : WS := (wSeq (wAsg (wDraw W__law_any_dials (wCons (pw (fC (.int 2))) (wCons (pw (fC (.int 7))) wNil))) (sName 2)) (wSeq (pws 1 (fAsg (fCall0 f__law_grown (fCons (fVar 2) (fCons (fTup (fCons (fCall0 f__law_nothing (fCons (fVar 2) fNil)) fNil)) (fCons (fC (.bool true)) fNil)))) (sName 3))) (wSeq (pws 1 (fAsgM (fCallN f_fair_tours (fCons (fVar 2) fNil)) 4)) (wSeq (pws 1 (fIfS (fLkB (fOr (fT (fOp oNe (fVar 4) (fVar 3))) (fT (fOp oNeA (fCall f_fair_many (fCons (fVar 2) fNil)) (fCb oLen (fCons (fVar 3) fNil)))))) (fRet (fC (.bool false))) fNext)) (wSeq (pws 1 (fApp 4 (fC .none))) (wSeq (pws 1 (fIfS (fT (fOp oNe (fCall f_fair_tours (fCons (fVar 2) fNil)) (fVar 3))) (fRet (fC (.bool false))) fNext)) (wSeq (wAsg (wDraw W__law_pick (wCons (pw (fLst (fCons (fTup (fCons (fTup (fCons (fC (.int 8)) fNil)) (fCons (fC (.int 232)) fNil))) (fCons (fTup (fCons (fTup (fCons (fC (.int 2)) (fCons (fC (.int 4)) fNil))) (fCons (fC (.int 80)) fNil))) (fCons (fTup (fCons (fTup (fCons (fC (.int 4)) (fCons (fC (.int 2)) fNil))) (fCons (fC (.int 80)) fNil))) (fCons (fTup (fCons (fTup (fCons (fC (.int 2)) (fCons (fC (.int 2)) (fCons (fC (.int 2)) fNil)))) (fCons (fC (.int 0)) fNil))) fNil)))))) wNil)) (sTup 2 (sCons (sName 5) (sCons (sName 6) sNil)))) (wSeq (wIfS (wAnd (wT (wOp oEqA (wDraw W__law_draw (wCons (pw (fC (.int 3))) wNil)) (pw (fC (.int 0))))) (pwb (fT (fOp oNeA (fCall f_fair_many (fCons (fVar 5) fNil)) (fVar 6))))) (pws 1 (fRet (fC (.bool false)))) wNext) (wSeq (wAsg (wTup (wCons (wDraw W__law_any_dials (wCons (pw (fC (.int 8))) (wCons (pw (fC (.int 24))) wNil))) (wCons (wDraw W__law_bad_dials wNil) wNil))) (sTup 2 (sCons (sName 7) (sCons (sName 8) sNil)))) (wSeq (wIfS (wNot (wT (wTmE "TooMany(7)" f_fair_tours (fCons (fVar 7) fNil)))) (pws 1 (fRet (fC (.bool false)))) wNext) (wSeq (wIfS (wAnd (pwb (fT (fOp oGt (fCall0 f__law_count (fCons (fVar 7) fNil)) (fC (.int 8))))) (wNot (wT (wTmE "TooMany(8)" f_fair_many (fCons (fVar 7) fNil))))) (pws 1 (fRet (fC (.bool false)))) wNext) (wPickL "BadDials" 9 [(f_fair_tours, (fCons (fVar 8) fNil)), (f_fair_many, (fCons (fVar 8) fNil))]))))))))))))
theorem law_run {TL : List (Addr × Str)} {f g c Pt C0 : Addr} {fdc : FuncData} {oc kV doc pm ct : Value} {od an : Option Addr} {osl : Array (Option Value)} (Z : Zs mg) (C__law_any_dials : Cal P w K mg base CX0 3 "_law_any_dials" ["state", "least", "most"] (SpW TL W__law_any_dials)) (C__law_grown : Cal P w K mg base CX0 12 "_law_grown" ["dials_here", "line", "fair"] (SpF ad f__law_grown)) (C_fair_tours : Cal P w K mg base (L2.CX P w) 23 "fair_tours" ["dials"] (SpF ad f_fair_tours)) (CK_fair_tours : CalK P w K mg base (L2.CX P w) 23 "fair_tours" ["dials"] (SpF ad f_fair_tours)) (C__law_pick : Cal P w K mg base CX0 2 "_law_pick" ["state", "several"] (SpW TL W__law_pick)) (CL__law_pick : Cal P w K mg base CX0 2 "_law_pick" ["state", "several"] (SpPk TL)) (C__law_bad_dials : Cal P w K mg base CX0 3 "_law_bad_dials" ["state"] (SpW TL W__law_bad_dials)) (C__law_many_error : Cal P w K mg base CX0 1 "_law_many_error" ["caught", "most"] (SpTm (ad "TooMany"))) (C__law_nothing : Cal P w K mg base CX0 1 "_law_nothing" ["dials_here"] (SpF ad f__law_nothing)) (C_fair_many : Cal P w K mg base (L2.CX P w) 23 "fair_many" ["dials"] (SpF ad f_fair_many)) (CK_fair_many : CalK P w K mg base (L2.CX P w) 23 "fair_many" ["dials"] (SpF ad f_fair_many)) (C__law_draw : Cal P w K mg base CX0 1 "_law_draw" ["state", "size_here"] (SpW TL W__law_draw)) (C__law_count : Cal P w K mg base CX0 1 "_law_count" ["dials_here"] (SpF ad f__law_count)) (B_BadDials : ErrC K mg C0 "BadDials" (ad "BadDials")) (B_TooMany : ErrC K mg C0 "TooMany" (ad "TooMany")) (C__law_begun : Cal P w K mg base CX0 1 "_law_begun" ["script"] (SpBegun K)) (Fc : Fun K "_law_caught" "_law_caught" s__law_caught g fdc) (m_c : mg "_law_caught" = some (.ref g)) (m_C0 : mg "MoveError" = some (.ref C0)) (TB : TabB base mg c Pt) (hmT : (Pt, qLam) ∈ TL) (huT : ∀ p ∈ TL, p.1 = Pt → p.2 = qLam)
    (lk : K.lookup f = some ⟨oc, od, .func (PySem.W.fnOf "law" "law" (defArgs s_law) (defBody s_law) (defScope s_law) .none kV doc pm an (.ref c) ct), osl⟩) (hcd : PySem.W.codeIn K (.ref c) "law" = true)
    {sh : Shared} {H : Hp} {args : Args} {u : Value} {a : Addr} {ns : List Int} {Q : VK} {E : XK} (e0 : Env0 P w K mg base callerA [] sh H) (hb : BindsTo sh (PySem.W.fnOf "law" "law" (defArgs s_law) (defBody s_law) (defScope s_law) .none kV doc pm an (.ref c) ct) args [("script", u)])
    (hrel : RelV (.ref a) u) (hroom : Room 60 callerA) (hS : SqL K H a (ns.map V.int)) (hlen : ns.length ≤ 63) (hTL : ∀ p ∈ TL, H p.1 = some (.tbl #[])) (hF : ∀ s : Addr, F_law a ns.length (Ce.fx (.ref a) :: Ce.fx (.ref s) :: List.replicate 8 .un) 0 (fun _ _ => False) (fun d _ => d = .bool true)) (hQ : ∀ H', Q (.bl true) H') :
    codeAny (model P w) callerA (.call (.ref f) args) (CR CX0 [] P w H sh Q E) sh := by
  have sc : FnScope ["script", "state", "dials_here", "due", "told", "eight", "many", "more", "bad", "works"] ["script"] (defScope s_law) := ⟨rfl, rfl, rfl, by decide +kernel, rfl, by decide +kernel, by decide +kernel⟩
  refine run_ofS (k := 59) (N := ["script", "state", "dials_here", "due", "told", "eight", "many", "more", "bad", "works"]) (ps := ["script"]) (us := [u]) (vs := [.ref a]) lk hcd sc hroom e0 hb (.cons hrel .nil) rfl fun hr => ?_
  obtain ⟨occ, odc, kVc, docc, pmc, anc, cdc, ctc, oslc, rfl, lkc, hcdc⟩ := Fc.ex
  have scc : FnScope ["work", "caught", "error"] ["work"] (defScope s__law_caught) := ⟨rfl, rfl, rfl, by decide +kernel, rfl, by decide +kernel, by decide +kernel⟩
  have hgd : (callerA.deeper (PyProof.Rows.envOfC "law" (defScope s_law) sh.heap.objs.size f (.ref c))).guards = some [] := rfl
  have hun : (callerA.deeper (PyProof.Rows.envOfC "law" (defScope s_law) sh.heap.objs.size f (.ref c))).units + 66 < cLine := by have := hr.un; omega
  have hseq := XL_seq (TL := TL) hS
  suffices hh : ∃ t, PSs (cxOf CX0 P w K mg base ["script", "state", "dials_here", "due", "told", "eight", "many", "more", "bad", "works"] "law" (defScope s_law) f (.ref c) callerA [] sh H E).nox (defBody s_law) t ∧ t { nx := fun _ H' => Q .non H', rt := Q } (L2.start ["script", "state", "dials_here", "due", "told", "eight", "many", "more", "bad", "works"] [.ref a]) H from
    hh.elim fun t h => ⟨t, h.1.nox, h.2⟩
  refine ⟨_, (pss_cons (ps_set (i := 1) sc.nd rfl (Or.inl rfl) (pe_cal C__law_begun (hr.mono (by decide)) pass0 (pa_cons (pv 0) pa_nil))) (pss_cons (ps_set (i := 2) sc.nd rfl (Or.inl rfl) (pe_cal C__law_any_dials (hr.mono (by decide)) pass0 (pa_cons (pv 1) (pa_cons pe_int (pa_cons pe_int pa_nil))))) (pss_cons (ps_set (i := 3) sc.nd rfl (Or.inl rfl) (pe_cal C__law_grown (hr.mono (by decide)) pass0 (pa_cons (pv 2) (pa_cons (pe_tup (pa_cons (pe_cal C__law_nothing (hr.mono (by decide)) pass0 (pa_cons (pv 2) pa_nil)) pa_nil)) (pa_cons pe_bl pa_nil))))) (pss_cons (ps_set (i := 4) sc.nd rfl (Or.inl rfl) (pe_calk0 CK_fair_tours (hr.mono (by decide)) passF (pk_cons (pv 2) pk_nil))) (pss_cons (ps_if (PW.pt (pw_or (pt_cmpR (r := rNeD K) (op_neD hr.units) (pv 4) (pv 3) (nomark _)) (pw_or1 (pt_cmpR op_ne (pe_calk0 CK_fair_many (hr.mono (by decide)) passF (pk_cons (pv 2) pk_nil)) (pe_callB (r := rLenA K) call_len_seq (by rfl) Z.len PySem.boot_len (pa_cons (pv 3) pa_nil)) (nomark _))))) (pss_one (ps_ret pe_bl)) pss_nil) (pss_cons (ps_expr (pe_bm PySem.F.plainAttrs_list PySem.F.slot_list_append PySem.F.type_list_append mt_append (pv 4) (pa_cons pe_non pa_nil))) (pss_cons (ps_if (pt_cmpR (r := rNeD K) (op_neD hr.units) (pe_cal C_fair_tours (hr.mono (by decide)) passF (pa_cons (pv 2) pa_nil)) (pv 3) (nomark _)) (pss_one (ps_ret pe_bl)) pss_nil) (pss_cons (ps_asg (pe_cal C__law_pick (hr.mono (by decide)) pass0 (pa_cons (pv 1) (pa_cons (pe_lst (pa_cons (pe_tup (pa_cons (pe_tup (pa_cons pe_int pa_nil)) (pa_cons pe_int pa_nil))) (pa_cons (pe_tup (pa_cons (pe_tup (pa_cons pe_int (pa_cons pe_int pa_nil))) (pa_cons pe_int pa_nil))) (pa_cons (pe_tup (pa_cons (pe_tup (pa_cons pe_int (pa_cons pe_int pa_nil))) (pa_cons pe_int pa_nil))) (pa_cons (pe_tup (pa_cons (pe_tup (pa_cons pe_int (pa_cons pe_int (pa_cons pe_int pa_nil)))) (pa_cons pe_int pa_nil))) pa_nil))))) pa_nil))) (pg_tup rfl (pgs_cons (pg_name (i := 5) sc.nd rfl (Or.inl rfl)) (pgs_cons (pg_name (i := 6) sc.nd rfl (Or.inl rfl)) pgs_nil)))) (pss_cons (ps_if (PW.pt (pw_and (pt_cmpR op_eq (pe_cal C__law_draw (hr.mono (by decide)) pass0 (pa_cons (pv 1) (pa_cons pe_int pa_nil))) pe_int (nomark _)) (pw_and1 (pt_cmpR op_ne (pe_cal C_fair_many (hr.mono (by decide)) passF (pa_cons (pv 5) pa_nil)) (pv 6) (nomark _))))) (pss_one (ps_ret pe_bl)) pss_nil) (pss_cons (ps_asg (pe_tup (pa_cons (pe_cal C__law_any_dials (hr.mono (by decide)) pass0 (pa_cons (pv 1) (pa_cons pe_int (pa_cons pe_int pa_nil)))) (pa_cons (pe_cal C__law_bad_dials (hr.mono (by decide)) pass0 (pa_cons (pv 1) pa_nil)) pa_nil))) (pg_tup rfl (pgs_cons (pg_name (i := 7) sc.nd rfl (Or.inr rfl)) (pgs_cons (pg_name (i := 8) sc.nd rfl (Or.inr rfl)) pgs_nil)))) (pss_cons (ps_if (pt_not (pt_val (pe_cal C__law_many_error (hr.mono (by decide)) pass0 (pa_cons (LamX.pe_lamcall (k := 30) (P := Pt) (c := c) (a := "work") (T := TL) (TT := TTc K C0) (t := fun E => tCall (SpF ad f_fair_tours) [] E (tCons (tVar 7) tNil)) (by rfl) m_c Fc.kp lkc hcdc (.all fun us hl => match us, hl with | [_], _ => rfl) scc rfl (Or.inl rfl) (caught_gives m_C0) TB rfl hmT huT (hr.mono (by decide)) (lamS_by (sc := defScope s_law) (by decide +kernel)) rfl (fun _ _ _ _ _ => rfl) (fun A outer s H E f c' hr2 => (pe_cal C_fair_tours (hr2.mono (by decide)) (passes_call (takes_of rfl rfl rfl rfl) (fun _ _ _ _ h => h)) (pa_cons (pv 7) pa_nil)))) (pa_cons pe_int pa_nil))))) (pss_one (ps_ret pe_bl)) pss_nil) (pss_cons (ps_if (PW.pt (pw_and (pt_cmpR op_gt (pe_cal C__law_count (hr.mono (by decide)) pass0 (pa_cons (pv 7) pa_nil)) pe_int (nomark _)) (pw_and1 (pt_not (pt_val (pe_cal C__law_many_error (hr.mono (by decide)) pass0 (pa_cons (LamX.pe_lamcall (k := 30) (P := Pt) (c := c) (a := "work") (T := TL) (TT := TTc K C0) (t := fun E => tCall (SpF ad f_fair_many) [] E (tCons (tVar 7) tNil)) (by rfl) m_c Fc.kp lkc hcdc (.all fun us hl => match us, hl with | [_], _ => rfl) scc rfl (Or.inl rfl) (caught_gives m_C0) TB rfl hmT huT (hr.mono (by decide)) (lamS_by (sc := defScope s_law) (by decide +kernel)) rfl (fun _ _ _ _ _ => rfl) (fun A outer s H E f c' hr2 => (pe_cal C_fair_many (hr2.mono (by decide)) (passes_call (takes_of rfl rfl rfl rfl) (fun _ _ _ _ h => h)) (pa_cons (pv 7) pa_nil)))) (pa_cons pe_int pa_nil)))))))) (pss_one (ps_ret pe_bl)) pss_nil) (pss_cons (ps_set (i := 9) sc.nd rfl (Or.inl rfl) (pe_lst (pa_cons (pe_lam (k := 30) (P := Pt) (c := c) (T := TL) (t := fun E => tCall (SpF ad f_fair_tours) [] E (tCons (tVar 8) tNil)) TB rfl hmT huT (lamS_by (sc := defScope s_law) (by decide +kernel)) rfl (fun _ _ _ _ _ => rfl) (fun A outer s H E f c' hr2 => (pe_cal C_fair_tours (hr2.mono (by decide)) (passes_call (takes_of rfl rfl rfl rfl) (fun _ _ _ _ h => h)) (pa_cons (pv 8) pa_nil))) rfl) (pa_cons (pe_lam (k := 30) (P := Pt) (c := c) (T := TL) (t := fun E => tCall (SpF ad f_fair_many) [] E (tCons (tVar 8) tNil)) TB rfl hmT huT (lamS_by (sc := defScope s_law) (by decide +kernel)) rfl (fun _ _ _ _ _ => rfl) (fun A outer s H E f c' hr2 => (pe_cal C_fair_many (hr2.mono (by decide)) (passes_call (takes_of rfl rfl rfl rfl) (fun _ _ _ _ h => h)) (pa_cons (pv 8) pa_nil))) rfl) pa_nil)))) (pss_one (ps_ret (pe_callB (r := rIsK K (ad "BadDials")) (call_isK B_BadDials.i) (by rfl) Z.isinstance (by decide +kernel) (pa_cons (pe_lamE (k := 30) (a := "work") (TT := TTc K C0) (by rfl) m_c Fc.kp lkc hcdc (.all fun us hl => match us, hl with | [_], _ => rfl) scc rfl (Or.inl rfl) (caught_gives m_C0) (hr.mono (by decide)) (pe_cal CL__law_pick (hr.mono (by decide)) pass0 (pa_cons (pv 1) (pa_cons (pv 9) pa_nil)))) (pa_cons (pe_glob (v := .ref (ad "BadDials")) (u := .ref (ad "BadDials")) (by rfl) B_BadDials.m rfl) pa_nil)))))))))))))))))), ?_⟩
  exact law_go (TL := TL) (n := 8) rfl (show Sws (XL TL H a) _ (F_law a ns.length) from (w_seq (w_asg (w_draw (w_cons (w_pure (E := fun _ _ _ => False) (ad := ad) (u_c fun _ => .int 2)) (w_cons (w_pure (E := fun _ _ _ => False) (ad := ad) (u_c fun _ => .int 7)) w_nil))) g_name (show (1 : Nat) ∉ _ from by decide)) (w_seq (w_stmt (E := fun _ _ _ => False) (ad := ad) (u_asg (u_call0 (u_cons u_var (u_cons (u_tup (u_cons (u_call0 (u_cons u_var u_nil)) u_nil)) (u_cons (u_c fun _ => .bl true) u_nil)))) g_name)) (w_seq (w_stmt (E := fun _ _ _ => False) (ad := ad) (u_asgM (m_callN (u_cons u_var u_nil)))) (w_seq (w_stmt (E := fun _ _ _ => False) (ad := ad) (u_ifS (u_lkB (u_tOr (u_test (u_op os_ne u_var u_var)) (u_test (u_op os_neA (u_call (u_cons u_var u_nil)) (u_cb cs_len (u_cons u_var u_nil)))))) (u_ret (u_c fun _ => .bl false)) u_next)) (w_seq (w_stmt (E := fun _ _ _ => False) (ad := ad) (u_app (u_c fun _ => .non))) (w_seq (w_stmt (E := fun _ _ _ => False) (ad := ad) (u_ifS (u_test (u_op os_ne (u_call (u_cons u_var u_nil)) u_var)) (u_ret (u_c fun _ => .bl false)) u_next)) (w_seq (w_asg (w_draw (w_cons (w_pure (E := fun _ _ _ => False) (ad := ad) (u_lst (u_cons (u_tup (u_cons (u_tup (u_cons (u_c fun _ => .int 8) u_nil)) (u_cons (u_c fun _ => .int 232) u_nil))) (u_cons (u_tup (u_cons (u_tup (u_cons (u_c fun _ => .int 2) (u_cons (u_c fun _ => .int 4) u_nil))) (u_cons (u_c fun _ => .int 80) u_nil))) (u_cons (u_tup (u_cons (u_tup (u_cons (u_c fun _ => .int 4) (u_cons (u_c fun _ => .int 2) u_nil))) (u_cons (u_c fun _ => .int 80) u_nil))) (u_cons (u_tup (u_cons (u_tup (u_cons (u_c fun _ => .int 2) (u_cons (u_c fun _ => .int 2) (u_cons (u_c fun _ => .int 2) u_nil)))) (u_cons (u_c fun _ => .int 0) u_nil))) u_nil)))))) w_nil)) (g_tup (g_cons g_name (g_cons g_name g_nil))) (show (1 : Nat) ∉ _ from by decide)) (w_seq (w_ifS (w_and (w_test (w_op os_eqA (w_draw (w_cons (w_pure (E := fun _ _ _ => False) (ad := ad) (u_c fun _ => .int 3)) w_nil)) (w_pure (E := fun _ _ _ => False) (ad := ad) (u_c fun _ => .int 0)))) (w_pureb (E := fun _ _ _ => False) (ad := ad) (u_test (u_op os_neA (u_call (u_cons u_var u_nil)) u_var)))) (w_stmt (E := fun _ _ _ => False) (ad := ad) (u_ret (u_c fun _ => .bl false))) w_next) (w_seq (w_asg (w_tup (w_cons (w_draw (w_cons (w_pure (E := fun _ _ _ => False) (ad := ad) (u_c fun _ => .int 8)) (w_cons (w_pure (E := fun _ _ _ => False) (ad := ad) (u_c fun _ => .int 24)) w_nil))) (w_cons (w_draw w_nil) w_nil))) (g_tup (g_cons g_name (g_cons g_name g_nil))) (show (1 : Nat) ∉ _ from by decide)) (w_seq (w_ifS (w_not (w_tB (w_tmE (C0 := C0) B_TooMany rfl (by decide) (fun E => (u_cons u_var u_nil))))) (w_stmt (E := fun _ _ _ => False) (ad := ad) (u_ret (u_c fun _ => .bl false))) w_next) (w_seq (w_ifS (w_and (w_pureb (E := fun _ _ _ => False) (ad := ad) (u_test (u_op os_gt (u_call0 (u_cons u_var u_nil)) (u_c fun _ => .int 8)))) (w_not (w_tB (w_tmE (C0 := C0) B_TooMany rfl (by decide) (fun E => (u_cons u_var u_nil)))))) (w_stmt (E := fun _ _ _ => False) (ad := ad) (u_ret (u_c fun _ => .bl false))) w_next) (w_pickL (k := 30) (C0 := C0) (a0 := ⟨f_fair_tours, (tCons (tVar 8) tNil), (fCons (fVar 8) fNil)⟩) (as := [⟨f_fair_many, (tCons (tVar 8) tNil), (fCons (fVar 8) fNil)⟩]) B_BadDials ⟨fun E => (u_cons u_var u_nil), fun E => (u_cons u_var u_nil), trivial⟩ (show (2 : Nat) ≤ 1000 from by decide) (show (1 : Nat) ≠ _ from by decide)))))))))))))) hS hlen hTL hF hQ
end
end Mv
namespace Mv
open PySem L2 Evl
section
variable {n p a b h u : List Int} {W V A B P R : Rows} {Γ : En} {T : Int} {post : D → Int → Prop}
def allF (n : List Int) (k : Nat) : List Rows := grownF n (fitK n (kdT n) (capT n)) (placesOf n).length k [zeros n]
theorem allF_fuel (hn : n ∈ fewD) (h8 : (placesOf n).length ≤ 8) : allF n 16 = allF n 8 := grown_fuel 16 8 [zeros n] (show 1 ≤ _ by have := sr_two hn; omega) (show _ ≤ 1 + 16 by omega) (show _ ≤ 1 + 8 by omega)
theorem tours_v (hn : n ∈ fewD) (h7 : prod n ≤ 7) : f_fair_tours [dI n] = some (.val (.list ((allF n 8).map dT))) := by
  have pr := sr_prod hn
  have c1 := chkDials_v hn
  have c2 := atMost_ok hn h7
  have c5 := fairs_v hn (by omega)
  have e := allF_fuel hn (by omega)
  unfold allF at e ⊢
  rw [e] at c5
  simp only [f_fair_tours, b_fair_tours, guardN, bodyD, fSeq, fAsg, fAsgM, fApp, fRet, fRetN, fDrop, fIfS, fNext, fRaise, fIf, fAnd, fOr, fNot, fT, bo, bnd, bndA, rB, fCall0, noEx, fCall, fCallP, permL, fCons, fNil, fTup, fLst, lim, fCb, ret, fOp, fUn, fVar, fC, fIsi, fIsiLT, isLT, fChain, fLk, fLkB, fLkM, fRevL, fSet2, fFrz, lockL, lockG, lkC, sName, sTup, sCons, sNil, wipeC, List.map_cons, List.map_nil, List.replicate_succ, List.replicate_zero, List.cons_append, List.nil_append, List.getElem?_cons_zero, List.getElem?_cons_succ, List.set_cons_zero, List.set_cons_succ, List.length_cons, List.length_nil, Nat.beq_refl, Nat.reduceAdd, Nat.reduceLeDiff, Nat.reduceEqDiff, Nat.zero_add, if_true, if_false, Bool.false_eq_true, reduceIte, Bool.not_true, Bool.not_false, small_few0, small_few1, small_few2, small_few3, c1, c2, c5]
theorem many_v (hn : n ∈ fewD) (h8 : prod n ≤ 8) : f_fair_many [dI n] = some (.val (.int ((allF n 8).length : Nat))) := by
  have pr := sr_prod hn
  have c1 := chkDials_v hn
  have c2 := atMost_ok hn h8
  have c5 := fairs_v hn (by omega)
  have e := allF_fuel hn (by omega)
  unfold allF at e ⊢
  rw [e] at c5
  have l : oLen [.list ((grownF n (fitK n (kdT n) (capT n)) (placesOf n).length 8 [zeros n]).map dT)] = some (.int ((grownF n (fitK n (kdT n) (capT n)) (placesOf n).length 8 [zeros n]).length : Nat)) := by
    show some (PyData.int ((List.map dT _).length : Nat)) = _
    rw [List.length_map]
  simp only [f_fair_many, b_fair_many, guardN, bodyD, fSeq, fAsg, fAsgM, fApp, fRet, fRetN, fDrop, fIfS, fNext, fRaise, fIf, fAnd, fOr, fNot, fT, bo, bnd, bndA, rB, fCall0, noEx, fCall, fCallP, permL, fCons, fNil, fTup, fLst, lim, fCb, ret, fOp, fUn, fVar, fC, fIsi, fIsiLT, isLT, fChain, fLk, fLkB, fLkM, fRevL, fSet2, fFrz, lockL, lockG, lkC, sName, sTup, sCons, sNil, wipeC, List.map_cons, List.map_nil, List.replicate_succ, List.replicate_zero, List.cons_append, List.nil_append, List.getElem?_cons_zero, List.getElem?_cons_succ, List.set_cons_zero, List.set_cons_succ, List.length_cons, List.length_nil, Nat.beq_refl, Nat.reduceAdd, Nat.reduceLeDiff, Nat.reduceEqDiff, Nat.zero_add, if_true, if_false, Bool.false_eq_true, reduceIte, Bool.not_true, Bool.not_false, small_few0, small_few1, small_few2, small_few3, c1, c2, c5, l]
theorem due_v (hn : n ∈ fewD) (h7 : prod n ≤ 7) : f__law_grown [dI n, dT [zeros n], .bool true] = some (.val (.list ((allF n 8).map dT))) := by
  have pr := sr_prod hn
  have two := sr_two hn
  have hz : zeros n ∈ placesOf n := by rw [sr_rest hn]; exact List.mem_cons_self ..
  exact lgrown_v hn pr (by omega) (fun W p hW ne hl hp => fairFits_v hn hW (Nat.le_trans hl (by decide)) ne hp) (fun W p h => fitK_new W p h) 8 [zeros n] (List.nodup_cons.mpr ⟨List.not_mem_nil, List.nodup_nil⟩) (fun w hw => by rw [List.mem_singleton.mp hw]; exact hz) (by simp) (show 1 ≤ _ by omega) (show _ ≤ 1 + 8 by omega)
theorem tours_many (hn : n ∈ fewD) (h : 7 < prod n) : f_fair_tours [dI n] = some (.exc "TooMany(7)") := by
  have c1 := chkDials_v hn
  have c2 := atMost_bad hn (m := 7) (x := "TooMany(7)") rfl h
  simp only [f_fair_tours, b_fair_tours, guardN, bodyD, fSeq, fAsg, fAsgM, fApp, fRet, fRetN, fDrop, fIfS, fNext, fRaise, fIf, fAnd, fOr, fNot, fT, bo, bnd, bndA, rB, fCall0, noEx, fCall, fCallP, permL, fCons, fNil, fTup, fLst, lim, fCb, ret, fOp, fUn, fVar, fC, fIsi, fIsiLT, isLT, fChain, fLk, fLkB, fLkM, fRevL, fSet2, fFrz, lockL, lockG, lkC, sName, sTup, sCons, sNil, wipeC, List.map_cons, List.map_nil, List.replicate_succ, List.replicate_zero, List.cons_append, List.nil_append, List.getElem?_cons_zero, List.getElem?_cons_succ, List.set_cons_zero, List.set_cons_succ, List.length_cons, List.length_nil, Nat.beq_refl, Nat.reduceAdd, Nat.reduceLeDiff, Nat.reduceEqDiff, Nat.zero_add, if_true, if_false, Bool.false_eq_true, reduceIte, Bool.not_true, Bool.not_false, small_few0, small_few1, small_few2, small_few3, c1, c2]
theorem many_many (hn : n ∈ fewD) (h : 8 < prod n) : f_fair_many [dI n] = some (.exc "TooMany(8)") := by
  have c1 := chkDials_v hn
  have c2 := atMost_bad hn (m := 8) (x := "TooMany(8)") rfl h
  simp only [f_fair_many, b_fair_many, guardN, bodyD, fSeq, fAsg, fAsgM, fApp, fRet, fRetN, fDrop, fIfS, fNext, fRaise, fIf, fAnd, fOr, fNot, fT, bo, bnd, bndA, rB, fCall0, noEx, fCall, fCallP, permL, fCons, fNil, fTup, fLst, lim, fCb, ret, fOp, fUn, fVar, fC, fIsi, fIsiLT, isLT, fChain, fLk, fLkB, fLkM, fRevL, fSet2, fFrz, lockL, lockG, lkC, sName, sTup, sCons, sNil, wipeC, List.map_cons, List.map_nil, List.replicate_succ, List.replicate_zero, List.cons_append, List.nil_append, List.getElem?_cons_zero, List.getElem?_cons_succ, List.set_cons_zero, List.set_cons_succ, List.length_cons, List.length_nil, Nat.beq_refl, Nat.reduceAdd, Nat.reduceLeDiff, Nat.reduceEqDiff, Nat.zero_add, if_true, if_false, Bool.false_eq_true, reduceIte, Bool.not_true, Bool.not_false, small_few0, small_few1, small_few2, small_few3, c1, c2]
theorem tours_bad {d : D} (h : d ∈ badD) : f_fair_tours [d] = some (.exc "BadDials") := by
  have c1 := bad_chk h
  simp only [f_fair_tours, b_fair_tours, guardN, bodyD, fSeq, fAsg, fAsgM, fApp, fRet, fRetN, fDrop, fIfS, fNext, fRaise, fIf, fAnd, fOr, fNot, fT, bo, bnd, bndA, rB, fCall0, noEx, fCall, fCallP, permL, fCons, fNil, fTup, fLst, lim, fCb, ret, fOp, fUn, fVar, fC, fIsi, fIsiLT, isLT, fChain, fLk, fLkB, fLkM, fRevL, fSet2, fFrz, lockL, lockG, lkC, sName, sTup, sCons, sNil, wipeC, List.map_cons, List.map_nil, List.replicate_succ, List.replicate_zero, List.cons_append, List.nil_append, List.getElem?_cons_zero, List.getElem?_cons_succ, List.set_cons_zero, List.set_cons_succ, List.length_cons, List.length_nil, Nat.beq_refl, Nat.reduceAdd, Nat.reduceLeDiff, Nat.reduceEqDiff, Nat.zero_add, if_true, if_false, Bool.false_eq_true, reduceIte, Bool.not_true, Bool.not_false, small_few0, small_few1, small_few2, small_few3, c1]
theorem many_bad {d : D} (h : d ∈ badD) : f_fair_many [d] = some (.exc "BadDials") := by
  have c1 := bad_chk h
  simp only [f_fair_many, b_fair_many, guardN, bodyD, fSeq, fAsg, fAsgM, fApp, fRet, fRetN, fDrop, fIfS, fNext, fRaise, fIf, fAnd, fOr, fNot, fT, bo, bnd, bndA, rB, fCall0, noEx, fCall, fCallP, permL, fCons, fNil, fTup, fLst, lim, fCb, ret, fOp, fUn, fVar, fC, fIsi, fIsiLT, isLT, fChain, fLk, fLkB, fLkM, fRevL, fSet2, fFrz, lockL, lockG, lkC, sName, sTup, sCons, sNil, wipeC, List.map_cons, List.map_nil, List.replicate_succ, List.replicate_zero, List.cons_append, List.nil_append, List.getElem?_cons_zero, List.getElem?_cons_succ, List.set_cons_zero, List.set_cons_succ, List.length_cons, List.length_nil, Nat.beq_refl, Nat.reduceAdd, Nat.reduceLeDiff, Nat.reduceEqDiff, Nat.zero_add, if_true, if_false, Bool.false_eq_true, reduceIte, Bool.not_true, Bool.not_false, small_few0, small_few1, small_few2, small_few3, c1]
theorem m_8 : (allF [8] 8).length = 232 := by decide +kernel
theorem m_24 : (allF [2, 4] 8).length = 80 := by decide +kernel
theorem m_42 : (allF [4, 2] 8).length = 80 := by decide +kernel
theorem m_222 : (allF [2, 2, 2] 8).length = 0 := by decide +kernel
def eights : List (List Int × Int) := [([8], 232), ([2, 4], 80), ([4, 2], 80), ([2, 2, 2], 0)]
theorem eights_ok {q : List Int × Int} (h : q ∈ eights) : q.1 ∈ fewD ∧ prod q.1 ≤ 8 ∧ ((allF q.1 8).length : Int) = q.2 := by
  unfold eights at h
  simp only [List.mem_cons, List.not_mem_nil, or_false] at h
  rcases h with rfl | rfl | rfl | rfl
  · exact ⟨by decide +kernel, by decide, by rw [m_8]; rfl⟩
  · exact ⟨by decide +kernel, by decide, by rw [m_24]; rfl⟩
  · exact ⟨by decide +kernel, by decide, by rw [m_42]; rfl⟩
  · exact ⟨by decide +kernel, by decide, by rw [m_222]; rfl⟩
theorem neA_v (i j : Int) : oNeA (.int i) (.int j) = some (.bool (!decide (i = j))) := rfl
theorem law_math (a : Addr) (N : Nat) (h : N ≤ 63) (s : Addr) : F_law a N (Ce.fx (.ref a) :: Ce.fx (.ref s) :: List.replicate 8 .un) 0 (fun _ _ => False) (fun d _ => d = .bool true) := by
  unfold F_law
  refine wSeq_of (wAsg_of (wDraw_of (wCons_of (pw_of (d := .int 2) rfl (wCons_of (pw_of (d := .int 7) rfl (wNil_of (wany_g ⟨[2], by decide +kernel, by decide, by decide⟩ (by omega) fun n hn n2 n7 => ?_))))))))
  refine (show wSeq _ _ [.fx (.ref a), .fx (.ref s), .d (dI n), .un, .un, .un, .un, .un, .un, .un] 1 _ _ from ?_)
  have dv := due_v hn n7
  have wv := tours_v hn n7
  have mv := many_v hn (by omega)
  have ln := lnothing_v hn
  have dl : noLs [dI n] = true := by rw [noLs, noL_dI]; rfl
  have nw := newRe_rows (allF n 8)
  have ne := neRR_v (allF n 8) (allF n 8)
  rw [decide_eq_true rfl] at ne
  have dz : dT [zeros n] = .tuple [dI (zeros n)] := rfl
  rw [dz] at dv
  have l8 : (allF n 8).length ≤ 5040 := grown_few hn (by have := sr_prod hn; omega) (fun W p h => fitK_new W p h) _ _
  have ll : oLen [.list ((allF n 8).map dT)] = some (.int ((allF n 8).length : Nat)) := by
    show some (PyData.int ((List.map dT _).length : Nat)) = _
    rw [List.length_map]
  have n1 := neA_v ((allF n 8).length : Nat) ((allF n 8).length : Nat)
  rw [decide_eq_true rfl] at n1
  refine wSeq_of (pws_nx (Γ' := [.fx (.ref a), .fx (.ref s), .d (dI n), .d (.list ((allF n 8).map dT)), .un, .un, .un, .un, .un, .un]) (by simp only [guardN, bodyD, fSeq, fAsg, fAsgM, fApp, fRet, fRetN, fDrop, fIfS, fNext, fRaise, fIf, fAnd, fOr, fNot, fT, bo, bnd, bndA, rB, fCall0, noEx, fCall, fCallP, permL, fCons, fNil, fTup, fLst, lim, fCb, ret, fOp, fUn, fVar, fC, fIsi, fIsiLT, isLT, fChain, fLk, fLkB, fLkM, fRevL, fSet2, fFrz, lockL, lockG, lkC, sName, sTup, sCons, sNil, wipeC, List.map_cons, List.map_nil, List.replicate_succ, List.replicate_zero, List.cons_append, List.nil_append, List.getElem?_cons_zero, List.getElem?_cons_succ, List.set_cons_zero, List.set_cons_succ, List.length_cons, List.length_nil, Nat.beq_refl, Nat.reduceAdd, Nat.reduceLeDiff, Nat.reduceEqDiff, Nat.zero_add, if_true, if_false, Bool.false_eq_true, reduceIte, Bool.not_true, Bool.not_false, small_few0, small_few1, small_few2, small_few3, ln, dv]) rfl ?_)
  refine wSeq_of (pws_nx (Γ' := [.fx (.ref a), .fx (.ref s), .d (dI n), .d (.list ((allF n 8).map dT)), .ml ((allF n 8).map dT), .un, .un, .un, .un, .un]) (by simp only [guardN, bodyD, fSeq, fAsg, fAsgM, fApp, fRet, fRetN, fDrop, fIfS, fNext, fRaise, fIf, fAnd, fOr, fNot, fT, bo, bnd, bndA, rB, fCall0, noEx, fCall, fCallP, permL, fCons, fNil, fTup, fLst, lim, fCb, ret, fOp, fUn, fVar, fC, fIsi, fIsiLT, isLT, fChain, fLk, fLkB, fLkM, fRevL, fSet2, fFrz, lockL, lockG, lkC, sName, sTup, sCons, sNil, wipeC, List.map_cons, List.map_nil, List.replicate_succ, List.replicate_zero, List.cons_append, List.nil_append, List.getElem?_cons_zero, List.getElem?_cons_succ, List.set_cons_zero, List.set_cons_succ, List.length_cons, List.length_nil, Nat.beq_refl, Nat.reduceAdd, Nat.reduceLeDiff, Nat.reduceEqDiff, Nat.zero_add, if_true, if_false, Bool.false_eq_true, reduceIte, Bool.not_true, Bool.not_false, small_few0, small_few1, small_few2, small_few3, fCallN, dl, wv, nw]) rfl ?_)
  refine wSeq_of (pws_nx (Γ' := [.fx (.ref a), .fx (.ref s), .d (dI n), .d (.list ((allF n 8).map dT)), .ml ((allF n 8).map dT), .un, .un, .un, .un, .un]) (by simp only [guardN, bodyD, fSeq, fAsg, fAsgM, fApp, fRet, fRetN, fDrop, fIfS, fNext, fRaise, fIf, fAnd, fOr, fNot, fT, bo, bnd, bndA, rB, fCall0, noEx, fCall, fCallP, permL, fCons, fNil, fTup, fLst, lim, fCb, ret, fOp, fUn, fVar, fC, fIsi, fIsiLT, isLT, fChain, fLk, fLkB, fLkM, fRevL, fSet2, fFrz, lockL, lockG, lkC, sName, sTup, sCons, sNil, wipeC, List.map_cons, List.map_nil, List.replicate_succ, List.replicate_zero, List.cons_append, List.nil_append, List.getElem?_cons_zero, List.getElem?_cons_succ, List.set_cons_zero, List.set_cons_succ, List.length_cons, List.length_nil, Nat.beq_refl, Nat.reduceAdd, Nat.reduceLeDiff, Nat.reduceEqDiff, Nat.zero_add, if_true, if_false, Bool.false_eq_true, reduceIte, Bool.not_true, Bool.not_false, small_few0, small_few1, small_few2, small_few3, ne, mv, ll, n1, Bool.not_true]) rfl ?_)
  refine wSeq_of (pws_nx (Γ' := [.fx (.ref a), .fx (.ref s), .d (dI n), .d (.list ((allF n 8).map dT)), .ml ((allF n 8).map dT ++ [.none]), .un, .un, .un, .un, .un]) (by
    have sm : small ((allF n 8).map dT).length = true := Nat.ble_eq_true_of_le (by rw [List.length_map]; omega)
    simp only [guardN, bodyD, fSeq, fAsg, fAsgM, fApp, fRet, fRetN, fDrop, fIfS, fNext, fRaise, fIf, fAnd, fOr, fNot, fT, bo, bnd, bndA, rB, fCall0, noEx, fCall, fCallP, permL, fCons, fNil, fTup, fLst, lim, fCb, ret, fOp, fUn, fVar, fC, fIsi, fIsiLT, isLT, fChain, fLk, fLkB, fLkM, fRevL, fSet2, fFrz, lockL, lockG, lkC, sName, sTup, sCons, sNil, wipeC, List.map_cons, List.map_nil, List.replicate_succ, List.replicate_zero, List.cons_append, List.nil_append, List.getElem?_cons_zero, List.getElem?_cons_succ, List.set_cons_zero, List.set_cons_succ, List.length_cons, List.length_nil, Nat.beq_refl, Nat.reduceAdd, Nat.reduceLeDiff, Nat.reduceEqDiff, Nat.zero_add, if_true, if_false, Bool.false_eq_true, reduceIte, Bool.not_true, Bool.not_false, small_few0, small_few1, small_few2, small_few3, sm]) rfl ?_)
  refine wSeq_of (pws_nx (Γ' := [.fx (.ref a), .fx (.ref s), .d (dI n), .d (.list ((allF n 8).map dT)), .ml ((allF n 8).map dT ++ [.none]), .un, .un, .un, .un, .un]) (by simp only [guardN, bodyD, fSeq, fAsg, fAsgM, fApp, fRet, fRetN, fDrop, fIfS, fNext, fRaise, fIf, fAnd, fOr, fNot, fT, bo, bnd, bndA, rB, fCall0, noEx, fCall, fCallP, permL, fCons, fNil, fTup, fLst, lim, fCb, ret, fOp, fUn, fVar, fC, fIsi, fIsiLT, isLT, fChain, fLk, fLkB, fLkM, fRevL, fSet2, fFrz, lockL, lockG, lkC, sName, sTup, sCons, sNil, wipeC, List.map_cons, List.map_nil, List.replicate_succ, List.replicate_zero, List.cons_append, List.nil_append, List.getElem?_cons_zero, List.getElem?_cons_succ, List.set_cons_zero, List.set_cons_succ, List.length_cons, List.length_nil, Nat.beq_refl, Nat.reduceAdd, Nat.reduceLeDiff, Nat.reduceEqDiff, Nat.zero_add, if_true, if_false, Bool.false_eq_true, reduceIte, Bool.not_true, Bool.not_false, small_few0, small_few1, small_few2, small_few3, wv, ne, Bool.not_true]) rfl ?_)
  refine wSeq_of (wAsg_of (wDraw_of (wCons_of (pw_of (d := .list (eights.map fun q => .tuple [dI q.1, .int q.2])) rfl (wNil_of (wpick_v (by decide) (by decide) (by omega) fun d hd => ?_))))))
  obtain ⟨q, hq, rfl⟩ := (List.mem_map.mp hd)
  obtain ⟨q1, q2, q3⟩ := eights_ok hq
  refine (show wSeq _ _ [.fx (.ref a), .fx (.ref s), .d (dI n), .d (.list ((allF n 8).map dT)), .ml ((allF n 8).map dT ++ [.none]), .d (dI q.1), .d (.int q.2), .un, .un, .un] 2 _ _ from ?_)
  have mv2 := many_v q1 q2
  rw [q3] at mv2
  have n2' := neA_v q.2 q.2
  rw [decide_eq_true rfl] at n2'
  have rest : ∀ T : Int, T ≤ 100 → (wSeq (wAsg (wTup (wCons (wDraw W__law_any_dials (wCons (pw (fC (.int 8))) (wCons (pw (fC (.int 24))) wNil))) (wCons (wDraw W__law_bad_dials wNil) wNil))) (sTup 2 (sCons (sName 7) (sCons (sName 8) sNil)))) (wSeq (wIfS (wNot (wT (wTmE "TooMany(7)" f_fair_tours (fCons (fVar 7) fNil)))) (pws 1 (fRet (fC (.bool false)))) wNext) (wSeq (wIfS (wAnd (pwb (fT (fOp oGt (fCall0 f__law_count (fCons (fVar 7) fNil)) (fC (.int 8))))) (wNot (wT (wTmE "TooMany(8)" f_fair_many (fCons (fVar 7) fNil))))) (pws 1 (fRet (fC (.bool false)))) wNext) (wPickL "BadDials" 9 [(f_fair_tours, (fCons (fVar 8) fNil)), (f_fair_many, (fCons (fVar 8) fNil))])))) [.fx (.ref a), .fx (.ref s), .d (dI n), .d (.list ((allF n 8).map dT)), .ml ((allF n 8).map dT ++ [.none]), .d (dI q.1), .d (.int q.2), .un, .un, .un] T (fun _ _ => False) (fun d _ => d = .bool true) := fun T hT => by
    refine wSeq_of (wAsg_of (wTup_of (wCons_of (wDraw_of (wCons_of (pw_of (d := .int 8) rfl (wCons_of (pw_of (d := .int 24) rfl (wNil_of (wany_g ⟨[8], by decide +kernel, by decide, by decide⟩ (by omega) fun m hm m8 _ => ?_))))))))))
    refine wCons_of (wDraw_of (wNil_of (wbadDials_v (by omega) fun bd hbd => wNil_of ⟨rfl, ?_⟩)))
    refine (show wSeq _ _ [.fx (.ref a), .fx (.ref s), .d (dI n), .d (.list ((allF n 8).map dT)), .ml ((allF n 8).map dT ++ [.none]), .d (dI q.1), .d (.int q.2), .d (dI m), .d bd, .un] _ _ _ from ?_)
    refine wSeq_of (wIfS_of (wNot_of (wT_of ⟨raises_of (ds := [dI m]) rfl (tours_many hm (by omega)), ?_⟩)))
    refine (show (if (!true) = true then _ else _) from ?_)
    rw [if_neg (by decide)]
    refine wNext_of ?_
    have lc := lcount_v hm
    have g8 := gtI_v (prod m) 8
    refine wSeq_of (wIfS_of (wAnd_of (pwb_of (b := decide (8 < prod m)) (by simp only [guardN, bodyD, fSeq, fAsg, fAsgM, fApp, fRet, fRetN, fDrop, fIfS, fNext, fRaise, fIf, fAnd, fOr, fNot, fT, bo, bnd, bndA, rB, fCall0, noEx, fCall, fCallP, permL, fCons, fNil, fTup, fLst, lim, fCb, ret, fOp, fUn, fVar, fC, fIsi, fIsiLT, isLT, fChain, fLk, fLkB, fLkM, fRevL, fSet2, fFrz, lockL, lockG, lkC, sName, sTup, sCons, sNil, wipeC, List.map_cons, List.map_nil, List.replicate_succ, List.replicate_zero, List.cons_append, List.nil_append, List.getElem?_cons_zero, List.getElem?_cons_succ, List.set_cons_zero, List.set_cons_succ, List.length_cons, List.length_nil, Nat.beq_refl, Nat.reduceAdd, Nat.reduceLeDiff, Nat.reduceEqDiff, Nat.zero_add, if_true, if_false, Bool.false_eq_true, reduceIte, Bool.not_true, Bool.not_false, small_few0, small_few1, small_few2, small_few3, lc, g8]) ?_)))
    have fin : wPickL "BadDials" 9 [(f_fair_tours, (fCons (fVar 8) fNil)), (f_fair_many, (fCons (fVar 8) fNil))] [.fx (.ref a), .fx (.ref s), .d (dI n), .d (.list ((allF n 8).map dT)), .ml ((allF n 8).map dT ++ [.none]), .d (dI q.1), .d (.int q.2), .d (dI m), .d bd, .un] (T + 1 + 1) (fun _ _ => False) (fun d _ => d = .bool true) :=
      ⟨(show 9 < 10 by decide), ⟨raises_of (ds := [bd]) rfl (tours_bad hbd), raises_of (ds := [bd]) rfl (many_bad hbd), trivial⟩, by omega, rfl⟩
    by_cases z : 8 < prod m
    · rw [decide_eq_true z, if_pos rfl]
      refine wNot_of (wT_of ⟨raises_of (ds := [dI m]) rfl (many_many hm z), ?_⟩)
      refine (show (if (!true) = true then _ else _) from ?_)
      rw [if_neg (by decide)]
      exact wNext_of fin
    · rw [decide_eq_false z, if_neg (by decide), if_neg (by decide)]
      exact wNext_of fin
  refine wSeq_of (wIfS_of (wAnd_of (wT_of (wOp_of (wDraw_of (wCons_of (pw_of (d := .int 3) rfl (wNil_of (draw_of (by decide) (by decide) (by omega) fun r hr => pw_of (d := .int 0) rfl ?_)))))))))
  refine (show (match oEqA (.int (r : Nat)) (.int 0) with | some z => (match z with | .bool b => _ | _ => False) | none => False) from ?_)
  have e0 : oEqA (.int (r : Nat)) (.int 0) = some (.bool (decide ((r : Int) = 0))) := rfl
  rw [e0]
  dsimp only
  by_cases z : (r : Int) = 0
  · rw [decide_eq_true z, if_pos rfl]
    refine pwb_of (b := false) (by simp only [guardN, bodyD, fSeq, fAsg, fAsgM, fApp, fRet, fRetN, fDrop, fIfS, fNext, fRaise, fIf, fAnd, fOr, fNot, fT, bo, bnd, bndA, rB, fCall0, noEx, fCall, fCallP, permL, fCons, fNil, fTup, fLst, lim, fCb, ret, fOp, fUn, fVar, fC, fIsi, fIsiLT, isLT, fChain, fLk, fLkB, fLkM, fRevL, fSet2, fFrz, lockL, lockG, lkC, sName, sTup, sCons, sNil, wipeC, List.map_cons, List.map_nil, List.replicate_succ, List.replicate_zero, List.cons_append, List.nil_append, List.getElem?_cons_zero, List.getElem?_cons_succ, List.set_cons_zero, List.set_cons_succ, List.length_cons, List.length_nil, Nat.beq_refl, Nat.reduceAdd, Nat.reduceLeDiff, Nat.reduceEqDiff, Nat.zero_add, if_true, if_false, Bool.false_eq_true, reduceIte, Bool.not_true, Bool.not_false, small_few0, small_few1, small_few2, small_few3, mv2, n2', Bool.not_true]) ?_
    rw [if_neg (by decide)]
    exact wNext_of (rest _ (by omega))
  · rw [decide_eq_false z, if_neg (by decide), if_neg (by decide)]
    exact wNext_of (rest _ (by omega))
end
end Mv
namespace Mv
open PySem LamX L2 PyProof.Rows PySem.Spec
section
variable {P : Program} {w : World} {K : PySem.W.Frag} {mg mb : Str → Option Value} {L : List (Addr × Addr)} {fa a : Addr} {s₁ : Shared} {vs : List Value} {ns : List Int}
def startH (K : PySem.W.Frag) (L : List (Addr × Addr)) (a : Addr) (vs : List Value) (ns : List Int) : Hp := fun b =>
  if b ∈ L.map (·.2) then some (.tbl #[]) else if b = a ∧ K.lookup a = none then some (.frz { cls := .type "list", data := .seq vs.toArray } (.lst (ns.map V.int))) else none
theorem start_some {b : Addr} {u : HO} (h : startH K L a vs ns b = some u) : (b ∈ L.map (·.2) ∧ u = .tbl #[]) ∨ (b = a ∧ K.lookup a = none ∧ u = .frz { cls := .type "list", data := .seq vs.toArray } (.lst (ns.map V.int))) := by
  unfold startH at h
  by_cases h1 : b ∈ L.map (·.2)
  · rw [if_pos h1] at h
    exact .inl ⟨h1, (Option.some.inj h).symm⟩
  · rw [if_neg h1] at h
    by_cases h2 : b = a ∧ K.lookup a = none
    · rw [if_pos h2] at h
      exact .inr ⟨h2.1, h2.2, (Option.some.inj h).symm⟩
    · rw [if_neg h2] at h
      cases h
theorem call_at (KX : K.In s₁.heap) (nsG : s₁.heap.Ns mainGlobals mg) (hb : s₁.heap.Ns builtinsNs mb) (boots : ∀ x : Str, x ≠ "__name__" → mb x = bootBuiltins x) (lims : s₁.heap.NoLimit) (hg : s₁.gens = #[])
    (hT : ∀ p ∈ L, s₁.heap.get? p.2 = some { cls := .none, data := .fields #[] }) (nT : ∀ p ∈ L, K.lookup p.2 = none) (cd : ∀ p ∈ L, PySem.W.CodeHd s₁.heap p.1 p.2)
    (blt : ∃ (bq : Addr) (oq : Obj), mg "__builtins__" = some (.ref bq) ∧ bq ≠ builtinsNs ∧ s₁.heap.get? bq = some oq ∧ oq.cls = .type "module" ∧ oq.dict = some builtinsNs ∧ oq.data = .plain)
    (ha : s₁.heap.get? a = some { cls := .type "list", data := .seq vs.toArray }) (hi : IntsAre vs ns) (hl : ns.length ≤ sizeLine) (sy : ∃ mm, s₁.heap.Ns sysModules mm)
    (F : ∀ base : Heap, K.In base → base.Ns mainGlobals mg → (∀ p ∈ L, TabB base mg p.1 p.2) → (∃ o, base.get? sysModules = some o) → ∀ H : Hp, Env0 P w K mg base callerA [] s₁ H → SqL K H a (ns.map V.int) → (∀ p ∈ L, H p.2 = some (.tbl #[])) → (∀ b u, H b = some u → b ∈ L.map (·.2) ∨ (b = a ∧ ∃ o x, u = .frz o x)) →
      codeAny (model P w) callerA (.call (.ref fa) ⟨[.ref a], []⟩) (CR CX0 [] P w H s₁ (fun v _ => v = .bl true) fun _ _ _ => False) s₁) :
    codeAny (model P w) callerA (.call (.ref fa) ⟨[.ref a], []⟩)
      (fun r z => r = .ok (.ret (.bool true)) ∧ OldK s₁.heap z.heap ∧ z.os = s₁.os ∧ AllBare z.gens) s₁ := by
  obtain ⟨H, hH⟩ : ∃ H : Hp, H = startH K L a vs ns := ⟨_, rfl⟩
  have rel := vals_ints hi
  have len := hi.length
  have hTm : ∀ {b : Addr}, b ∈ L.map (·.2) → s₁.heap.get? b = some { cls := .none, data := .fields #[] } := fun {b} hb => by
    obtain ⟨p, hp, rfl⟩ := List.mem_map.mp hb
    exact hT p hp
  have aPt : a ∉ L.map (·.2) := fun z => by
    rw [hTm z] at ha
    have q : Data.fields #[] = Data.seq vs.toArray _ := congrArg Obj.data (Option.some.inj ha)
    cases q
  have atT : ∀ {b : Addr}, b ∈ L.map (·.2) → H b = some (.tbl #[]) := fun hb => by rw [hH]; exact if_pos hb
  have is_ : ∀ {b : Addr} {u : HO}, H b = some u → (b ∈ L.map (·.2) ∧ u = .tbl #[]) ∨ (b = a ∧ K.lookup a = none ∧ u = .frz { cls := .type "list", data := .seq vs.toArray } (.lst (ns.map V.int))) := fun h => start_some (by rw [← hH]; exact h)
  have seq : SqL K H a (ns.map V.int) := by
    cases q : K.lookup a with
    | none =>
      refine .inl (.inr ⟨{ cls := .type "list", data := .seq vs.toArray }, ?_⟩)
      rw [hH]
      exact (if_neg aPt).trans (if_pos ⟨rfl, q⟩)
    | some o =>
      have e := KX a o q
      rw [ha] at e
      cases e
      exact .inr ⟨_, vs.toArray, _, q, rfl, rfl, rfl, by rw [List.size_toArray, len]; exact hl, by simpa using rel⟩
  have good : HOk P w H s₁.heap := fun b u e => by
    rcases is_ e with ⟨hb, rfl⟩ | ⟨rfl, _, rfl⟩
    · exact hTm hb
    · exact ⟨ha, by rw [List.length_map]; exact hl, vs, _, rel, ha⟩
  have bare : ∀ {b : Addr} {o : Obj}, s₁.heap.get? b = some o → (∀ us n, o.data ≠ .seq us n) → o.data ≠ .fields #[] → H b = none := fun {b o} e h1 h2 => by
    cases q : H b with
    | none => rfl
    | some u =>
      rcases is_ q with ⟨z, _⟩ | ⟨z, _⟩
      · rw [hTm z] at e; cases e; exact (h2 rfl).elim
      · rw [z, ha] at e; cases e; exact (h1 _ _ rfl).elim
  have below : ∀ {b : Addr} {o : Obj}, s₁.heap.get? b = some o → (∀ us n, o.data ≠ .seq us n) → o.data ≠ .fields #[] → (hidT s₁.heap H).get? b = some o := fun e h1 h2 => hidT_get e (bare e h1 h2)
  have space : ∀ {b : Addr} {m : Str → Option Value}, s₁.heap.Ns b m → (hidT s₁.heap H).Ns b m := fun ⟨o, es, ep, e, d, r⟩ => ⟨o, es, ep, below e (fun us n z => by rw [d] at z; cases z) (fun z => by rw [d] at z; cases z), d, r⟩
  have Kb : K.In (hidT s₁.heap H) := fun b o e => hidT_get (KX b o e) (by
    cases q : H b with
    | none => rfl
    | some u =>
      rcases is_ q with ⟨z, _⟩ | ⟨z, k, _⟩
      · obtain ⟨p, hp, rfl⟩ := List.mem_map.mp z
        rw [nT p hp] at e; cases e
      · rw [z, k] at e; cases e)
  have tab : ∀ p ∈ L, TabB (hidT s₁.heap H) mg p.1 p.2 := fun p hp => by
    refine ⟨?_, ?_, fun z => ?_⟩
    · obtain ⟨o, us, file, tf, flags, tg, inF, text, tt, e1, r1, r2, r3, rest⟩ := cd p hp
      refine ⟨o, us, file, tf, flags, tg, inF, text, tt, below e1 (fun us n z => by rw [r2] at z; cases z) (fun z => ?_), r1, r2, r3, rest⟩
      rw [r2] at z
      cases z
      simp at r3
    · obtain ⟨bq, oq, b1, b2, b3, b4, b5, b6⟩ := blt
      refine ⟨bq, oq, b1, b2, fun q => ?_, fun q => ?_, below b3 (fun us n z => by rw [b6] at z; cases z) (fun z => by rw [b6] at z; cases z), b4, b5, b6⟩
      · obtain ⟨o, es, ep, e, d, _⟩ := nsG
        rw [q, e] at b3
        cases b3
        rw [d] at b6
        cases b6
      · rw [q, hT p hp] at b3
        cases b3
        cases b6
    · obtain ⟨o, es, ep, e, d, _⟩ := nsG
      rw [z, hT p hp] at e
      cases e
      cases d
  have env : Env0 P w K mg (hidT s₁.heap H) callerA [] s₁ H :=
    ⟨rfl, ⟨Kb, space nsG, ⟨mb, space hb, boots⟩, lims.elim fun m h => ⟨m, space h.1, h.2⟩⟩, fun b o e => of_hidT e, Nat.le_of_eq (hidT_size _ _), trivial, fun b z => absurd (show b ∈ ([] : List Addr) from z) List.not_mem_nil, good, .of_eq hg⟩
  refine codeAny_mono (F _ Kb (space nsG) tab (let ⟨_, h⟩ := sy; let ⟨o, _, _, e, _⟩ := space h; ⟨o, e⟩) H env seq (fun p hp => atT (List.mem_map.mpr ⟨p, hp, rfl⟩)) fun b u h => (is_ h).imp (·.1) fun z => ⟨z.1, _, _, z.2.2⟩) fun r s' h => ?_
  cases r with
  | error e => exact h.elim
  | ok fl =>
    cases fl with
    | next => exact False.elim h
    | brk => exact False.elim h
    | cont => exact False.elim h
    | ret u =>
      obtain ⟨v, H', os, bareG, un, ok', rv, q⟩ := h
      obtain rfl : v = .bl true := q
      obtain rfl : u = Value.bool true := rv
      have stays : ∀ b o, b ∉ L.map (·.2) → s₁.heap.get? b = some o → s'.heap.get? b = some o := fun b o nb e => by
        cases q : H b with
        | none => exact un.keep b o e q (fun z => absurd (show b ∈ ([] : List Addr) from z) List.not_mem_nil) List.not_mem_nil
        | some u =>
          rcases is_ q with ⟨z, _⟩ | ⟨z, _, hu⟩
          · exact absurd z nb
          · rw [hu] at q
            obtain ⟨e1, _⟩ := good b _ q
            obtain ⟨e2, _⟩ := ok' b _ (un.frzs b _ _ q)
            rw [e] at e1
            cases e1
            exact e2
      have grown : ∀ {b : Addr}, b ∈ L.map (·.2) → ∃ more : Array Value, s'.heap.get? b = some { cls := .none, data := .fields (#[] ++ more) } := fun {b} hb => by
        obtain ⟨more, hm⟩ := un.tbls b #[] (atT hb)
        exact ⟨more, ok' b _ hm⟩
      refine ⟨rfl, ⟨fun b o e => ?_, fun b o e => ?_⟩, os, bareG⟩
      · by_cases z : b ∈ L.map (·.2)
        · obtain ⟨more, g⟩ := grown z
          obtain ⟨p, hp, rfl⟩ := List.mem_map.mp z
          rw [hT p hp] at e
          cases e
          exact .inr (.inl ⟨((cd p hp).tab (hT p hp)).isCodeTable, rfl, #[], more, rfl, g⟩)
        · exact .inl (stays b o z e)
      · by_cases z : b ∈ L.map (·.2)
        · obtain ⟨more, g⟩ := grown z
          exact ⟨_, g⟩
        · exact ⟨o, stays b o z e⟩
end
theorem walk_at {l : PySem.W.OpenLaw} {n : Nat} {q : Program} {loose : List Str} {XP : (Str → Option Value) → Heap → Prop} {YP : World → Heap → Prop} {d : DefRec} {K : Params → PySem.W.Frag} (hn : l.most = some n) (hn2 : n ≤ sizeLine) (hdf : d.params.defaults = [])
    (hY : ∀ (w : World) (h : Heap), YP w h → (K w.params).In h) (hin : importsNone q = true)
    (F : ∀ (w : World) (mg : Str → Option Value) (fa : Addr) (h : Heap), YP w h → (K w.params).In h → h.Ns mainGlobals mg → mg d.name = some (.ref fa) → ∃ L : List (Addr × Addr), (∀ p ∈ L, h.get? p.2 = some { cls := .none, data := .fields #[] }) ∧ (∀ p ∈ L, (K w.params).lookup p.2 = none) ∧ (∀ p ∈ L, PySem.W.CodeHd h p.1 p.2) ∧
      ∀ base : Heap, (K w.params).In base → base.Ns mainGlobals mg → (∀ p ∈ L, TabB base mg p.1 p.2) → (∃ o, base.get? sysModules = some o) → ∀ (s : Shared) (H : Hp) (a : Addr) (ns : List Int), ns.length ≤ n → Env0 l.prog w (K w.params) mg base callerA [] s H → SqL (K w.params) H a (ns.map V.int) → (∀ p ∈ L, H p.2 = some (.tbl #[])) → (∀ b u, H b = some u → b ∈ L.map (·.2) ∨ (b = a ∧ ∃ o x, u = .frz o x)) →
        codeAny (model l.prog w) callerA (.call (.ref fa) ⟨[.ref a], []⟩) (CR CX0 [] l.prog w H s (fun v _ => v = .bl true) fun _ _ _ => False) s) :
    PySem.W.WalkO q loose XP YP l.row.toRowW d []
      (fun g us => PySem.call g us) := by
  refine Att.attach_callB hn hdf fun w s₀ s₁ mg mb fa o pm cd doc a vs ns G Y _ _ _ hmg hobj hints hlen _ hg => ?_
  have KX := hY w _ Y
  obtain ⟨L, hT, nT, C, R⟩ := F w mg fa _ Y KX G.T.g hmg
  exact call_at KX G.T.g G.T.b G.T.builtins G.T.nolimit hg hT nT C G.T.bmain hobj hints (Nat.le_trans hlen hn2) (let ⟨mm, h, _⟩ := (G.T.seer hin).mods; ⟨mm, h⟩) fun base k1 k2 k3 ky H k4 k5 k6 k7 => R base k1 k2 k3 ky s₁ H a ns hlen k4 k5 k6 k7
end Mv
namespace Mv
open PySem L2 LamX Evl
theorem all_mk {P : Program} {w : World} {K : PySem.W.Frag} {h : Heap} {mg : Str → Option Value} {fa : Addr} {f0 f1 f2 f3 f4 f5 f6 f7 f8 f9 f10 f11 f12 f13 f14 f15 f16 f17 f18 f19 f20 f21 f22 f23 f24 f25 f26 f27 f28 f29 f30 f31 f32 f33 f34 f35 C0 C1 C2 c Pt : Addr}
  {od0 an0 od1 an1 od2 an2 od3 an3 od4 an4 od5 an5 od6 an6 od7 an7 od8 an8 od9 an9 od10 an10 od11 an11 od12 an12 od13 an13 od14 an14 od15 an15 od16 an16 od17 an17 od18 an18 od19 an19 od20 an20 od21 an21 od22 an22 od23 an23 od24 an24 od25 an25 od26 an26 od27 an27 od28 an28 od29 an29 od30 an30 od31 an31 od32 an32 od33 an33 od34 an34 od35 an35 odc  : Option Addr}
  {sl0 sl1 sl2 sl3 sl4 sl5 sl6 sl7 sl8 sl9 sl10 sl11 sl12 sl13 sl14 sl15 sl16 sl17 sl18 sl19 sl20 sl21 sl22 sl23 sl24 sl25 sl26 sl27 sl28 sl29 sl30 sl31 sl32 sl33 sl34 sl35 slc  : Array (Option Value)}
  {oc0 kV0 dc0 pm0 cd0 ct0 oc1 kV1 dc1 pm1 cd1 ct1 oc2 kV2 dc2 pm2 cd2 ct2 oc3 kV3 dc3 pm3 cd3 ct3 oc4 kV4 dc4 pm4 cd4 ct4 oc5 kV5 dc5 pm5 cd5 ct5 oc6 kV6 dc6 pm6 cd6 ct6 oc7 kV7 dc7 pm7 cd7 ct7 oc8 kV8 dc8 pm8 cd8 ct8 oc9 kV9 dc9 pm9 cd9 ct9 oc10 kV10 dc10 pm10 cd10 ct10 oc11 kV11 dc11 pm11 cd11 ct11 oc12 kV12 dc12 pm12 cd12 ct12 oc13 kV13 dc13 pm13 cd13 ct13 oc14 kV14 dc14 pm14 cd14 ct14 oc15 kV15 dc15 pm15 cd15 ct15 oc16 kV16 dc16 pm16 cd16 ct16 oc17 kV17 dc17 pm17 cd17 ct17 oc18 kV18 dc18 pm18 cd18 ct18 oc19 kV19 dc19 pm19 cd19 ct19 oc20 kV20 dc20 pm20 cd20 ct20 oc21 kV21 dc21 pm21 cd21 ct21 oc22 kV22 dc22 pm22 cd22 ct22 oc23 kV23 dc23 pm23 cd23 ct23 oc24 kV24 dc24 pm24 cd24 ct24 oc25 kV25 dc25 pm25 cd25 ct25 oc26 kV26 dc26 pm26 cd26 ct26 oc27 kV27 dc27 pm27 cd27 ct27 oc28 kV28 dc28 pm28 cd28 ct28 oc29 kV29 dc29 pm29 cd29 ct29 oc30 kV30 dc30 pm30 cd30 ct30 oc31 kV31 dc31 pm31 cd31 ct31 oc32 kV32 dc32 pm32 cd32 ct32 oc33 kV33 dc33 pm33 cd33 ct33 oc34 kV34 dc34 pm34 cd34 ct34 oc35 kV35 dc35 pm35 ct35 occ  : Value} {vsc  : Array Value} {tk_NO_LIMIT : Tok} {CS fSI fSG : Addr} {sodI sodG sanI sanG : Option Addr} {socI skVI sdcI spmI scdI sctI socG skVG sdcG spmG scdG sctG : Value} {sslI sslG : Array (Option Value)} {fTM tmN : Addr} {tmn tmq : Str} {tmb tmB : List Value} {tms : List Str} {tmu : List Value} {tma : Bool} {tmc : Option Bool} {tmd : Option Addr} {tm0 tm1 tm2 tm3 tm5 : Option Value} {tmoc tmdc tmpm tmcd tmct : Value} {tmod tman : Option Addr} {tmsl : Array (Option Value)} {tp1 tp2 tq1 tq2 tq3 tq4 : Pos} (KX : K.In h) (G : h.Ns mainGlobals mg) (hfa : mg "law" = some (.ref fa))
  (a0 : PySem.W.nsIn K mainGlobals "place_count" = some (some (.ref f0))) (l0 : K.lookup f0 = some ⟨oc0, od0, .func (PySem.W.fnOf "place_count" "place_count" (defArgs s_place_count) (defBody s_place_count) (defScope s_place_count) .none kV0 dc0 pm0 an0 cd0 ct0), sl0⟩) (c0 : PySem.W.codeIn K cd0 "place_count" = true) (k0 : PySem.W.keepIn K (.ref f0) = true)
  (a1 : PySem.W.nsIn K mainGlobals "all_places" = some (some (.ref f1))) (l1 : K.lookup f1 = some ⟨oc1, od1, .func (PySem.W.fnOf "all_places" "all_places" (defArgs s_all_places) (defBody s_all_places) (defScope s_all_places) .none kV1 dc1 pm1 an1 cd1 ct1), sl1⟩) (c1 : PySem.W.codeIn K cd1 "all_places" = true) (k1 : PySem.W.keepIn K (.ref f1) = true)
  (a2 : PySem.W.nsIn K mainGlobals "nothing_of" = some (some (.ref f2))) (l2 : K.lookup f2 = some ⟨oc2, od2, .func (PySem.W.fnOf "nothing_of" "nothing_of" (defArgs s_nothing_of) (defBody s_nothing_of) (defScope s_nothing_of) .none kV2 dc2 pm2 an2 cd2 ct2), sl2⟩) (c2 : PySem.W.codeIn K cd2 "nothing_of" = true) (k2 : PySem.W.keepIn K (.ref f2) = true)
  (a3 : PySem.W.nsIn K mainGlobals "take_off" = some (some (.ref f3))) (l3 : K.lookup f3 = some ⟨oc3, od3, .func (PySem.W.fnOf "take_off" "take_off" (defArgs s_take_off) (defBody s_take_off) (defScope s_take_off) .none kV3 dc3 pm3 an3 cd3 ct3), sl3⟩) (c3 : PySem.W.codeIn K cd3 "take_off" = true) (k3 : PySem.W.keepIn K (.ref f3) = true)
  (a4 : PySem.W.nsIn K mainGlobals "opposite" = some (some (.ref f4))) (l4 : K.lookup f4 = some ⟨oc4, od4, .func (PySem.W.fnOf "opposite" "opposite" (defArgs s_opposite) (defBody s_opposite) (defScope s_opposite) .none kV4 dc4 pm4 an4 cd4 ct4), sl4⟩) (c4 : PySem.W.codeIn K cd4 "opposite" = true) (k4 : PySem.W.keepIn K (.ref f4) = true)
  (a5 : PySem.W.nsIn K mainGlobals "is_number" = some (some (.ref f5))) (l5 : K.lookup f5 = some ⟨oc5, od5, .func (PySem.W.fnOf "is_number" "is_number" (defArgs s_is_number) (defBody s_is_number) (defScope s_is_number) .none kV5 dc5 pm5 an5 cd5 ct5), sl5⟩) (c5 : PySem.W.codeIn K cd5 "is_number" = true) (k5 : PySem.W.keepIn K (.ref f5) = true)
  (a6 : PySem.W.nsIn K mainGlobals "is_between" = some (some (.ref f6))) (l6 : K.lookup f6 = some ⟨oc6, od6, .func (PySem.W.fnOf "is_between" "is_between" (defArgs s_is_between) (defBody s_is_between) (defScope s_is_between) .none kV6 dc6 pm6 an6 cd6 ct6), sl6⟩) (c6 : PySem.W.codeIn K cd6 "is_between" = true) (k6 : PySem.W.keepIn K (.ref f6) = true)
  (a7 : PySem.W.nsIn K mainGlobals "is_dials" = some (some (.ref f7))) (l7 : K.lookup f7 = some ⟨oc7, od7, .func (PySem.W.fnOf "is_dials" "is_dials" (defArgs s_is_dials) (defBody s_is_dials) (defScope s_is_dials) .none kV7 dc7 pm7 an7 cd7 ct7), sl7⟩) (c7 : PySem.W.codeIn K cd7 "is_dials" = true) (k7 : PySem.W.keepIn K (.ref f7) = true)
  (a8 : PySem.W.nsIn K mainGlobals "check_dials" = some (some (.ref f8))) (l8 : K.lookup f8 = some ⟨oc8, od8, .func (PySem.W.fnOf "check_dials" "check_dials" (defArgs s_check_dials) (defBody s_check_dials) (defScope s_check_dials) .none kV8 dc8 pm8 an8 cd8 ct8), sl8⟩) (c8 : PySem.W.codeIn K cd8 "check_dials" = true) (k8 : PySem.W.keepIn K (.ref f8) = true)
  (a9 : PySem.W.nsIn K mainGlobals "check_at_most" = some (some (.ref f9))) (l9 : K.lookup f9 = some ⟨oc9, od9, .func (PySem.W.fnOf "check_at_most" "check_at_most" (defArgs s_check_at_most) (defBody s_check_at_most) (defScope s_check_at_most) .none kV9 dc9 pm9 an9 cd9 ct9), sl9⟩) (c9 : PySem.W.codeIn K cd9 "check_at_most" = true) (k9 : PySem.W.keepIn K (.ref f9) = true)
  (a10 : PySem.W.nsIn K mainGlobals "kinds_by_twos" = some (some (.ref f10))) (l10 : K.lookup f10 = some ⟨oc10, od10, .func (PySem.W.fnOf "kinds_by_twos" "kinds_by_twos" (defArgs s_kinds_by_twos) (defBody s_kinds_by_twos) (defScope s_kinds_by_twos) .none kV10 dc10 pm10 an10 cd10 ct10), sl10⟩) (c10 : PySem.W.codeIn K cd10 "kinds_by_twos" = true) (k10 : PySem.W.keepIn K (.ref f10) = true)
  (a11 : PySem.W.nsIn K mainGlobals "count_each" = some (some (.ref f11))) (l11 : K.lookup f11 = some ⟨oc11, od11, .func (PySem.W.fnOf "count_each" "count_each" (defArgs s_count_each) (defBody s_count_each) (defScope s_count_each) .none kV11 dc11 pm11 an11 cd11 ct11), sl11⟩) (c11 : PySem.W.codeIn K cd11 "count_each" = true) (k11 : PySem.W.keepIn K (.ref f11) = true)
  (a12 : PySem.W.nsIn K mainGlobals "first_routes" = some (some (.ref f12))) (l12 : K.lookup f12 = some ⟨oc12, od12, .func (PySem.W.fnOf "first_routes" "first_routes" (defArgs s_first_routes) (defBody s_first_routes) (defScope s_first_routes) .none kV12 dc12 pm12 an12 cd12 ct12), sl12⟩) (c12 : PySem.W.codeIn K cd12 "first_routes" = true) (k12 : PySem.W.keepIn K (.ref f12) = true)
  (a13 : PySem.W.nsIn K mainGlobals "all_routes" = some (some (.ref f13))) (l13 : K.lookup f13 = some ⟨oc13, od13, .func (PySem.W.fnOf "all_routes" "all_routes" (defArgs s_all_routes) (defBody s_all_routes) (defScope s_all_routes) .none kV13 dc13 pm13 an13 cd13 ct13), sl13⟩) (c13 : PySem.W.codeIn K cd13 "all_routes" = true) (k13 : PySem.W.keepIn K (.ref f13) = true)
  (a14 : PySem.W.nsIn K mainGlobals "all_fair" = some (some (.ref f14))) (l14 : K.lookup f14 = some ⟨oc14, od14, .func (PySem.W.fnOf "all_fair" "all_fair" (defArgs s_all_fair) (defBody s_all_fair) (defScope s_all_fair) .none kV14 dc14 pm14 an14 cd14 ct14), sl14⟩) (c14 : PySem.W.codeIn K cd14 "all_fair" = true) (k14 : PySem.W.keepIn K (.ref f14) = true)
  (a15 : PySem.W.nsIn K mainGlobals "fair_tours" = some (some (.ref f15))) (l15 : K.lookup f15 = some ⟨oc15, od15, .func (PySem.W.fnOf "fair_tours" "fair_tours" (defArgs s_fair_tours) (defBody s_fair_tours) (defScope s_fair_tours) .none kV15 dc15 pm15 an15 cd15 ct15), sl15⟩) (c15 : PySem.W.codeIn K cd15 "fair_tours" = true) (k15 : PySem.W.keepIn K (.ref f15) = true)
  (a16 : PySem.W.nsIn K mainGlobals "fair_many" = some (some (.ref f16))) (l16 : K.lookup f16 = some ⟨oc16, od16, .func (PySem.W.fnOf "fair_many" "fair_many" (defArgs s_fair_many) (defBody s_fair_many) (defScope s_fair_many) .none kV16 dc16 pm16 an16 cd16 ct16), sl16⟩) (c16 : PySem.W.codeIn K cd16 "fair_many" = true) (k16 : PySem.W.keepIn K (.ref f16) = true)
  (a17 : PySem.W.nsIn K mainGlobals "_law_begun" = some (some (.ref f17))) (l17 : K.lookup f17 = some ⟨oc17, od17, .func (PySem.W.fnOf "_law_begun" "_law_begun" (defArgs s__law_begun) (defBody s__law_begun) (defScope s__law_begun) .none kV17 dc17 pm17 an17 cd17 ct17), sl17⟩) (c17 : PySem.W.codeIn K cd17 "_law_begun" = true) (k17 : PySem.W.keepIn K (.ref f17) = true)
  (a18 : PySem.W.nsIn K mainGlobals "_law_draw" = some (some (.ref f18))) (l18 : K.lookup f18 = some ⟨oc18, od18, .func (PySem.W.fnOf "_law_draw" "_law_draw" (defArgs s__law_draw) (defBody s__law_draw) (defScope s__law_draw) .none kV18 dc18 pm18 an18 cd18 ct18), sl18⟩) (c18 : PySem.W.codeIn K cd18 "_law_draw" = true) (k18 : PySem.W.keepIn K (.ref f18) = true)
  (a19 : PySem.W.nsIn K mainGlobals "_law_pick" = some (some (.ref f19))) (l19 : K.lookup f19 = some ⟨oc19, od19, .func (PySem.W.fnOf "_law_pick" "_law_pick" (defArgs s__law_pick) (defBody s__law_pick) (defScope s__law_pick) .none kV19 dc19 pm19 an19 cd19 ct19), sl19⟩) (c19 : PySem.W.codeIn K cd19 "_law_pick" = true) (k19 : PySem.W.keepIn K (.ref f19) = true)
  (a20 : PySem.W.nsIn K mainGlobals "_law_count" = some (some (.ref f20))) (l20 : K.lookup f20 = some ⟨oc20, od20, .func (PySem.W.fnOf "_law_count" "_law_count" (defArgs s__law_count) (defBody s__law_count) (defScope s__law_count) .none kV20 dc20 pm20 an20 cd20 ct20), sl20⟩) (c20 : PySem.W.codeIn K cd20 "_law_count" = true) (k20 : PySem.W.keepIn K (.ref f20) = true)
  (a21 : PySem.W.nsIn K mainGlobals "_law_places" = some (some (.ref f21))) (l21 : K.lookup f21 = some ⟨oc21, od21, .func (PySem.W.fnOf "_law_places" "_law_places" (defArgs s__law_places) (defBody s__law_places) (defScope s__law_places) .none kV21 dc21 pm21 an21 cd21 ct21), sl21⟩) (c21 : PySem.W.codeIn K cd21 "_law_places" = true) (k21 : PySem.W.keepIn K (.ref f21) = true)
  (a22 : PySem.W.nsIn K mainGlobals "_law_plus" = some (some (.ref f22))) (l22 : K.lookup f22 = some ⟨oc22, od22, .func (PySem.W.fnOf "_law_plus" "_law_plus" (defArgs s__law_plus) (defBody s__law_plus) (defScope s__law_plus) .none kV22 dc22 pm22 an22 cd22 ct22), sl22⟩) (c22 : PySem.W.codeIn K cd22 "_law_plus" = true) (k22 : PySem.W.keepIn K (.ref f22) = true)
  (a23 : PySem.W.nsIn K mainGlobals "_law_less" = some (some (.ref f23))) (l23 : K.lookup f23 = some ⟨oc23, od23, .func (PySem.W.fnOf "_law_less" "_law_less" (defArgs s__law_less) (defBody s__law_less) (defScope s__law_less) .none kV23 dc23 pm23 an23 cd23 ct23), sl23⟩) (c23 : PySem.W.codeIn K cd23 "_law_less" = true) (k23 : PySem.W.keepIn K (.ref f23) = true)
  (a24 : PySem.W.nsIn K mainGlobals "_law_nothing" = some (some (.ref f24))) (l24 : K.lookup f24 = some ⟨oc24, od24, .func (PySem.W.fnOf "_law_nothing" "_law_nothing" (defArgs s__law_nothing) (defBody s__law_nothing) (defScope s__law_nothing) .none kV24 dc24 pm24 an24 cd24 ct24), sl24⟩) (c24 : PySem.W.codeIn K cd24 "_law_nothing" = true) (k24 : PySem.W.keepIn K (.ref f24) = true)
  (a25 : PySem.W.nsIn K mainGlobals "_law_bad_dials" = some (some (.ref f25))) (l25 : K.lookup f25 = some ⟨oc25, od25, .func (PySem.W.fnOf "_law_bad_dials" "_law_bad_dials" (defArgs s__law_bad_dials) (defBody s__law_bad_dials) (defScope s__law_bad_dials) .none kV25 dc25 pm25 an25 cd25 ct25), sl25⟩) (c25 : PySem.W.codeIn K cd25 "_law_bad_dials" = true) (k25 : PySem.W.keepIn K (.ref f25) = true)
  (a26 : PySem.W.nsIn K mainGlobals "_law_many_error" = some (some (.ref f26))) (l26 : K.lookup f26 = some ⟨oc26, od26, .func (PySem.W.fnOf "_law_many_error" "_law_many_error" (defArgs s__law_many_error) (defBody s__law_many_error) (defScope s__law_many_error) .none kV26 dc26 pm26 an26 cd26 ct26), sl26⟩) (c26 : PySem.W.codeIn K cd26 "_law_many_error" = true) (k26 : PySem.W.keepIn K (.ref f26) = true)
  (a27 : PySem.W.nsIn K mainGlobals "_law_all_dials" = some (some (.ref f27))) (l27 : K.lookup f27 = some ⟨oc27, od27, .func (PySem.W.fnOf "_law_all_dials" "_law_all_dials" (defArgs s__law_all_dials) (defBody s__law_all_dials) (defScope s__law_all_dials) .none kV27 dc27 pm27 an27 cd27 ct27), sl27⟩) (c27 : PySem.W.codeIn K cd27 "_law_all_dials" = true) (k27 : PySem.W.keepIn K (.ref f27) = true)
  (a28 : PySem.W.nsIn K mainGlobals "_law_any_dials" = some (some (.ref f28))) (l28 : K.lookup f28 = some ⟨oc28, od28, .func (PySem.W.fnOf "_law_any_dials" "_law_any_dials" (defArgs s__law_any_dials) (defBody s__law_any_dials) (defScope s__law_any_dials) .none kV28 dc28 pm28 an28 cd28 ct28), sl28⟩) (c28 : PySem.W.codeIn K cd28 "_law_any_dials" = true) (k28 : PySem.W.keepIn K (.ref f28) = true)
  (a29 : PySem.W.nsIn K mainGlobals "_law_steps" = some (some (.ref f29))) (l29 : K.lookup f29 = some ⟨oc29, od29, .func (PySem.W.fnOf "_law_steps" "_law_steps" (defArgs s__law_steps) (defBody s__law_steps) (defScope s__law_steps) .none kV29 dc29 pm29 an29 cd29 ct29), sl29⟩) (c29 : PySem.W.codeIn K cd29 "_law_steps" = true) (k29 : PySem.W.keepIn K (.ref f29) = true)
  (a30 : PySem.W.nsIn K mainGlobals "_law_kind" = some (some (.ref f30))) (l30 : K.lookup f30 = some ⟨oc30, od30, .func (PySem.W.fnOf "_law_kind" "_law_kind" (defArgs s__law_kind) (defBody s__law_kind) (defScope s__law_kind) .none kV30 dc30 pm30 an30 cd30 ct30), sl30⟩) (c30 : PySem.W.codeIn K cd30 "_law_kind" = true) (k30 : PySem.W.keepIn K (.ref f30) = true)
  (a31 : PySem.W.nsIn K mainGlobals "_law_share" = some (some (.ref f31))) (l31 : K.lookup f31 = some ⟨oc31, od31, .func (PySem.W.fnOf "_law_share" "_law_share" (defArgs s__law_share) (defBody s__law_share) (defScope s__law_share) .none kV31 dc31 pm31 an31 cd31 ct31), sl31⟩) (c31 : PySem.W.codeIn K cd31 "_law_share" = true) (k31 : PySem.W.keepIn K (.ref f31) = true)
  (a32 : PySem.W.nsIn K mainGlobals "_law_fits" = some (some (.ref f32))) (l32 : K.lookup f32 = some ⟨oc32, od32, .func (PySem.W.fnOf "_law_fits" "_law_fits" (defArgs s__law_fits) (defBody s__law_fits) (defScope s__law_fits) .none kV32 dc32 pm32 an32 cd32 ct32), sl32⟩) (c32 : PySem.W.codeIn K cd32 "_law_fits" = true) (k32 : PySem.W.keepIn K (.ref f32) = true)
  (a33 : PySem.W.nsIn K mainGlobals "_law_grown" = some (some (.ref f33))) (l33 : K.lookup f33 = some ⟨oc33, od33, .func (PySem.W.fnOf "_law_grown" "_law_grown" (defArgs s__law_grown) (defBody s__law_grown) (defScope s__law_grown) .none kV33 dc33 pm33 an33 cd33 ct33), sl33⟩) (c33 : PySem.W.codeIn K cd33 "_law_grown" = true) (k33 : PySem.W.keepIn K (.ref f33) = true)
  (a34 : PySem.W.nsIn K mainGlobals "_law_caught" = some (some (.ref f34))) (l34 : K.lookup f34 = some ⟨oc34, od34, .func (PySem.W.fnOf "_law_caught" "_law_caught" (defArgs s__law_caught) (defBody s__law_caught) (defScope s__law_caught) .none kV34 dc34 pm34 an34 cd34 ct34), sl34⟩) (c34 : PySem.W.codeIn K cd34 "_law_caught" = true) (k34 : PySem.W.keepIn K (.ref f34) = true)
  (a35 : PySem.W.nsIn K mainGlobals "law" = some (some (.ref f35))) (l35 : K.lookup f35 = some ⟨oc35, od35, .func (PySem.W.fnOf "law" "law" (defArgs s_law) (defBody s_law) (defScope s_law) .none kV35 dc35 pm35 an35 (.ref c) ct35), sl35⟩) (c35 : PySem.W.codeIn K (.ref c) "law" = true) (k35 : PySem.W.keepIn K (.ref f35) = true)
  (z_len : PySem.W.nsIn K mainGlobals "len" = some none)
  (z_zip : PySem.W.nsIn K mainGlobals "zip" = some none)
  (z_tuple : PySem.W.nsIn K mainGlobals "tuple" = some none)
  (z_list : PySem.W.nsIn K mainGlobals "list" = some none)
  (z_range : PySem.W.nsIn K mainGlobals "range" = some none)
  (z_all : PySem.W.nsIn K mainGlobals "all" = some none)
  (z_int : PySem.W.nsIn K mainGlobals "int" = some none)
  (z_bool : PySem.W.nsIn K mainGlobals "bool" = some none)
  (z_isinstance : PySem.W.nsIn K mainGlobals "isinstance" = some none)
  (z_abs : PySem.W.nsIn K mainGlobals "abs" = some none)
  (z_min : PySem.W.nsIn K mainGlobals "min" = some none)
  (z_repr : PySem.W.nsIn K mainGlobals "repr" = some none)
  (ac0 : PySem.W.nsIn K mainGlobals "MoveError" = some (some (.ref C0)))
  (bc0 : PySem.W.subIn K (.ref C0) (.type "BaseException") = some true)
  (tc0 : PySem.W.typeIn K (.ref C0) = some (.type "type"))
  (dc0_ : PySem.W.hasDictIn K C0 = true)
  (ac1 : PySem.W.nsIn K mainGlobals "BadDials" = some (some (.ref C1)))
  (kc1 : PySem.W.keepIn K (.ref C1) = true)
  (xc1 : PySem.W.excIn K C1 [.type "ValueError", .type "Exception", .type "BaseException", .type "object"] "ValueError.__new__" = true)
  (bc1 : PySem.W.subIn K (.ref C1) (.type "BaseException") = some true)
  (tc1 : PySem.W.typeIn K (.ref C1) = some (.type "type"))
  (s10 : PySem.W.subIn K (.ref C1) (.ref C0) = some true)
  (eg1 : PySem.W.findIn K (.ref C1) "__getattribute__" = some (some (.builtin "BaseException.__getattribute__")))
  (ek1 : PySem.W.findIn K (.ref C1) "__getattr__" = some none)
  (ed1 : PySem.W.hasDictIn K C1 = true)
  (ea1 : PySem.W.findIn K (.ref C1) "__class__" = some (some (.builtin "object.__class__")))
  (em1 : PySem.W.mroIn K C1 (.type "object") = some true)
  (ac2 : PySem.W.nsIn K mainGlobals "TooMany" = some (some (.ref C2)))
  (kc2 : PySem.W.keepIn K (.ref C2) = true)
  (bc2 : PySem.W.subIn K (.ref C2) (.type "BaseException") = some true)
  (tc2 : PySem.W.typeIn K (.ref C2) = some (.type "type"))
  (s20 : PySem.W.subIn K (.ref C2) (.ref C0) = some true)
  (eg2 : PySem.W.findIn K (.ref C2) "__getattribute__" = some (some (.builtin "BaseException.__getattribute__")))
  (ek2 : PySem.W.findIn K (.ref C2) "__getattr__" = some none)
  (ed2 : PySem.W.hasDictIn K C2 = true)
  (ea2 : PySem.W.findIn K (.ref C2) "__class__" = some (some (.builtin "object.__class__")))
  (em2 : PySem.W.mroIn K C2 (.type "object") = some true)
  (tmL : K.lookup C2 = some (excClassObj tmn tmq C2 tmN tmb tmB true tms tmu tma tmc tmd tm0 tm1 tm2 tm3 tm5 "ValueError.__new__"))
  (tmR : PySem.HandSPX.refsVE tmB = true)
  (tmS : PySem.W.findIn K (.ref C2) "__setattr__" = some (some (.builtin "object.__setattr__")))
  (tmO : PySem.W.findIn K (.ref C2) "most" = some none)
  (tmI : PySem.W.findIn K (.ref C2) "__init__" = some (some (.ref fTM)))
  (tmT : PySem.W.typeIn K (.ref fTM) = some (.type "function"))
  (tmF : K.lookup fTM = some ⟨tmoc, tmod, .func (PySem.W.fnOf "__init__" "TooMany.__init__" (PySem.TmX.iA tp1 tp2) (PySem.TmX.iB tq1 tq2 tq3 tq4) PySem.TmX.iS .none .none tmdc tmpm tman tmcd tmct), tmsl⟩)
  (tmC : PySem.W.codeIn K tmcd "TooMany.__init__" = true)
  (tmU : PySem.W.subIn K (.ref C2) (.ref C2) = some true)
  (gn_NO_LIMIT : PySem.W.nsIn K mainGlobals "NO_LIMIT" = some (some (.int 999999999 tk_NO_LIMIT)))
  (scl : PySem.W.nsIn K mainGlobals "Search" = some (some (.ref CS)))
  (saI : PySem.W.findIn K (.ref CS) "__init__" = some (some (.ref fSI)))
  (siI : PySem.W.isFn K (.ref fSI) = true)
  (slI : K.lookup fSI = some ⟨socI, sodI, .func (PySem.W.fnOf "__init__" "Search.__init__" (defArgs s_Search_init) (defBody s_Search_init) (defScope s_Search_init) .none skVI sdcI spmI sanI scdI sctI), sslI⟩)
  (scI : PySem.W.codeIn K scdI "Search.__init__" = true)
  (skI : PySem.W.keepIn K (.ref fSI) = true)
  (saG : PySem.W.findIn K (.ref CS) "go_on" = some (some (.ref fSG)))
  (siG : PySem.W.isFn K (.ref fSG) = true)
  (slG : K.lookup fSG = some ⟨socG, sodG, .func (PySem.W.fnOf "go_on" "Search.go_on" (defArgs s_Search_go) (defBody s_Search_go) (defScope s_Search_go) .none skVG sdcG spmG sanG scdG sctG), sslG⟩)
  (scG : PySem.W.codeIn K scdG "Search.go_on" = true)
  (skG : PySem.W.keepIn K (.ref fSG) = true)
  (spg : PySem.W.plainGet K CS Str.empty = true)
  (shd : PySem.W.hasDictIn K CS = true)
  (spo : PySem.W.plainOver K CS = true)
  (ssa : PySem.W.findIn K (.ref CS) "__setattr__" = some (some (.builtin "object.__setattr__")))
  (smk : PySem.W.makesIn K CS = true)
  (skc : PySem.W.keepIn K (.ref CS) = true)
  (sn0 : PySem.W.findIn K (.ref CS) "dials" = some none)
  (sn1 : PySem.W.findIn K (.ref CS) "length" = some none)
  (sn2 : PySem.W.findIn K (.ref CS) "kind_of" = some none)
  (sn3 : PySem.W.findIn K (.ref CS) "left" = some none)
  (sn4 : PySem.W.findIn K (.ref CS) "most" = some none)
  (sn5 : PySem.W.findIn K (.ref CS) "found" = some none)
  (en : PySem.W.specialIn K (.builtin "object.__class__") "__get__" = some (some (.builtin "getset_descriptor.__get__")))
  (et : PySem.W.takesIn K (.builtin "object.__class__") = some true)
  (lc : K.lookup c = some ⟨occ, odc, .fields vsc, slc⟩)
  (vT : vsc[11]? = some (.ref Pt))
  (hCode : PySem.W.codeHdIn K c Pt = true)
  (nP : K.lookup Pt = none)
  (tP : h.get? Pt = some { cls := .none, data := .fields #[] })
  : ∃ L : List (Addr × Addr), (∀ p ∈ L, h.get? p.2 = some { cls := .none, data := .fields #[] }) ∧ (∀ p ∈ L, K.lookup p.2 = none) ∧ (∀ p ∈ L, PySem.W.CodeHd h p.1 p.2) ∧
      ∀ base : Heap, K.In base → base.Ns mainGlobals mg → (∀ p ∈ L, TabB base mg p.1 p.2) → (∃ o, base.get? sysModules = some o) → ∀ (s : Shared) (H : Hp) (a : Addr) (ns : List Int), ns.length ≤ 63 → Env0 P w K mg base callerA [] s H → SqL K H a (ns.map V.int) → (∀ p ∈ L, H p.2 = some (.tbl #[])) → (∀ b u, H b = some u → b ∈ L.map (·.2) ∨ (b = a ∧ ∃ o x, u = .frz o x)) →
        codeAny (model P w) callerA (.call (.ref fa) ⟨[.ref a], []⟩) (CR CX0 [] P w H s (fun v _ => v = .bl true) fun _ _ _ => False) s := by
  refine ⟨[(c, Pt)], (fun p hp => by simp only [List.mem_cons, List.not_mem_nil, or_false] at hp; rcases hp with rfl; exact tP), (fun p hp => by simp only [List.mem_cons, List.not_mem_nil, or_false] at hp; rcases hp with rfl; exact nP), (fun p hp => by simp only [List.mem_cons, List.not_mem_nil, or_false] at hp; rcases hp with rfl; exact PySem.W.codeHd_of_K KX hCode), fun base kb gb TBs hsy s H a ns hl e0 hS hPts hH0 => ?_⟩
  have TB : TabB base mg c Pt := TBs (c, Pt) (by simp)
  have hPt : H Pt = some (.tbl #[]) := hPts (c, Pt) (by simp)
  have Z : Zs mg := ⟨PySem.W.mg_none_of KX G z_len, PySem.W.mg_none_of KX G z_zip, PySem.W.mg_none_of KX G z_tuple, PySem.W.mg_none_of KX G z_list, PySem.W.mg_none_of KX G z_range, PySem.W.mg_none_of KX G z_all, PySem.W.mg_none_of KX G z_int, PySem.W.mg_none_of KX G z_bool, PySem.W.mg_none_of KX G z_isinstance, PySem.W.mg_none_of KX G z_abs, PySem.W.mg_none_of KX G z_min, PySem.W.mg_none_of KX G z_repr⟩
  obtain ⟨ad, had⟩ : ∃ ad : Str → Addr, ad = fun x => (([("BadDials", C1), ("TooMany", C2)] : List (Str × Addr)).lookup x).getD 0 := ⟨_, rfl⟩
  have ad1 : ad "BadDials" = C1 := by rw [had]; rfl
  have B_BadDials : ExcC K mg "BadDials" (ad "BadDials") := by rw [ad1]; exact ⟨xc1, PySem.W.mg_of KX G ac1, kc1, bc1, tc1⟩
  have EB_BadDials : ErrC K mg C0 "BadDials" (ad "BadDials") := by rw [ad1]; exact ⟨PySem.W.mg_of KX G ac1, ⟨eg1, ek1, bc1, ed1, ea1, en, et, em1⟩, PySem.W.exm_ref bc0 dc0_ tc0 s10, if_pos (beq_self_eq_true _)⟩
  have ad2 : ad "TooMany" = C2 := by rw [had]; rfl
  have EB_TooMany : ErrC K mg C0 "TooMany" (ad "TooMany") := by rw [ad2]; exact ⟨PySem.W.mg_of KX G ac2, ⟨eg2, ek2, bc2, ed2, ea2, en, et, em2⟩, PySem.W.exm_ref bc0 dc0_ tc0 s20, if_pos (beq_self_eq_true _)⟩
  have TM : PySem.TmX.TmTxt K mg (ad "TooMany") fTM := by rw [ad2]; exact { gC := PySem.W.mg_of KX G ac2, cls := ⟨_, _, _, _, _, _, _, _, _, _, _, _, _, _, _, tmL, tmR⟩, sa := tmS, ga := eg2, gg := ek2, noN := tmO, iC := tmI, tC := tmT, kC := kc2, exC := bc2, tyC := tc2, hdC := ed2, te := PySem.W.exm_ref bc2 ed2 tc2 tmU, fn := ⟨_, _, _, _, _, _, _, _, _, _, _, _, _, _, tmF, tmC⟩ }
  have Fc := fun_mk (x := "_law_caught") (qual := "_law_caught") (st := s__law_caught) l34 c34 k34
  have m_c := PySem.W.mg_of KX G a34
  have m_C0 := PySem.W.mg_of KX G ac0
  have N_NO_LIMIT : ∃ t, mg "NO_LIMIT" = some (.int 999999999 t) := ⟨_, PySem.W.mg_of KX G gn_NO_LIMIT⟩
  have FSI := fun_mk (x := "__init__") (qual := "Search.__init__") (st := s_Search_init) slI scI skI
  have FSG := fun_mk (x := "go_on") (qual := "Search.go_on") (st := s_Search_go) slG scG skG
  have SR : SrT K mg CS fSI fSG _ _ s_Search_init s_Search_go := ⟨⟨spg, shd, spo, ssa⟩, sn0, sn1, sn2, sn3, sn4, sn5, PySem.W.mg_of KX G scl, ⟨smk, saI, siI, skc⟩, ⟨saG, siG, skG⟩, FSI, FSI.binds (fun _ _ _ _ _ _ us hl => match us, hl with | [_, _, _, _, _], _ => rfl), FSG, FSG.binds (fun _ _ _ _ _ _ us hl => match us, hl with | [_, _], _ => rfl)⟩
  have F0 := fun_mk (x := "place_count") (qual := "place_count") (st := s_place_count) l0 c0 k0
  have C_place_count : Cal P w K mg base CX0 1 "place_count" ["dials"] (SpF ad f_place_count) := ⟨f0, _, ok_place_count F0, PySem.W.mg_of KX G a0, k0, F0.binds (fun _ _ _ _ _ _ us hl => match us, hl with | [_], _ => rfl)⟩
  have F1 := fun_mk (x := "all_places") (qual := "all_places") (st := s_all_places) l1 c1 k1
  have C_all_places : Cal P w K mg base CX0 1 "all_places" ["dials"] (SpF ad f_all_places) := ⟨f1, _, ok_all_places Z F1, PySem.W.mg_of KX G a1, k1, F1.binds (fun _ _ _ _ _ _ us hl => match us, hl with | [_], _ => rfl)⟩
  have F2 := fun_mk (x := "nothing_of") (qual := "nothing_of") (st := s_nothing_of) l2 c2 k2
  have C_nothing_of : Cal P w K mg base CX0 1 "nothing_of" ["dials"] (SpF ad f_nothing_of) := ⟨f2, _, ok_nothing_of Z F2, PySem.W.mg_of KX G a2, k2, F2.binds (fun _ _ _ _ _ _ us hl => match us, hl with | [_], _ => rfl)⟩
  have F3 := fun_mk (x := "take_off") (qual := "take_off") (st := s_take_off) l3 c3 k3
  have C_take_off : Cal P w K mg base CX0 1 "take_off" ["dials", "one", "other"] (SpF ad f_take_off) := ⟨f3, _, ok_take_off Z F3, PySem.W.mg_of KX G a3, k3, F3.binds (fun _ _ _ _ _ _ us hl => match us, hl with | [_, _, _], _ => rfl)⟩
  have F4 := fun_mk (x := "opposite") (qual := "opposite") (st := s_opposite) l4 c4 k4
  have C_opposite : Cal P w K mg base CX0 2 "opposite" ["dials", "place"] (SpF ad f_opposite) := ⟨f4, _, ok_opposite C_take_off C_nothing_of F4, PySem.W.mg_of KX G a4, k4, F4.binds (fun _ _ _ _ _ _ us hl => match us, hl with | [_, _], _ => rfl)⟩
  have F5 := fun_mk (x := "is_number") (qual := "is_number") (st := s_is_number) l5 c5 k5
  have C_is_number : Cal P w K mg base CX0 1 "is_number" ["thing"] (SpF ad f_is_number) := ⟨f5, _, ok_is_number Z F5, PySem.W.mg_of KX G a5, k5, F5.binds (fun _ _ _ _ _ _ us hl => match us, hl with | [_], _ => rfl)⟩
  have F6 := fun_mk (x := "is_between") (qual := "is_between") (st := s_is_between) l6 c6 k6
  have C_is_between : Cal P w K mg base CX0 2 "is_between" ["thing", "low", "high"] (SpF ad f_is_between) := ⟨f6, _, ok_is_between C_is_number F6, PySem.W.mg_of KX G a6, k6, F6.binds (fun _ _ _ _ _ _ us hl => match us, hl with | [_, _, _], _ => rfl)⟩
  have F7 := fun_mk (x := "is_dials") (qual := "is_dials") (st := s_is_dials) l7 c7 k7
  have C_is_dials : Cal P w K mg base CX0 3 "is_dials" ["thing"] (SpF ad f_is_dials) := ⟨f7, _, ok_is_dials Z C_place_count C_is_between F7, PySem.W.mg_of KX G a7, k7, F7.binds (fun _ _ _ _ _ _ us hl => match us, hl with | [_], _ => rfl)⟩
  have F8 := fun_mk (x := "check_dials") (qual := "check_dials") (st := s_check_dials) l8 c8 k8
  have C_check_dials : Cal P w K mg base (L2.CX P w) 4 "check_dials" ["dials"] (SpF ad f_check_dials) := ⟨f8, _, ok_check_dials B_BadDials C_is_dials F8, PySem.W.mg_of KX G a8, k8, F8.binds (fun _ _ _ _ _ _ us hl => match us, hl with | [_], _ => rfl)⟩
  have F9 := fun_mk (x := "check_at_most") (qual := "check_at_most") (st := s_check_at_most) l9 c9 k9
  have C_check_at_most : Cal P w K mg base (L2.CX P w) 2 "check_at_most" ["dials", "most"] (SpF ad f_check_at_most) := ⟨f9, _, ok_check_at_most C_place_count TM F9, PySem.W.mg_of KX G a9, k9, F9.binds (fun _ _ _ _ _ _ us hl => match us, hl with | [_, _], _ => rfl)⟩
  have F10 := fun_mk (x := "kinds_by_twos") (qual := "kinds_by_twos") (st := s_kinds_by_twos) l10 c10 k10
  have C_kinds_by_twos : Cal P w K mg base CX0 3 "kinds_by_twos" ["dials"] (SpF ad f_kinds_by_twos) := ⟨f10, _, ok_kinds_by_twos Z C_opposite C_all_places F10, PySem.W.mg_of KX G a10, k10, F10.binds (fun _ _ _ _ _ _ us hl => match us, hl with | [_], _ => rfl)⟩
  have F11 := fun_mk (x := "count_each") (qual := "count_each") (st := s_count_each) l11 c11 k11
  have C_count_each : Cal P w K mg base CX0 1 "count_each" ["items"] (SpN ad f_count_each) := ⟨f11, _, ok_count_each F11, PySem.W.mg_of KX G a11, k11, F11.binds (fun _ _ _ _ _ _ us hl => match us, hl with | [_], _ => rfl)⟩
  have F12 := fun_mk (x := "first_routes") (qual := "first_routes") (st := s_first_routes) l12 c12 k12
  have C_first_routes : Cal P w K mg base CX0 20 "first_routes" ["dials", "length", "kind_of", "most"] (SpF ad f_first_routes) := ⟨f12, _, ok_first_routes Z C_nothing_of C_all_places C_take_off C_count_each SR F12, PySem.W.mg_of KX G a12, k12, F12.binds (fun _ _ _ _ _ _ us hl => match us, hl with | [_, _, _, _], _ => rfl)⟩
  have F13 := fun_mk (x := "all_routes") (qual := "all_routes") (st := s_all_routes) l13 c13 k13
  have C_all_routes : Cal P w K mg base CX0 21 "all_routes" ["dials", "length", "kind_of"] (SpF ad f_all_routes) := ⟨f13, _, ok_all_routes N_NO_LIMIT C_first_routes F13, PySem.W.mg_of KX G a13, k13, F13.binds (fun _ _ _ _ _ _ us hl => match us, hl with | [_, _, _], _ => rfl)⟩
  have F14 := fun_mk (x := "all_fair") (qual := "all_fair") (st := s_all_fair) l14 c14 k14
  have C_all_fair : Cal P w K mg base CX0 22 "all_fair" ["dials"] (SpF ad f_all_fair) := ⟨f14, _, ok_all_fair C_all_routes C_place_count C_kinds_by_twos F14, PySem.W.mg_of KX G a14, k14, F14.binds (fun _ _ _ _ _ _ us hl => match us, hl with | [_], _ => rfl)⟩
  have F15 := fun_mk (x := "fair_tours") (qual := "fair_tours") (st := s_fair_tours) l15 c15 k15
  have C_fair_tours : Cal P w K mg base (L2.CX P w) 23 "fair_tours" ["dials"] (SpF ad f_fair_tours) := ⟨f15, _, ok_fair_tours C_check_dials C_check_at_most C_all_fair F15, PySem.W.mg_of KX G a15, k15, F15.binds (fun _ _ _ _ _ _ us hl => match us, hl with | [_], _ => rfl)⟩
  have CK_fair_tours : CalK P w K mg base (L2.CX P w) 23 "fair_tours" ["dials"] (SpF ad f_fair_tours) := ⟨f15, _, ok_fair_tours C_check_dials C_check_at_most C_all_fair F15, PySem.W.mg_of KX G a15, k15, fun ws hl => match ws, hl with | [_], _ => rfl⟩
  have F16 := fun_mk (x := "fair_many") (qual := "fair_many") (st := s_fair_many) l16 c16 k16
  have C_fair_many : Cal P w K mg base (L2.CX P w) 23 "fair_many" ["dials"] (SpF ad f_fair_many) := ⟨f16, _, ok_fair_many Z C_check_dials C_check_at_most C_all_fair F16, PySem.W.mg_of KX G a16, k16, F16.binds (fun _ _ _ _ _ _ us hl => match us, hl with | [_], _ => rfl)⟩
  have CK_fair_many : CalK P w K mg base (L2.CX P w) 23 "fair_many" ["dials"] (SpF ad f_fair_many) := ⟨f16, _, ok_fair_many Z C_check_dials C_check_at_most C_all_fair F16, PySem.W.mg_of KX G a16, k16, fun ws hl => match ws, hl with | [_], _ => rfl⟩
  have F17 := fun_mk (x := "_law_begun") (qual := "_law_begun") (st := s__law_begun) l17 c17 k17
  have C__law_begun : Cal P w K mg base CX0 1 "_law_begun" ["script"] (SpBegun K) := ⟨f17, _, ok__law_begun Z F17, PySem.W.mg_of KX G a17, k17, F17.binds (fun _ _ _ _ _ _ us hl => match us, hl with | [_], _ => rfl)⟩
  have F18 := fun_mk (x := "_law_draw") (qual := "_law_draw") (st := s__law_draw) l18 c18 k18
  have D__law_draw : Cal P w K mg base CX0 1 "_law_draw" ["state", "size_here"] SpDraw := ⟨f18, _, ok__law_draw Z F18, PySem.W.mg_of KX G a18, k18, F18.binds (fun _ _ _ _ _ _ us hl => match us, hl with | [_, _], _ => rfl)⟩
  have C__law_draw : Cal P w K mg base CX0 1 "_law_draw" ["state", "size_here"] (SpW [(Pt, qLam)] W__law_draw) := ⟨f18, _, (ok__law_draw Z F18).imp pri_draw, PySem.W.mg_of KX G a18, k18, F18.binds (fun _ _ _ _ _ _ us hl => match us, hl with | [_, _], _ => rfl)⟩
  have F19 := fun_mk (x := "_law_pick") (qual := "_law_pick") (st := s__law_pick) l19 c19 k19
  have C__law_pick : Cal P w K mg base CX0 2 "_law_pick" ["state", "several"] (SpW [(Pt, qLam)] W__law_pick) := ⟨f19, _, ok__law_pick Z C__law_draw F19, PySem.W.mg_of KX G a19, k19, F19.binds (fun _ _ _ _ _ _ us hl => match us, hl with | [_, _], _ => rfl)⟩
  have CL__law_pick : Cal P w K mg base CX0 2 "_law_pick" ["state", "several"] (SpPk [(Pt, qLam)]) := ⟨f19, _, okP__law_pick (TL := [(Pt, qLam)]) Z C__law_draw F19, PySem.W.mg_of KX G a19, k19, F19.binds (fun _ _ _ _ _ _ us hl => match us, hl with | [_, _], _ => rfl)⟩
  have F20 := fun_mk (x := "_law_count") (qual := "_law_count") (st := s__law_count) l20 c20 k20
  have C__law_count : Cal P w K mg base CX0 1 "_law_count" ["dials_here"] (SpF ad f__law_count) := ⟨f20, _, ok__law_count F20, PySem.W.mg_of KX G a20, k20, F20.binds (fun _ _ _ _ _ _ us hl => match us, hl with | [_], _ => rfl)⟩
  have F21 := fun_mk (x := "_law_places") (qual := "_law_places") (st := s__law_places) l21 c21 k21
  have C__law_places : Cal P w K mg base CX0 1 "_law_places" ["dials_here"] (SpF ad f__law_places) := ⟨f21, _, ok__law_places Z F21, PySem.W.mg_of KX G a21, k21, F21.binds (fun _ _ _ _ _ _ us hl => match us, hl with | [_], _ => rfl)⟩
  have F22 := fun_mk (x := "_law_plus") (qual := "_law_plus") (st := s__law_plus) l22 c22 k22
  have C__law_plus : Cal P w K mg base CX0 1 "_law_plus" ["dials_here", "one", "other"] (SpF ad f__law_plus) := ⟨f22, _, ok__law_plus Z F22, PySem.W.mg_of KX G a22, k22, F22.binds (fun _ _ _ _ _ _ us hl => match us, hl with | [_, _, _], _ => rfl)⟩
  have F23 := fun_mk (x := "_law_less") (qual := "_law_less") (st := s__law_less) l23 c23 k23
  have C__law_less : Cal P w K mg base CX0 1 "_law_less" ["dials_here", "one", "other"] (SpF ad f__law_less) := ⟨f23, _, ok__law_less Z F23, PySem.W.mg_of KX G a23, k23, F23.binds (fun _ _ _ _ _ _ us hl => match us, hl with | [_, _, _], _ => rfl)⟩
  have F24 := fun_mk (x := "_law_nothing") (qual := "_law_nothing") (st := s__law_nothing) l24 c24 k24
  have C__law_nothing : Cal P w K mg base CX0 1 "_law_nothing" ["dials_here"] (SpF ad f__law_nothing) := ⟨f24, _, ok__law_nothing Z F24, PySem.W.mg_of KX G a24, k24, F24.binds (fun _ _ _ _ _ _ us hl => match us, hl with | [_], _ => rfl)⟩
  have F25 := fun_mk (x := "_law_bad_dials") (qual := "_law_bad_dials") (st := s__law_bad_dials) l25 c25 k25
  have C__law_bad_dials : Cal P w K mg base CX0 3 "_law_bad_dials" ["state"] (SpW [(Pt, qLam)] W__law_bad_dials) := ⟨f25, _, ok__law_bad_dials C__law_pick F25, PySem.W.mg_of KX G a25, k25, F25.binds (fun _ _ _ _ _ _ us hl => match us, hl with | [_], _ => rfl)⟩
  have F26 := fun_mk (x := "_law_many_error") (qual := "_law_many_error") (st := s__law_many_error) l26 c26 k26
  have C__law_many_error : Cal P w K mg base CX0 1 "_law_many_error" ["caught", "most"] (SpTm (ad "TooMany")) := ⟨f26, _, ok__law_many_error Z TM EB_TooMany F26, PySem.W.mg_of KX G a26, k26, F26.binds (fun _ _ _ _ _ _ us hl => match us, hl with | [_, _], _ => rfl)⟩
  have F27 := fun_mk (x := "_law_all_dials") (qual := "_law_all_dials") (st := s__law_all_dials) l27 c27 k27
  have C__law_all_dials : Cal P w K mg base CX0 2 "_law_all_dials" [] (SpF ad f__law_all_dials) := ⟨f27, _, ok__law_all_dials Z C__law_count F27, PySem.W.mg_of KX G a27, k27, F27.binds (fun _ _ _ _ _ _ us hl => match us, hl with | [], _ => rfl)⟩
  have F28 := fun_mk (x := "_law_any_dials") (qual := "_law_any_dials") (st := s__law_any_dials) l28 c28 k28
  have C__law_any_dials : Cal P w K mg base CX0 3 "_law_any_dials" ["state", "least", "most"] (SpW [(Pt, qLam)] W__law_any_dials) := ⟨f28, _, ok__law_any_dials C__law_pick C__law_all_dials C__law_count F28, PySem.W.mg_of KX G a28, k28, F28.binds (fun _ _ _ _ _ _ us hl => match us, hl with | [_, _, _], _ => rfl)⟩
  have F29 := fun_mk (x := "_law_steps") (qual := "_law_steps") (st := s__law_steps) l29 c29 k29
  have C__law_steps : Cal P w K mg base CX0 2 "_law_steps" ["dials_here", "line"] (SpF ad f__law_steps) := ⟨f29, _, ok__law_steps Z C__law_less F29, PySem.W.mg_of KX G a29, k29, F29.binds (fun _ _ _ _ _ _ us hl => match us, hl with | [_, _], _ => rfl)⟩
  have F30 := fun_mk (x := "_law_kind") (qual := "_law_kind") (st := s__law_kind) l30 c30 k30
  have C__law_kind : Cal P w K mg base CX0 2 "_law_kind" ["dials_here", "step_here"] (SpF ad f__law_kind) := ⟨f30, _, ok__law_kind Z C__law_less C__law_nothing F30, PySem.W.mg_of KX G a30, k30, F30.binds (fun _ _ _ _ _ _ us hl => match us, hl with | [_, _], _ => rfl)⟩
  have F31 := fun_mk (x := "_law_share") (qual := "_law_share") (st := s__law_share) l31 c31 k31
  have C__law_share : Cal P w K mg base CX0 2 "_law_share" ["dials_here", "step_here"] (SpF ad f__law_share) := ⟨f31, _, ok__law_share C__law_plus C__law_nothing F31, PySem.W.mg_of KX G a31, k31, F31.binds (fun _ _ _ _ _ _ us hl => match us, hl with | [_, _], _ => rfl)⟩
  have F32 := fun_mk (x := "_law_fits") (qual := "_law_fits") (st := s__law_fits) l32 c32 k32
  have C__law_fits : Cal P w K mg base CX0 3 "_law_fits" ["dials_here", "line", "item", "fair"] (SpF ad f__law_fits) := ⟨f32, _, ok__law_fits C__law_less C__law_steps C__law_kind C__law_share F32, PySem.W.mg_of KX G a32, k32, F32.binds (fun _ _ _ _ _ _ us hl => match us, hl with | [_, _, _, _], _ => rfl)⟩
  have F33 := fun_mk (x := "_law_grown") (qual := "_law_grown") (st := s__law_grown) l33 c33 k33
  have C__law_grown : Cal P w K mg base CX0 12 "_law_grown" ["dials_here", "line", "fair"] (SpF ad f__law_grown) := ⟨f33, _, ok__law_grown Z C__law_places C__law_count C__law_fits (PySem.W.mg_of KX G a33) k33 (F33.binds (fun _ _ _ _ _ _ us hl => match us, hl with | [_, _, _], _ => rfl)) F33, PySem.W.mg_of KX G a33, k33, F33.binds (fun _ _ _ _ _ _ us hl => match us, hl with | [_, _, _], _ => rfl)⟩
  have mgL := PySem.W.mg_of KX G a35
  rw [hfa] at mgL
  cases mgL
  have hmT : (Pt, qLam) ∈ ([(Pt, qLam)] : List (Addr × Str)) := by simp
  have huT : ∀ p ∈ ([(Pt, qLam)] : List (Addr × Str)), p.1 = Pt → p.2 = qLam := fun p hp e => by simp only [List.mem_cons, List.not_mem_nil, or_false] at hp; rcases hp with rfl; rfl
  exact law_run (TL := [(Pt, qLam)]) Z C__law_any_dials C__law_grown C_fair_tours CK_fair_tours C__law_pick CL__law_pick C__law_bad_dials C__law_many_error C__law_nothing C_fair_many CK_fair_many C__law_draw C__law_count EB_BadDials EB_TooMany C__law_begun Fc m_c m_C0 TB hmT huT l35 c35 e0 (.of_eq rfl) rfl ⟨rfl, by decide, by decide⟩ hS hl (fun p hp => by simp only [List.mem_cons, List.not_mem_nil, or_false] at hp; rcases hp with rfl; exact hPt) (fun s => law_math a ns.length hl s) fun _ => rfl
end Mv
open PySem PyProof.Rows PySem.W
set_option maxRecDepth 99999 in
set_option maxHeartbeats 0 in
theorem PySem.Challenge.cw_movedround_k51_fair_tours_listed_and_cou_holds : PySem.Challenge.rw_movedround_k51_fair_tours_listed_and_cou.Holds := by
  w_on; o_law; k_head; (case hw => w_witness2)
  k_fill
  refine Mv.walk_at (n := 63) rfl (by decide) rfl (fun w h Y => PySem.W.km_in_of Y) (by decide +kernel) ?F
  case F =>
    intro w mg fa h Y KX G hmg
    refine' Mv.all_mk KX G hmg ?a0 ?l0 ?c0 ?k0 ?a1 ?l1 ?c1 ?k1 ?a2 ?l2 ?c2 ?k2 ?a3 ?l3 ?c3 ?k3 ?a4 ?l4 ?c4 ?k4 ?a5 ?l5 ?c5 ?k5 ?a6 ?l6 ?c6 ?k6 ?a7 ?l7 ?c7 ?k7 ?a8 ?l8 ?c8 ?k8 ?a9 ?l9 ?c9 ?k9 ?a10 ?l10 ?c10 ?k10 ?a11 ?l11 ?c11 ?k11 ?a12 ?l12 ?c12 ?k12 ?a13 ?l13 ?c13 ?k13 ?a14 ?l14 ?c14 ?k14 ?a15 ?l15 ?c15 ?k15 ?a16 ?l16 ?c16 ?k16 ?a17 ?l17 ?c17 ?k17 ?a18 ?l18 ?c18 ?k18 ?a19 ?l19 ?c19 ?k19 ?a20 ?l20 ?c20 ?k20 ?a21 ?l21 ?c21 ?k21 ?a22 ?l22 ?c22 ?k22 ?a23 ?l23 ?c23 ?k23 ?a24 ?l24 ?c24 ?k24 ?a25 ?l25 ?c25 ?k25 ?a26 ?l26 ?c26 ?k26 ?a27 ?l27 ?c27 ?k27 ?a28 ?l28 ?c28 ?k28 ?a29 ?l29 ?c29 ?k29 ?a30 ?l30 ?c30 ?k30 ?a31 ?l31 ?c31 ?k31 ?a32 ?l32 ?c32 ?k32 ?a33 ?l33 ?c33 ?k33 ?a34 ?l34 ?c34 ?k34 ?a35 ?l35 ?c35 ?k35 ?z_len ?z_zip ?z_tuple ?z_list ?z_range ?z_all ?z_int ?z_bool ?z_isinstance ?z_abs ?z_min ?z_repr ?ac0 ?bc0 ?tc0 ?dc0_ ?ac1 ?kc1 ?xc1 ?bc1 ?tc1 ?s10 ?eg1 ?ek1 ?ed1 ?ea1 ?em1 ?ac2 ?kc2 ?bc2 ?tc2 ?s20 ?eg2 ?ek2 ?ed2 ?ea2 ?em2 ?tmL ?tmR ?tmS ?tmO ?tmI ?tmT ?tmF ?tmC ?tmU ?gn_NO_LIMIT ?scl ?saI ?siI ?slI ?scI ?skI ?saG ?siG ?slG ?scG ?skG ?spg ?shd ?spo ?ssa ?smk ?skc ?sn0 ?sn1 ?sn2 ?sn3 ?sn4 ?sn5 ?en ?et ?lc ?vT ?hCode ?nP ?tP
    (case a0 => k_is)
    (case l0 => k_is)
    (case c0 => k_is)
    (case k0 => k_is)
    (case a1 => k_is)
    (case l1 => k_is)
    (case c1 => k_is)
    (case k1 => k_is)
    (case a2 => k_is)
    (case l2 => k_is)
    (case c2 => k_is)
    (case k2 => k_is)
    (case a3 => k_is)
    (case l3 => k_is)
    (case c3 => k_is)
    (case k3 => k_is)
    (case a4 => k_is)
    (case l4 => k_is)
    (case c4 => k_is)
    (case k4 => k_is)
    (case a5 => k_is)
    (case l5 => k_is)
    (case c5 => k_is)
    (case k5 => k_is)
    (case a6 => k_is)
    (case l6 => k_is)
    (case c6 => k_is)
    (case k6 => k_is)
    (case a7 => k_is)
    (case l7 => k_is)
    (case c7 => k_is)
    (case k7 => k_is)
    (case a8 => k_is)
    (case l8 => k_is)
    (case c8 => k_is)
    (case k8 => k_is)
    (case a9 => k_is)
    (case l9 => k_is)
    (case c9 => k_is)
    (case k9 => k_is)
    (case a10 => k_is)
    (case l10 => k_is)
    (case c10 => k_is)
    (case k10 => k_is)
    (case a11 => k_is)
    (case l11 => k_is)
    (case c11 => k_is)
    (case k11 => k_is)
    (case a12 => k_is)
    (case l12 => k_is)
    (case c12 => k_is)
    (case k12 => k_is)
    (case a13 => k_is)
    (case l13 => k_is)
    (case c13 => k_is)
    (case k13 => k_is)
    (case a14 => k_is)
    (case l14 => k_is)
    (case c14 => k_is)
    (case k14 => k_is)
    (case a15 => k_is)
    (case l15 => k_is)
    (case c15 => k_is)
    (case k15 => k_is)
    (case a16 => k_is)
    (case l16 => k_is)
    (case c16 => k_is)
    (case k16 => k_is)
    (case a17 => k_is)
    (case l17 => k_is)
    (case c17 => k_is)
    (case k17 => k_is)
    (case a18 => k_is)
    (case l18 => k_is)
    (case c18 => k_is)
    (case k18 => k_is)
    (case a19 => k_is)
    (case l19 => k_is)
    (case c19 => k_is)
    (case k19 => k_is)
    (case a20 => k_is)
    (case l20 => k_is)
    (case c20 => k_is)
    (case k20 => k_is)
    (case a21 => k_is)
    (case l21 => k_is)
    (case c21 => k_is)
    (case k21 => k_is)
    (case a22 => k_is)
    (case l22 => k_is)
    (case c22 => k_is)
    (case k22 => k_is)
    (case a23 => k_is)
    (case l23 => k_is)
    (case c23 => k_is)
    (case k23 => k_is)
    (case a24 => k_is)
    (case l24 => k_is)
    (case c24 => k_is)
    (case k24 => k_is)
    (case a25 => k_is)
    (case l25 => k_is)
    (case c25 => k_is)
    (case k25 => k_is)
    (case a26 => k_is)
    (case l26 => k_is)
    (case c26 => k_is)
    (case k26 => k_is)
    (case a27 => k_is)
    (case l27 => k_is)
    (case c27 => k_is)
    (case k27 => k_is)
    (case a28 => k_is)
    (case l28 => k_is)
    (case c28 => k_is)
    (case k28 => k_is)
    (case a29 => k_is)
    (case l29 => k_is)
    (case c29 => k_is)
    (case k29 => k_is)
    (case a30 => k_is)
    (case l30 => k_is)
    (case c30 => k_is)
    (case k30 => k_is)
    (case a31 => k_is)
    (case l31 => k_is)
    (case c31 => k_is)
    (case k31 => k_is)
    (case a32 => k_is)
    (case l32 => k_is)
    (case c32 => k_is)
    (case k32 => k_is)
    (case a33 => k_is)
    (case l33 => k_is)
    (case c33 => k_is)
    (case k33 => k_is)
    (case a34 => k_is)
    (case l34 => k_is)
    (case c34 => k_is)
    (case k34 => k_is)
    (case a35 => k_is)
    (case l35 => k_is)
    (case c35 => k_is)
    (case k35 => k_is)
    (case z_len => k_is)
    (case z_zip => k_is)
    (case z_tuple => k_is)
    (case z_list => k_is)
    (case z_range => k_is)
    (case z_all => k_is)
    (case z_int => k_is)
    (case z_bool => k_is)
    (case z_isinstance => k_is)
    (case z_abs => k_is)
    (case z_min => k_is)
    (case z_repr => k_is)
    (case ac0 => k_is)
    (case bc0 => k_is)
    (case tc0 => k_is)
    (case dc0_ => k_is)
    (case ac1 => k_is)
    (case kc1 => k_is)
    (case xc1 => k_exc)
    (case bc1 => k_is)
    (case tc1 => k_is)
    (case s10 => k_is)
    (case eg1 => k_is)
    (case ek1 => k_is)
    (case ed1 => k_is)
    (case ea1 => k_is)
    (case em1 => k_is)
    (case ac2 => k_is)
    (case kc2 => k_is)
    (case bc2 => k_is)
    (case tc2 => k_is)
    (case s20 => k_is)
    (case eg2 => k_is)
    (case ek2 => k_is)
    (case ed2 => k_is)
    (case ea2 => k_is)
    (case em2 => k_is)
    (case tmL => k_is)
    (case tmR => decide +kernel)
    (case tmS => k_is)
    (case tmO => k_is)
    (case tmI => k_is)
    (case tmT => k_is)
    (case tmF => k_is)
    (case tmC => k_is)
    (case tmU => first | rfl | k_is)
    (case gn_NO_LIMIT => k_is)
    (case scl => k_is)
    (case saI => k_is)
    (case siI => k_is)
    (case slI => k_is)
    (case scI => k_is)
    (case skI => k_is)
    (case saG => k_is)
    (case siG => k_is)
    (case slG => k_is)
    (case scG => k_is)
    (case skG => k_is)
    (case spg => k_is)
    (case shd => k_is)
    (case spo => k_is)
    (case ssa => k_is)
    (case smk => k_is)
    (case skc => k_is)
    (case sn0 => k_is)
    (case sn1 => k_is)
    (case sn2 => k_is)
    (case sn3 => k_is)
    (case sn4 => k_is)
    (case sn5 => k_is)
    (case en => k_is)
    (case et => k_is)
    (case lc => k_is)
    (case vT => rfl)
    (case hCode => kernel_rfl)
    (case nP => kernel_rfl)
    (case tP => exact PySem.W.km_tabs_of Y _ (by simp))
