import PyProof.Rows.All
import Wide.All
import OpenK.AllK
import Wide.FinOn
import HandS.Base
import HandS.Call
import HandS.List
import HandS.Dict
import HandS.Iter
import KE.GoesMore
import KE.GoesEnum
import HandS.ForMost
import HandS.Evl
import HandS.TupAny
import HandS.TupMul
import HandS.TupLe
import HandS.IsInst
import HandS.ForExc
import HandS.ExcIs
import HandS.Lambda
import HandS.ExcValue
import PyProof.ReprRoads
import HandS.EndTab
import PyProof.ReprBulk
import PySem.Challenge.RW_movedround_k01_places_and_sums
set_option Elab.async false
set_option linter.all false
set_option maxRecDepth 100000
set_option maxHeartbeats 3999999
namespace Mv
open PySem L2 PyProof.Rows PySem.Spec

/-! zip of two or three, each a list (true) or a tuple (false) -/
def SqK (K : PySem.W.Frag) : Bool → Hp → Addr → List V → Prop
  | true, H, a, xs => SqL K H a xs
  | false, H, a, xs => SqT K H a xs
def ItrK : Bool → Heap → Addr → Addr → Nat → Prop
  | true, h, it, a, i => h.IsListIter it a i
  | false, h, it, a, i => h.IsTupleIter it a i
def HasK : Bool → Heap → Addr → Array Value → Prop
  | true, h, a, xs => h.IsList a xs
  | false, h, a, xs => h.IsTuple a xs
def newK : Bool → Addr → Obj
  | true, a => { cls := .type "list_iterator", data := .fields #[.ref a, .int 0 0] }
  | false, a => { cls := .type "tuple_iterator", data := .fields #[.ref a, .int 0 0] }
theorem drawsK {prog : Program} {w : World} {A : Around} (k : Bool) (hh : A.handled = none) (it l : Addr) (hne : l ≠ it) (items : Array Value) :
    Draws prog w A it [it, l] items.size (fun i v => items[i]? = some v) (fun i h => ItrK k h it l i ∧ HasK k h l items) := by
  cases k with
  | true => exact Draws.list hh it l hne items
  | false => exact Draws.tuple hh it l hne items
theorem beginsK (k : Bool) (l : Addr) (items : Array Value) : Begins (.ref l) (newK k l) fun h => HasK k h l items := by
  cases k with
  | true => exact begins_list l items
  | false => exact begins_tuple l items
theorem itrK_new {k : Bool} {h : Heap} {it a : Addr} (e : h.get? it = some (newK k a)) : ItrK k h it a 0 := by
  cases k with
  | true => exact ⟨_, e, rfl, rfl⟩
  | false => exact ⟨_, e, rfl, rfl⟩
theorem ItrK.ob {k : Bool} {h : Heap} {it a : Addr} {i : Nat} (x : ItrK k h it a i) : ∃ o, h.get? it = some o ∧ ∀ v, o.data ≠ .cell v := by
  cases k with
  | true => obtain ⟨o, e, _, d⟩ := x; exact ⟨o, e, fun v q => by rw [d] at q; cases q⟩
  | false => obtain ⟨o, e, _, d⟩ := x; exact ⟨o, e, fun v q => by rw [d] at q; cases q⟩
theorem ItrK.at {k : Bool} {h h' : Heap} {it a : Addr} {i : Nat} (x : ItrK k h it a i) (e : ∀ o, h.get? it = some o → h'.get? it = some o) : ItrK k h' it a i := by
  cases k with
  | true => exact Heap.IsListIter.at x e
  | false => exact Heap.IsTupleIter.at x e
theorem HasK.lt {k : Bool} {h : Heap} {a : Addr} {xs : Array Value} (x : HasK k h a xs) : a < h.objs.size := by
  cases k with
  | true => obtain ⟨o, e, _⟩ := x; exact Heap.lt_size e
  | false => obtain ⟨o, e, _⟩ := x; exact Heap.lt_size e
section
variable {X : Cx} {pns : List (Addr × Obj)} {σ : L2.St} {H : Hp} {s : Shared} {a : Addr} {xs : List V} {k : Bool}
theorem seqK (I : Inv X pns σ H s) (h : SqK X.K k H a xs) : ∃ its : List Value, Vals xs its ∧ HasK k s.heap a its.toArray ∧ xs.length ≤ sizeLine := by
  cases k with
  | true => obtain ⟨its, rv, p, z⟩ := I.list h; exact ⟨its, rv, p.isList, z⟩
  | false => obtain ⟨its, rv, p, z⟩ := I.tuple h; exact ⟨its, rv, p, z⟩
theorem seqK_inj {ys : List V} (I : Inv X pns σ H s) (h : SqK X.K k H a xs) (h' : SqK X.K k H a ys) : xs = ys := by
  cases k with
  | true => exact I.list_inj h h'
  | false => exact I.tuple_inj h h'
end

def It3 (K : PySem.W.Frag) (k1 k2 k3 : Bool) (a b c : Addr) : It :=
  ⟨fun i H => ∃ (xs ys zs : List V) (x y z : V), SqK K k1 H a xs ∧ SqK K k2 H b ys ∧ SqK K k3 H c zs ∧ xs[i]? = some x ∧ ys[i]? = some y ∧ zs[i]? = some z,
    fun i H v H' => ∃ T x y z, v = .ref T ∧ H T = none ∧ H' = upd H T (.tup [x, y, z]) ∧ (∀ xs, SqK K k1 H a xs → xs[i]? = some x) ∧ (∀ ys, SqK K k2 H b ys → ys[i]? = some y) ∧ ∀ zs, SqK K k3 H c zs → zs[i]? = some z,
    fun i H => ∃ xs ys zs : List V, SqK K k1 H a xs ∧ SqK K k2 H b ys ∧ SqK K k3 H c zs ∧ i ≤ xs.length ∧ i ≤ ys.length ∧ i ≤ zs.length ∧ (i = xs.length ∨ i = ys.length ∨ i = zs.length)⟩

/-- the cells apart, and from what is walked -/
structure Sep3 (z TI TO i1 i2 i3 a b c : Addr) : Prop where
  sep : ZipSep3 z TI TO i1 i2 i3 [i1, a] [i2, b] [i3, c]
  n1 : a ≠ i1
  n2 : b ≠ i2
  n3 : c ≠ i3

theorem turn_zip3 {P : Program} {w : World} {K : PySem.W.Frag} {elts : List Expr} {kk : Nat} {tpos : Pos} {k1 k2 k3 : Bool} {a b c z TI TO i1 i2 i3 : Addr} (D : Sep3 z TI TO i1 i2 i3 a b c) :
    Turn P w K (.Tuple elts kk tpos) (It3 K k1 k2 k3 a b c) [z, TI, TO, i1, i2, i3] z (fun i h => IsZip h z TI TO .none ∧ IsTupOf3 h TI (.ref i1) (.ref i2) (.ref i3) ∧ (∃ x y u, IsTupOf3 h TO x y u) ∧ ItrK k1 h i1 a i ∧ ItrK k2 h i2 b i ∧ ItrK k3 h i3 c i) where
  mem := by simp
  obj := fun i h stz q hq => by
    obtain ⟨atZ, atI, ⟨x, y, u, atO⟩, h1, h2, h3⟩ := stz
    have altE : q = z ∨ q = TI ∨ q = TO ∨ q = i1 ∨ q = i2 ∨ q = i3 := by simpa using hq
    rcases altE with e | e | e | e | e | e
    · rw [e]; exact ⟨_, atZ, fun v q => nomatch q⟩
    · rw [e]; exact ⟨_, atI, fun v q => nomatch q⟩
    · rw [e]; exact ⟨_, atO, fun v q => nomatch q⟩
    · rw [e]; exact h1.ob
    · rw [e]; exact h2.ob
    · rw [e]; exact h3.ob
  keep := fun i h h' stz k => by
    obtain ⟨atZ, atI, ⟨x, y, u, atO⟩, h1, h2, h3⟩ := stz
    exact ⟨k z (by simp) _ atZ, k TI (by simp) _ atI, ⟨x, y, u, k TO (by simp) _ atO⟩, h1.at fun o q => k i1 (by simp) o q, h2.at fun o q => k i2 (by simp) o q, h3.at fun o q => k i3 (by simp) o q⟩
  item := by
    intro X ofP ofW ofK hc i pns s σ H E I hf stz hg
    subst ofP ofW ofK
    obtain ⟨atZ, atI, ⟨x0, y0, u0, atO⟩, h1, h2, h3⟩ := stz
    obtain ⟨xs, ys, zs, x, y, u, q1, q2, q3, hx, hy, hu⟩ := hg
    obtain ⟨t1, r1, p1, _⟩ := seqK I q1
    obtain ⟨t2, r2, p2, _⟩ := seqK I q2
    obtain ⟨t3, r3, p3, _⟩ := seqK I q3
    obtain ⟨v1, e1, w1⟩ := r1.get hx
    obtain ⟨v2, e2, w2⟩ := r2.get hy
    obtain ⟨v3, e3, w3⟩ := r3.get hu
    have hh : X.A.in1.handled = none := I.ok.hd hc
    have ltZ : z < s.heap.objs.size := Heap.lt_size atZ
    refine wpAny_pyNext_zipD3_item D.sep (drawsK k1 hh i1 a D.n1 t1.toArray) (drawsK k2 hh i2 b D.n2 t2.toArray) (drawsK k3 hh i3 c D.n3 t3.toArray) atZ atI atO ⟨h1, p1⟩ ⟨h2, p2⟩ ⟨h3, p3⟩
      (by have := (List.getElem?_eq_some_iff.mp e1).1; simpa using this) (by have := (List.getElem?_eq_some_iff.mp e2).1; simpa using this) (by have := (List.getElem?_eq_some_iff.mp e3).1; simpa using this)
      fun y1 y2 y3 h' tk g1 g2 g3 hz' hTO' sA s2 s3 hT hsz hk => ?_
    have f1 : y1 = v1 := by
      have : t1[i]? = some y1 := by simpa using g1
      rw [e1] at this; exact (Option.some.inj this).symm
    have f2 : y2 = v2 := by
      have : t2[i]? = some y2 := by simpa using g2
      rw [e2] at this; exact (Option.some.inj this).symm
    have f3 : y3 = v3 := by
      have : t3[i]? = some y3 := by simpa using g3
      rw [e3] at this; exact (Option.some.inj this).symm
    subst f1 f2 f3
    refine ⟨_, rfl, wpAny_letOwnedTupleGo_zip (s := { s with heap := h', toks := tk }) hz' fun heapB hz'' sb => ?_⟩
    have hT2 : heapB.get? s.heap.objs.size = some { cls := .type "tuple", data := .seq #[y1, y2, y3] } := (sb.2 _ (Nat.ne_of_gt ltZ)).trans hT
    have fresh_ : ObjOk X.prog X.w (upd H s.heap.objs.size (.tup [x, y, u])) heapB s.heap.objs.size (.tup [x, y, u]) :=
      ⟨by show 3 ≤ sizeLine; decide, [y1, y2, y3], .cons w1 (.cons w2 (.cons w3 .nil)), ⟨_, hT2, rfl, _, rfl⟩⟩
    have invA : Inv X pns σ (upd H s.heap.objs.size (.tup [x, y, u])) { s with heap := heapB, toks := tk } :=
      I.turnedNew (t' := tk) (ch := [z, TI, TO, i1, i2, i3]) (fun c o hb q => (sb.2 c (fun q' => hb (by simp [q']))).trans (hk c o (fun q' => hb (by simp [q'])) (fun q' => hb (by simp [q'])) (fun q' => hb (by simp [q'])) (fun q' => hb (by simp [q'])) (fun q' => hb (by simp [q'])) q)) hf (Nat.le_refl _) fresh_
    have S := D.sep
    refine ⟨.ref s.heap.objs.size, _, invA, rfl, ⟨_, x, y, u, rfl, I.hok.fresh (Nat.le_refl _), rfl, fun l hl => by rw [seqK_inj I hl q1]; exact hx, fun l hl => by rw [seqK_inj I hl q2]; exact hy, fun l hl => by rw [seqK_inj I hl q3]; exact hu⟩, ⟨hz'', ?_, ⟨y1, y2, y3, ?_⟩, ?_, ?_, ?_⟩, fun c among => ?_⟩
    · exact (sb.2 _ S.TIz).trans (hk _ _ S.TIz S.TITO S.TIi1 S.TIi2 S.TIi3 atI)
    · exact (sb.2 _ S.TOz).trans hTO'
    · exact sA.1.at fun o q => (sb.2 _ (fun e => S.zf1 (by rw [← e]; exact S.mem1))).trans q
    · exact s2.1.at fun o q => (sb.2 _ (fun e => S.zf2 (by rw [← e]; exact S.mem2))).trans q
    · exact s3.1.at fun o q => (sb.2 _ (fun e => S.zf3 (by rw [← e]; exact S.mem3))).trans q
    · have ltC : c < s.heap.objs.size := by
        have altE : c = z ∨ c = TI ∨ c = TO ∨ c = i1 ∨ c = i2 ∨ c = i3 := by simpa using among
        rcases altE with q | q | q | q | q | q
        · rw [q]; exact ltZ
        · rw [q]; exact Heap.lt_size atI
        · rw [q]; exact Heap.lt_size atO
        · rw [q]; obtain ⟨_, e1, _⟩ := h1.ob; exact Heap.lt_size e1
        · rw [q]; obtain ⟨_, e2, _⟩ := h2.ob; exact Heap.lt_size e2
        · rw [q]; obtain ⟨_, e3, _⟩ := h3.ob; exact Heap.lt_size e3
      rw [upd_ne (Nat.ne_of_lt ltC)]
      exact (hf c among).1
  done := by
    intro X ofP ofW ofK hc i pns s σ H E I hf stz hg
    subst ofP ofW ofK
    obtain ⟨atZ, atI, ⟨x0, y0, u0, atO⟩, h1, h2, h3⟩ := stz
    obtain ⟨xs, ys, zs, q1, q2, q3, l1, l2, l3, he⟩ := hg
    obtain ⟨t1, r1, p1, _⟩ := seqK I q1
    obtain ⟨t2, r2, p2, _⟩ := seqK I q2
    obtain ⟨t3, r3, p3, _⟩ := seqK I q3
    have hh : X.A.in1.handled = none := I.ok.hd hc
    have m1 := r1.length
    have m2 := r2.length
    have m3 := r3.length
    have z1 : t1.toArray.size = t1.length := List.size_toArray
    have z2 : t2.toArray.size = t2.length := List.size_toArray
    have z3 : t3.toArray.size = t3.length := List.size_toArray
    refine wpAny_pyNext_zipD3_end D.sep (drawsK k1 hh i1 a D.n1 t1.toArray) (drawsK k2 hh i2 b D.n2 t2.toArray) (drawsK k3 hh i3 c D.n3 t3.toArray) atZ atI atO ⟨h1, p1⟩ ⟨h2, p2⟩ ⟨h3, p3⟩
      (by omega) (by omega) (by omega) (by omega) fun h' tk hk => ⟨rfl, I.turnedL (t' := tk) (ch := [z, TI, TO, i1, i2, i3]) (fun c o hb q =>
      hk c o (fun q' => hb (by simp [q'])) (fun q' => hb (by simp [q'])) (fun q' => hb (by simp [q'])) (fun q' => hb (by simp [q'])) (fun q' => hb (by simp [q'])) q) hf⟩
  self := fun A i s Q E stz h => wpAny_pyIter_zip stz.1 h

def iZip3 (K : PySem.W.Frag) (k1 k2 k3 : Bool) (ta : TA) : TI := fun σ H Rq => ta σ H fun vs H1 => ∃ a b c xs ys zs, vs = [.ref a, .ref b, .ref c] ∧ SqK K k1 H1 a xs ∧ SqK K k2 H1 b ys ∧ SqK K k3 H1 c zs ∧ Rq (It3 K k1 k2 k3 a b c) H1
theorem pi_zip3 (k1 k2 k3 : Bool) {X : Cx} {e e2 e3 : Expr} {ta : TA} {p pos tpos : Pos} {elts : List Expr} {kk : Nat} (hg : Gl X "zip") (hm : X.mg "zip" = none) (ha : PA X [e, e2, e3] ta)
    (hs : starEach [e, e2, e3] X.env = (false, eval e X.env) :: starEach [e2, e3] X.env := by rfl) (plain_ : (backTo pos (starEach [e2, e3] X.env)).any (·.1) = false := by rfl) :
    PI X (.Tuple elts kk tpos) (.Call (.Name "zip" p) [e, e2, e3] [] pos) (iZip3 X.K k1 k2 k3 ta) := by
  refine ⟨fun pns s σ H Rq I h => ?_⟩
  refine Call_ (ld_blt I hg hm PyProof.Rows.boot_zip (PyProof.Rows.callWith_type1 (thn (ha.run pos pns s σ H _ I h) fun uz sA ⟨vs, H1, invA, r1, q1⟩ => ?_) hs plain_))
  obtain ⟨a, b, c, xs, ys, zs, ex, sx, sy, hqz, q⟩ := q1
  subst ex
  cases r1 with
  | cons r rr =>
    cases rr with
    | cons r' rr =>
      cases rr with
      | cons r'' rr =>
        cases rr
        cases r
        cases r'
        cases r''
        have allNew6 : ∀ c, c ∈ [sA.heap.objs.size + 5, sA.heap.objs.size + 3, sA.heap.objs.size + 4, sA.heap.objs.size, sA.heap.objs.size + 1, sA.heap.objs.size + 2] → FpOk X pns H1 c := fun c among => by
          have altE : c = sA.heap.objs.size + 5 ∨ c = sA.heap.objs.size + 3 ∨ c = sA.heap.objs.size + 4 ∨ c = sA.heap.objs.size ∨ c = sA.heap.objs.size + 1 ∨ c = sA.heap.objs.size + 2 := by simpa using among
          have geC : sA.heap.objs.size ≤ c := by
            rcases altE with z | z | z | z | z | z
            · rw [z]; exact (Nat.le_add_right _ _)
            · rw [z]; exact (Nat.le_add_right _ _)
            · rw [z]; exact (Nat.le_add_right _ _)
            · rw [z]; exact Nat.le_refl _
            · rw [z]; exact (Nat.le_add_right _ _)
            · rw [z]; exact (Nat.le_add_right _ _)
          exact invA.fpOk geC (invA.hok.fresh geC)
        obtain ⟨t1, r1, p1, _⟩ := seqK invA sx
        obtain ⟨t2, r2, p2, _⟩ := seqK invA sy
        obtain ⟨t3, r3, p3, _⟩ := seqK invA hqz
        have n1 := p1.lt
        have n2 := p2.lt
        have n3 := p3.lt
        refine zip_begins3 (beginsK k1 a t1.toArray) (beginsK k2 b t2.toArray) (beginsK k3 c t3.toArray) p1 p2 p3 fun h' atZ atI atO e1 e2 e3 hsz hk => wpAny_pyIter_zip atZ ?_
        have invB : Inv X pns σ H1 { sA with heap := h' } := invA.kept (t' := sA.toks) hk
        have D : Sep3 (sA.heap.objs.size + 5) (sA.heap.objs.size + 3) (sA.heap.objs.size + 4) sA.heap.objs.size (sA.heap.objs.size + 1) (sA.heap.objs.size + 2) a b c :=
          ⟨zip_sep3 (by simpa using n1) (by simpa using n2) (by simpa using n3), Nat.ne_of_lt n1, Nat.ne_of_lt (Nat.lt_add_right 1 n2), Nat.ne_of_lt (Nat.lt_add_right 2 n3)⟩
        exact ⟨sA.heap.objs.size + 5, [sA.heap.objs.size + 5, sA.heap.objs.size + 3, sA.heap.objs.size + 4, sA.heap.objs.size, sA.heap.objs.size + 1, sA.heap.objs.size + 2], _, _, H1, rfl, invB, turn_zip3 D, ⟨atZ, atI, ⟨_, _, _, atO⟩, itrK_new e1, itrK_new e2, itrK_new e3⟩, allNew6, q⟩

def It2 (K : PySem.W.Frag) (k1 k2 : Bool) (a b : Addr) : It :=
  ⟨fun i H => ∃ (xs ys : List V) (x y : V), SqK K k1 H a xs ∧ SqK K k2 H b ys ∧ xs[i]? = some x ∧ ys[i]? = some y,
    fun i H v H' => ∃ T x y, v = .ref T ∧ H T = none ∧ H' = upd H T (.tup [x, y]) ∧ (∀ xs, SqK K k1 H a xs → xs[i]? = some x) ∧ (∀ ys, SqK K k2 H b ys → ys[i]? = some y),
    fun i H => ∃ xs ys : List V, SqK K k1 H a xs ∧ SqK K k2 H b ys ∧ i ≤ xs.length ∧ i ≤ ys.length ∧ (i = xs.length ∨ i = ys.length)⟩

/-- the cells apart, and from what is walked -/
structure Sep2Z (z TI TO i1 i2 a b : Addr) : Prop where
  sep : ZipSep2 z TI TO i1 i2 [i1, a] [i2, b]
  n1 : a ≠ i1
  n2 : b ≠ i2

theorem turn_zip2k {P : Program} {w : World} {K : PySem.W.Frag} {elts : List Expr} {kk : Nat} {tpos : Pos} {k1 k2 : Bool} {a b z TI TO i1 i2 : Addr} (D : Sep2Z z TI TO i1 i2 a b) :
    Turn P w K (.Tuple elts kk tpos) (It2 K k1 k2 a b) [z, TI, TO, i1, i2] z (fun i h => IsZip h z TI TO .none ∧ IsTupOf2 h TI (.ref i1) (.ref i2) ∧ (∃ x y, IsTupOf2 h TO x y) ∧ ItrK k1 h i1 a i ∧ ItrK k2 h i2 b i) where
  mem := by simp
  obj := fun i h stz q hq => by
    obtain ⟨atZ, atI, ⟨x, y, atO⟩, h1, h2⟩ := stz
    have altE : q = z ∨ q = TI ∨ q = TO ∨ q = i1 ∨ q = i2 := by simpa using hq
    rcases altE with e | e | e | e | e
    · rw [e]; exact ⟨_, atZ, fun v q => nomatch q⟩
    · rw [e]; exact ⟨_, atI, fun v q => nomatch q⟩
    · rw [e]; exact ⟨_, atO, fun v q => nomatch q⟩
    · rw [e]; exact h1.ob
    · rw [e]; exact h2.ob
  keep := fun i h h' stz k => by
    obtain ⟨atZ, atI, ⟨x, y, atO⟩, h1, h2⟩ := stz
    exact ⟨k z (by simp) _ atZ, k TI (by simp) _ atI, ⟨x, y, k TO (by simp) _ atO⟩, h1.at fun o q => k i1 (by simp) o q, h2.at fun o q => k i2 (by simp) o q⟩
  item := by
    intro X ofP ofW ofK hc i pns s σ H E I hf stz hg
    subst ofP ofW ofK
    obtain ⟨atZ, atI, ⟨x0, y0, atO⟩, h1, h2⟩ := stz
    obtain ⟨xs, ys, x, y, q1, q2, hx, hy⟩ := hg
    obtain ⟨t1, r1, p1, _⟩ := seqK I q1
    obtain ⟨t2, r2, p2, _⟩ := seqK I q2
    obtain ⟨v1, e1, w1⟩ := r1.get hx
    obtain ⟨v2, e2, w2⟩ := r2.get hy
    have hh : X.A.in1.handled = none := I.ok.hd hc
    have ltZ : z < s.heap.objs.size := Heap.lt_size atZ
    refine wpAny_pyNext_zipD2_item D.sep (drawsK k1 hh i1 a D.n1 t1.toArray) (drawsK k2 hh i2 b D.n2 t2.toArray) atZ atI atO ⟨h1, p1⟩ ⟨h2, p2⟩
      (by have := (List.getElem?_eq_some_iff.mp e1).1; simpa using this) (by have := (List.getElem?_eq_some_iff.mp e2).1; simpa using this)
      fun y1 y2 h' tk g1 g2 hz' hTO' sA s2 hT hsz hk => ?_
    have f1 : y1 = v1 := by
      have : t1[i]? = some y1 := by simpa using g1
      rw [e1] at this; exact (Option.some.inj this).symm
    have f2 : y2 = v2 := by
      have : t2[i]? = some y2 := by simpa using g2
      rw [e2] at this; exact (Option.some.inj this).symm
    subst f1 f2
    refine ⟨_, rfl, wpAny_letOwnedTupleGo_zip (s := { s with heap := h', toks := tk }) hz' fun heapB hz'' sb => ?_⟩
    have hT2 : heapB.get? s.heap.objs.size = some { cls := .type "tuple", data := .seq #[y1, y2] } := (sb.2 _ (Nat.ne_of_gt ltZ)).trans hT
    have fresh_ : ObjOk X.prog X.w (upd H s.heap.objs.size (.tup [x, y])) heapB s.heap.objs.size (.tup [x, y]) :=
      ⟨by show 2 ≤ sizeLine; decide, [y1, y2], .cons w1 (.cons w2 .nil), ⟨_, hT2, rfl, _, rfl⟩⟩
    have invA : Inv X pns σ (upd H s.heap.objs.size (.tup [x, y])) { s with heap := heapB, toks := tk } :=
      I.turnedNew (t' := tk) (ch := [z, TI, TO, i1, i2]) (fun c o hb q => (sb.2 c (fun q' => hb (by simp [q']))).trans (hk c o (fun q' => hb (by simp [q'])) (fun q' => hb (by simp [q'])) (fun q' => hb (by simp [q'])) (fun q' => hb (by simp [q'])) q)) hf (Nat.le_refl _) fresh_
    have S := D.sep
    refine ⟨.ref s.heap.objs.size, _, invA, rfl, ⟨_, x, y, rfl, I.hok.fresh (Nat.le_refl _), rfl, fun l hl => by rw [seqK_inj I hl q1]; exact hx, fun l hl => by rw [seqK_inj I hl q2]; exact hy⟩, ⟨hz'', ?_, ⟨y1, y2, ?_⟩, ?_, ?_⟩, fun c among => ?_⟩
    · exact (sb.2 _ S.TIz).trans (hk _ _ S.TIz S.TITO S.TIi1 S.TIi2 atI)
    · exact (sb.2 _ S.TOz).trans hTO'
    · exact sA.1.at fun o q => (sb.2 _ (fun e => S.zf1 (by rw [← e]; exact S.mem1))).trans q
    · exact s2.1.at fun o q => (sb.2 _ (fun e => S.zf2 (by rw [← e]; exact S.mem2))).trans q
    · have ltC : c < s.heap.objs.size := by
        have altE : c = z ∨ c = TI ∨ c = TO ∨ c = i1 ∨ c = i2 := by simpa using among
        rcases altE with q | q | q | q | q
        · rw [q]; exact ltZ
        · rw [q]; exact Heap.lt_size atI
        · rw [q]; exact Heap.lt_size atO
        · rw [q]; obtain ⟨_, e1, _⟩ := h1.ob; exact Heap.lt_size e1
        · rw [q]; obtain ⟨_, e2, _⟩ := h2.ob; exact Heap.lt_size e2
      rw [upd_ne (Nat.ne_of_lt ltC)]
      exact (hf c among).1
  done := by
    intro X ofP ofW ofK hc i pns s σ H E I hf stz hg
    subst ofP ofW ofK
    obtain ⟨atZ, atI, ⟨x0, y0, atO⟩, h1, h2⟩ := stz
    obtain ⟨xs, ys, q1, q2, l1, l2, he⟩ := hg
    obtain ⟨t1, r1, p1, _⟩ := seqK I q1
    obtain ⟨t2, r2, p2, _⟩ := seqK I q2
    have hh : X.A.in1.handled = none := I.ok.hd hc
    have m1 := r1.length
    have m2 := r2.length
    have z1 : t1.toArray.size = t1.length := List.size_toArray
    have z2 : t2.toArray.size = t2.length := List.size_toArray
    refine wpAny_pyNext_zipD2_end D.sep (drawsK k1 hh i1 a D.n1 t1.toArray) (drawsK k2 hh i2 b D.n2 t2.toArray) atZ atI atO ⟨h1, p1⟩ ⟨h2, p2⟩
      (by omega) (by omega) (by omega) fun h' tk hk => ⟨rfl, I.turnedL (t' := tk) (ch := [z, TI, TO, i1, i2]) (fun c o hb q =>
      hk c o (fun q' => hb (by simp [q'])) (fun q' => hb (by simp [q'])) (fun q' => hb (by simp [q'])) (fun q' => hb (by simp [q'])) q) hf⟩
  self := fun A i s Q E stz h => wpAny_pyIter_zip stz.1 h

def iZip2 (K : PySem.W.Frag) (k1 k2 : Bool) (ta : TA) : TI := fun σ H Rq => ta σ H fun vs H1 => ∃ a b xs ys, vs = [.ref a, .ref b] ∧ SqK K k1 H1 a xs ∧ SqK K k2 H1 b ys ∧ Rq (It2 K k1 k2 a b) H1
theorem pi_zip2 (k1 k2 : Bool) {X : Cx} {e e2 : Expr} {ta : TA} {p pos tpos : Pos} {elts : List Expr} {kk : Nat} (hg : Gl X "zip") (hm : X.mg "zip" = none) (ha : PA X [e, e2] ta)
    (hs : starEach [e, e2] X.env = (false, eval e X.env) :: starEach [e2] X.env := by rfl) (plain_ : (backTo pos (starEach [e2] X.env)).any (·.1) = false := by rfl) :
    PI X (.Tuple elts kk tpos) (.Call (.Name "zip" p) [e, e2] [] pos) (iZip2 X.K k1 k2 ta) := by
  refine ⟨fun pns s σ H Rq I h => ?_⟩
  refine Call_ (ld_blt I hg hm PyProof.Rows.boot_zip (PyProof.Rows.callWith_type1 (thn (ha.run pos pns s σ H _ I h) fun uz sA ⟨vs, H1, invA, r1, q1⟩ => ?_) hs plain_))
  obtain ⟨a, b, xs, ys, ex, sx, sy, q⟩ := q1
  subst ex
  cases r1 with
  | cons r rr =>
    cases rr with
    | cons r' rr =>
      cases rr
      cases r
      cases r'
      have allNew : ∀ c, c ∈ [sA.heap.objs.size + 4, sA.heap.objs.size + 2, sA.heap.objs.size + 3, sA.heap.objs.size, sA.heap.objs.size + 1] → FpOk X pns H1 c := fun c among => by
        have altE : c = sA.heap.objs.size + 4 ∨ c = sA.heap.objs.size + 2 ∨ c = sA.heap.objs.size + 3 ∨ c = sA.heap.objs.size ∨ c = sA.heap.objs.size + 1 := by simpa using among
        have geC : sA.heap.objs.size ≤ c := by
          rcases altE with z | z | z | z | z
          · rw [z]; exact (Nat.le_add_right _ _)
          · rw [z]; exact (Nat.le_add_right _ _)
          · rw [z]; exact (Nat.le_add_right _ _)
          · rw [z]; exact Nat.le_refl _
          · rw [z]; exact (Nat.le_add_right _ _)
        exact invA.fpOk geC (invA.hok.fresh geC)
      obtain ⟨t1, r1, p1, _⟩ := seqK invA sx
      obtain ⟨t2, r2, p2, _⟩ := seqK invA sy
      have n1 := p1.lt
      have n2 := p2.lt
      refine zip_begins2 (beginsK k1 a t1.toArray) (beginsK k2 b t2.toArray) p1 p2 fun h' atZ atI atO e1 e2 hsz hk => wpAny_pyIter_zip atZ ?_
      have invB : Inv X pns σ H1 { sA with heap := h' } := invA.kept (t' := sA.toks) hk
      have D : Sep2Z (sA.heap.objs.size + 4) (sA.heap.objs.size + 2) (sA.heap.objs.size + 3) sA.heap.objs.size (sA.heap.objs.size + 1) a b :=
        ⟨zip_sep2 (by simpa using n1) (by simpa using n2), Nat.ne_of_lt n1, Nat.ne_of_lt (Nat.lt_add_right 1 n2)⟩
      exact ⟨sA.heap.objs.size + 4, [sA.heap.objs.size + 4, sA.heap.objs.size + 2, sA.heap.objs.size + 3, sA.heap.objs.size, sA.heap.objs.size + 1], _, _, H1, rfl, invB, turn_zip2k D, ⟨atZ, atI, ⟨_, _, atO⟩, itrK_new e1, itrK_new e2⟩, allNew, q⟩
end Mv

namespace Mv
open PySem L2 Evl

/-! ### rules' readings by name -/
abbrev rLenA (K : PySem.W.Frag) : List V → Hp → VK → Prop := fun xs H Q => ∃ p ys, xs = [.ref p] ∧ (SqL K H p ys ∨ SqT K H p ys) ∧ Q (.int ys.length) H
abbrev rTupOf (K : PySem.W.Frag) : List V → Hp → VK → Prop := fun xs H Q => ∃ p ys, xs = [.ref p] ∧ ((SqL K H p ys ∧ ∀ l, H l = none → Q (.ref l) (upd H l (.tup ys))) ∨ (SqT K H p ys ∧ Q (.ref p) H))
abbrev rListOf (K : PySem.W.Frag) : List V → Hp → VK → Prop := fun xs H Q => ∃ p ys, xs = [.ref p] ∧ (SqL K H p ys ∨ SqT K H p ys) ∧ ∀ l, H l = none → Q (.ref l) (upd H l (.lst ys))

/-! ### data that stand in G -/
abbrev D := PyData
mutual
inductive Dq (G : Hp) : V → D → Prop
  | non : Dq G .non .none
  | bl (b : Bool) : Dq G (.bl b) (.bool b)
  | int (i : Int) : Dq G (.int i) (.int i)
  | str (x : Str) : Dq G (.str x) (.str x)
  | lst {a : Addr} {xs : List V} {ds : List D} : G a = some (.lst xs) → DqA G xs ds → Dq G (.ref a) (.list ds)
  | tup {a : Addr} {xs : List V} {ds : List D} : G a = some (.tup xs) → DqA G xs ds → Dq G (.ref a) (.tuple ds)
  | emp {a : Addr} {kvs : List (L2.Key × V)} {ds : List (D × D)} : G a = some (.dK kvs) → Dq G (.ref a) (.dict ds)
inductive DqA (G : Hp) : List V → List D → Prop
  | nil : DqA G [] []
  | cons {v : V} {vs : List V} {d : D} {ds : List D} : Dq G v d → DqA G vs ds → DqA G (v :: vs) (d :: ds)
end
mutual
theorem Dq.mono {G G' : Hp} (e : Ex G G') : ∀ {v : V} {d : D}, Dq G v d → Dq G' v d
  | _, _, .non => .non
  | _, _, .bl b => .bl b
  | _, _, .int i => .int i
  | _, _, .str x => .str x
  | _, _, .lst h k => .lst (e _ _ h) (DqA.mono e k)
  | _, _, .tup h k => .tup (e _ _ h) (DqA.mono e k)
  | _, _, .emp h => .emp (e _ _ h)
theorem DqA.mono {G G' : Hp} (e : Ex G G') : ∀ {vs : List V} {ds : List D}, DqA G vs ds → DqA G' vs ds
  | _, _, .nil => .nil
  | _, _, .cons h k => .cons (Dq.mono e h) (DqA.mono e k)
end
theorem DqA.len {G : Hp} : ∀ {vs : List V} {ds : List D}, DqA G vs ds → vs.length = ds.length
  | _, _, .nil => rfl
  | _, _, .cons _ k => by rw [List.length_cons, List.length_cons, k.len]
theorem DqA.app {G : Hp} : ∀ {vs ws : List V} {ds es : List D}, DqA G vs ds → DqA G ws es → DqA G (vs ++ ws) (ds ++ es)
  | _, _, _, _, .nil, k => k
  | _, _, _, _, .cons h t, k => .cons h (DqA.app t k)
theorem DqA.get {G : Hp} : ∀ {vs : List V} {ds : List D} {i : Nat} {v : V}, DqA G vs ds → vs[i]? = some v → ∃ d, ds[i]? = some d ∧ Dq G v d
  | _, _, _, _, .nil, e => by simp at e
  | _, _, 0, _, .cons h _, e => by simp at e; subst e; exact ⟨_, rfl, h⟩
  | _, _, i + 1, _, .cons _ t, e => by
    obtain ⟨d, h1, h2⟩ := DqA.get (i := i) t (by simpa using e)
    exact ⟨d, by simpa using h1, h2⟩
theorem DqA.getD {G : Hp} : ∀ {vs : List V} {ds : List D} {i : Nat} {d : D}, DqA G vs ds → ds[i]? = some d → ∃ v, vs[i]? = some v ∧ Dq G v d
  | _, _, _, _, .nil, e => by simp at e
  | _, _, 0, _, .cons h _, e => by simp at e; subst e; exact ⟨_, rfl, h⟩
  | _, _, i + 1, _, .cons _ t, e => by
    obtain ⟨d, h1, h2⟩ := DqA.getD (i := i) t (by simpa using e)
    exact ⟨d, by simpa using h1, h2⟩
theorem DqA.snoc {G : Hp} {vs : List V} {ds : List D} {v : V} {d : D} (h : DqA G vs ds) (k : Dq G v d) : DqA G (vs ++ [v]) (ds ++ [d]) := h.app (.cons k .nil)
theorem DqA.rep {G : Hp} {vs : List V} {ds : List D} (h : DqA G vs ds) : ∀ n : Nat, DqA G (List.replicate n vs).flatten (List.replicate n ds).flatten
  | 0 => .nil
  | n + 1 => by
    (rw [List.replicate_succ, List.replicate_succ, List.flatten_cons, List.flatten_cons])
    exact h.app (h.rep n)
theorem DqA.drop {G : Hp} : ∀ {vs : List V} {ds : List D} (n : Nat), DqA G vs ds → DqA G (vs.drop n) (ds.drop n)
  | _, _, 0, h => h
  | _, _, _ + 1, .nil => .nil
  | _, _, n + 1, .cons _ t => DqA.drop n t
theorem DqA.take {G : Hp} : ∀ {vs : List V} {ds : List D} (n : Nat), DqA G vs ds → DqA G (vs.take n) (ds.take n)
  | _, _, 0, _ => .nil
  | _, _, _ + 1, .nil => .nil
  | _, _, n + 1, .cons h t => .cons h (DqA.take n t)
theorem DqA.ints {G : Hp} : ∀ {vs : List V} {ns : List Int}, DqA G vs (ns.map PyData.int) → vs = ns.map V.int
  | _, [], h => by cases h; rfl
  | _, n :: ns, h => by
    cases h with
    | cons h t =>
      cases h
      rw [List.map_cons, ← DqA.ints t]
theorem DqA.ofInts {G : Hp} : ∀ (ns : List Int), DqA G (ns.map V.int) (ns.map PyData.int)
  | [] => .nil
  | n :: ns => .cons (.int n) (DqA.ofInts ns)
theorem DqA.bls {G : Hp} : ∀ {vs : List V} {bs : List Bool}, DqA G vs (bs.map PyData.bool) → vs = bs.map V.bl
  | _, [], h => by cases h; rfl
  | _, n :: ns, h => by
    cases h with
    | cons h t =>
      cases h
      rw [List.map_cons, ← DqA.bls t]

/-! ### steps: what is known grows, what stands stays, what is not known stays unknown -/
structure Stp (G H G' H' : Hp) : Prop where
  g : Ex G G'
  h : Ex H H'
  w : Ex G' H'
  n : ∀ b, G b = none → H b ≠ none → G' b = none
theorem Stp.refl {G H : Hp} (e : Ex G H) : Stp G H G H := ⟨.refl G, .refl H, e, fun _ h _ => h⟩
theorem Stp.trans {G H G1 H1 G2 H2 : Hp} (a : Stp G H G1 H1) (b : Stp G1 H1 G2 H2) : Stp G H G2 H2 :=
  ⟨a.g.trans b.g, a.h.trans b.h, b.w, fun c h1 h2 => b.n c (a.n c h1 h2) fun z => by
    cases q : H c with
    | none => exact h2 q
    | some o => rw [a.h c o q] at z; cases z⟩
theorem Stp.new {G H : Hp} {p : Addr} {o : HO} (e : Ex G H) (hp : H p = none) : Stp G H (upd G p o) (upd H p o) := by
  have gp : G p = none := fresh_back e hp
  refine ⟨.new gp, .new hp, fun a u q => ?_, fun b h1 h2 => ?_⟩
  · by_cases ha : a = p
    · subst ha; rw [upd_same] at q ⊢; exact q
    · rw [upd_ne ha] at q ⊢; exact e a u q
  · have hb : b ≠ p := fun z => h2 (z ▸ hp)
    rw [upd_ne hb]; exact h1
/-- the heap alone moves on, by what is not known -/
theorem Stp.old {G H H' : Hp} (e : Ex G H) (h : Ex H H') : Stp G H G H' := ⟨.refl G, h, e.trans h, fun _ h _ => h⟩

/-! ### evaluation, told of data -/
def EvD (te : TE) (σ : L2.St) (G : Hp) (d : D) : Prop := ∀ G1 H1, Ex G G1 → Ex G1 H1 → ∀ Q : VK, (∀ v G2 H2, Stp G1 H1 G2 H2 → Dq G2 v d → Q v H2) → te σ H1 Q
def EvB (tt : TT) (σ : L2.St) (G : Hp) (b : Bool) : Prop := ∀ G1 H1, Ex G G1 → Ex G1 H1 → ∀ Q : Bool → Hp → Prop, (∀ G2 H2, Stp G1 H1 G2 H2 → Q b H2) → tt σ H1 Q
def EvS (ta : TA) (σ : L2.St) (G : Hp) (ds : List D) : Prop := ∀ G1 H1, Ex G G1 → Ex G1 H1 → ∀ Q : List V → Hp → Prop, (∀ vs G2 H2, Stp G1 H1 G2 H2 → DqA G2 vs ds → Q vs H2) → ta σ H1 Q
/-- operations on values -/
def OpD (r : R2) (G : Hp) (d e z : D) : Prop := ∀ x y G1 H1, Ex G G1 → Ex G1 H1 → Dq G1 x d → Dq G1 y e → ∀ Q : VK, (∀ v G2 H2, Stp G1 H1 G2 H2 → Dq G2 v z → Q v H2) → r x y H1 Q
def UnD (r : V → Hp → VK → Prop) (G : Hp) (d z : D) : Prop := ∀ x G1 H1, Ex G G1 → Ex G1 H1 → Dq G1 x d → ∀ Q : VK, (∀ v G2 H2, Stp G1 H1 G2 H2 → Dq G2 v z → Q v H2) → r x H1 Q
def CaD (r : List V → Hp → VK → Prop) (G : Hp) (ds : List D) (z : D) : Prop := ∀ vs G1 H1, Ex G G1 → Ex G1 H1 → DqA G1 vs ds → ∀ Q : VK, (∀ v G2 H2, Stp G1 H1 G2 H2 → Dq G2 v z → Q v H2) → r vs H1 Q
section
variable {K : PySem.W.Frag} {σ : L2.St} {G G' H H' : Hp} {ta tb te tx : TE} {t u : TT} {r : R2} {d e z : D} {ds es : List D}
theorem EvD.mono (x : Ex G G') (h : EvD te σ G d) : EvD te σ G' d := fun G1 H1 a b Q q => h G1 H1 (x.trans a) b Q q
theorem EvB.mono {b : Bool} (x : Ex G G') (h : EvB t σ G b) : EvB t σ G' b := fun G1 H1 a b Q q => h G1 H1 (x.trans a) b Q q
theorem EvD.is (h : EvD te σ G d) (x : d = e) : EvD te σ G e := x ▸ h
theorem EvB.is {b c : Bool} (h : EvB t σ G b) (x : b = c) : EvB t σ G c := x ▸ h
theorem d_var {i : Nat} {v : V} (h : σ[i]? = some (some v)) (k : Dq G v d) : EvD (tVar i) σ G d := fun G1 H1 a b Q q => ⟨v, h, q v G1 H1 (.refl b) (k.mono a)⟩
theorem d_c {v : V} (k : Dq G v d) : EvD (tC v) σ G d := fun G1 H1 a b Q q => q v G1 H1 (.refl b) (k.mono a)
theorem d_op (ha : EvD ta σ G d) (hb : EvD tb σ G e) (hr : OpD r G d e z) : EvD (tOp r ta tb) σ G z := fun G1 H1 a b Q q =>
  ha G1 H1 a b _ fun x G2 H2 s1 hx => hb G2 H2 (a.trans s1.g) s1.w _ fun y G3 H3 s2 hy => hr x y G3 H3 ((a.trans s1.g).trans s2.g) s2.w (hx.mono s2.g) hy Q fun v G4 H4 s3 hv => q v G4 H4 ((s1.trans s2).trans s3) hv
theorem d_un {r : V → Hp → VK → Prop} (ha : EvD ta σ G d) (hr : UnD r G d z) : EvD (tUn r ta) σ G z := fun G1 H1 a b Q q =>
  ha G1 H1 a b _ fun x G2 H2 s1 hx => hr x G2 H2 (a.trans s1.g) s1.w hx Q fun v G4 H4 s3 hv => q v G4 H4 (s1.trans s3) hv
theorem opd_I0 {g : Int → Int → V} {i j : Int} (h : ∀ G, Dq G (g i j) z) : OpD (rI0 g) G (.int i) (.int j) z := fun x y G1 H1 a b hx hy Q q => by
  cases hx; cases hy
  exact ⟨i, j, rfl, rfl, q _ G1 H1 (.refl b) (h G1)⟩
theorem opd_I {C : Int → Int → Prop} {g : Int → Int → V} {i j : Int} (hc : C i j) (h : ∀ G, Dq G (g i j) z) : OpD (rI C g) G (.int i) (.int j) z := fun x y G1 H1 a b hx hy Q q => by
  cases hx; cases hy
  exact ⟨i, j, rfl, rfl, hc, q _ G1 H1 (.refl b) (h G1)⟩
theorem opd_catT {as bs : List D} (hz : as.length + bs.length ≤ sizeLine) : OpD (rCatA K) G (.tuple as) (.tuple bs) (.tuple (as ++ bs)) := fun x y G1 H1 a b hx hy Q q => by
  cases hx with
  | @tup p xs _ hp hxs =>
    cases hy with
    | @tup p2 ys _ hp2 hys =>
      refine ⟨p, p2, xs, ys, rfl, rfl, SqT.of (b _ _ hp), SqT.of (b _ _ hp2), by rw [hxs.len, hys.len]; exact hz, fun e => ?_, fun _ e => ?_, fun _ _ l hl => ?_⟩
      · subst e
        cases hxs
        exact q _ G1 H1 (.refl b) (.tup hp2 hys)
      · subst e
        cases hys
        rw [List.append_nil] at q
        exact q _ G1 H1 (.refl b) (.tup hp hxs)
      · have s := Stp.new (o := .tup (xs ++ ys)) b hl
        exact q _ _ _ s (.tup upd_same ((hxs.app hys).mono s.g))
theorem opd_cat {as bs : List D} (hz : as.length + bs.length ≤ sizeLine) : OpD rCat G (.list as) (.list bs) (.list (as ++ bs)) := fun x y G1 H1 a b hx hy Q q => by
  cases hx with
  | @lst p xs _ hp hxs =>
    cases hy with
    | @lst p2 ys _ hp2 hys =>
      refine ⟨p, p2, xs, ys, rfl, rfl, b _ _ hp, b _ _ hp2, by rw [hxs.len, hys.len]; exact hz, fun l hl => ?_⟩
      have s := Stp.new (o := .lst (xs ++ ys)) b hl
      exact q _ _ _ s (.lst upd_same ((hxs.app hys).mono s.g))
theorem opd_ixT {as : List D} {j : Nat} (h : as[j]? = some z) : OpD (rIxT K) G (.tuple as) (.int (j : Int)) z := fun x y G1 H1 a b hx hy Q q => by
  cases hx with
  | @tup p xs _ hp hxs =>
    cases hy
    obtain ⟨v, hv, hd⟩ := hxs.getD h
    exact ⟨p, xs, (j : Int), v, rfl, rfl, SqT.of (b _ _ hp), atI_nat hv, q v G1 H1 (.refl b) hd⟩
theorem opd_ixL {as : List D} {j : Nat} (h : as[j]? = some z) : OpD (rIxL K) G (.list as) (.int (j : Int)) z := fun x y G1 H1 a b hx hy Q q => by
  cases hx with
  | @lst p xs _ hp hxs =>
    cases hy
    obtain ⟨v, hv, hd⟩ := hxs.getD h
    exact ⟨p, xs, (j : Int), v, rfl, rfl, SqL.of (b _ _ hp), atI_nat hv, q v G1 H1 (.refl b) hd⟩
mutual
def flatD : D → Bool
  | .dict _ => false
  | .list xs => flatDs xs
  | .tuple xs => flatDs xs
  | _ => true
def flatDs : List D → Bool
  | [] => true
  | x :: xs => flatD x && flatDs xs
end
mutual
theorem dp_of (x : Ex G H) : ∀ {d : D} {v : V}, Dq G v d → flatD d = true → Dp K H v d
  | _, _, .non, _ => .non
  | _, _, .bl b, _ => .bl b
  | _, _, .int i, _ => .int i
  | _, _, .str s, _ => .str s
  | _, _, .lst h k, f => .lst (SqL.of (x _ _ h)) (dpAll_of x k (by simpa [flatD] using f))
  | _, _, .tup h k, f => .tup (SqT.of (x _ _ h)) (dpAll_of x k (by simpa [flatD] using f))
  | _, _, .emp _, f => by simp [flatD] at f
theorem dpAll_of (x : Ex G H) : ∀ {ds : List D} {vs : List V}, DqA G vs ds → flatDs ds = true → DpAll K H vs ds
  | _, _, .nil, _ => .nil
  | _, _, .cons h k, f => by
    simp only [flatDs, Bool.and_eq_true] at f
    exact .cons (dp_of x h f.1) (dpAll_of x k f.2)
end
theorem opd_eq (f1 : flatD d = true) (f2 : flatD e = true) (s1 : SeqAt.shaped d = true) (s2 : SeqAt.shaped e = true) : OpD (rEqD K) G d e (.bool (PyData.eqv d e)) := fun x y G1 H1 a b hx hy Q q =>
  ⟨d, e, dp_of b hx f1, dp_of b hy f2, s1, s2, q _ G1 H1 (.refl b) (.bl _)⟩
theorem opd_ne (f1 : flatD d = true) (f2 : flatD e = true) (s1 : SeqAt.shaped d = true) (s2 : SeqAt.shaped e = true) : OpD (rNeD K) G d e (.bool (!PyData.eqv d e)) := fun x y G1 H1 a b hx hy Q q =>
  ⟨d, e, dp_of b hx f1, dp_of b hy f2, s1, s2, q _ G1 H1 (.refl b) (.bl _)⟩

/-! ### tests -/
theorem b_test {b : Bool} (h : EvD te σ G (.bool b)) : EvB (tTest te) σ G b := fun G1 H1 a w Q q => h G1 H1 a w _ fun v G2 H2 s hv => by
  cases hv
  exact ⟨b, rfl, q G2 H2 s⟩
theorem b_B {b : Bool} (h : EvD te σ G (.bool b)) : EvB (tB te) σ G b := fun G1 H1 a w Q q => h G1 H1 a w _ fun v G2 H2 s hv => by
  cases hv
  exact ⟨b, rfl, q G2 H2 s⟩
theorem b_and {a b : Bool} (h1 : EvB t σ G a) (h2 : a = true → EvB u σ G b) : EvB (tAnd t u) σ G (a && b) := fun G1 H1 x w Q q => h1 G1 H1 x w _ fun G2 H2 s => by
  cases a with
  | true => exact iteT (h2 rfl G2 H2 (x.trans s.g) s.w Q fun G3 H3 s3 => q G3 H3 (s.trans s3))
  | false => exact iteF (q G2 H2 s)
theorem b_or {a b : Bool} (h1 : EvB t σ G a) (h2 : a = false → EvB u σ G b) : EvB (tOr t u) σ G (a || b) := fun G1 H1 x w Q q => h1 G1 H1 x w _ fun G2 H2 s => by
  cases a with
  | true => exact iteT (q G2 H2 s)
  | false => exact iteF (h2 rfl G2 H2 (x.trans s.g) s.w Q fun G3 H3 s3 => q G3 H3 (s.trans s3))
theorem b_not {a : Bool} (h1 : EvB t σ G a) : EvB (tNot t) σ G (!a) := fun G1 H1 x w Q q => h1 G1 H1 x w _ fun G2 H2 s => q G2 H2 s
theorem b_yes : EvB tYes σ G true := fun G1 H1 x w Q q => q G1 H1 (.refl w)
theorem d_and {a b : Bool} (h1 : EvD ta σ G (.bool a)) (h2 : a = true → EvD tb σ G (.bool b)) : EvD (tAndV ta tb) σ G (.bool (a && b)) := fun G1 H1 x w Q q => h1 G1 H1 x w _ fun v G2 H2 s hv => by
  cases hv
  refine ⟨a, rfl, ?_⟩
  cases a with
  | true => exact iteT (h2 rfl G2 H2 (x.trans s.g) s.w Q fun v G3 H3 s3 => q v G3 H3 (s.trans s3))
  | false => exact iteF (q _ G2 H2 s (.bl false))
theorem d_or {a b : Bool} (h1 : EvD ta σ G (.bool a)) (h2 : a = false → EvD tb σ G (.bool b)) : EvD (tOrV ta tb) σ G (.bool (a || b)) := fun G1 H1 x w Q q => h1 G1 H1 x w _ fun v G2 H2 s hv => by
  cases hv
  refine ⟨a, rfl, ?_⟩
  cases a with
  | true => exact iteT (q _ G2 H2 s (.bl true))
  | false => exact iteF (h2 rfl G2 H2 (x.trans s.g) s.w Q fun v G3 H3 s3 => q v G3 H3 (s.trans s3))
theorem d_not {a : Bool} (h1 : EvD ta σ G (.bool a)) : EvD (tNotV ta) σ G (.bool (!a)) := fun G1 H1 x w Q q => h1 G1 H1 x w _ fun v G2 H2 s hv => by
  cases hv
  exact ⟨a, rfl, q _ G2 H2 s (.bl _)⟩
theorem d_if {b : Bool} (h : EvB t σ G b) (h1 : b = true → EvD ta σ G d) (h2 : b = false → EvD tb σ G d) : EvD (tIf t ta tb) σ G d := fun G1 H1 x w Q q => h G1 H1 x w _ fun G2 H2 s => by
  cases b with
  | true => exact iteT (h1 rfl G2 H2 (x.trans s.g) s.w Q fun v G3 H3 s3 => q v G3 H3 (s.trans s3))
  | false => exact iteF (h2 rfl G2 H2 (x.trans s.g) s.w Q fun v G3 H3 s3 => q v G3 H3 (s.trans s3))
/-- a < b < c over ints -/
theorem d_chainI {f g : Int → Int → Bool} {tc : TE} {i j k : Int} (ha : EvD ta σ G (.int i)) (hb : EvD tb σ G (.int j)) (hc : EvD tc σ G (.int k)) :
    EvD (tChain (rI0 fun i j => .bl (f i j)) (rI0 fun i j => .bl (g i j)) ta tb tc) σ G (.bool (f i j && g j k)) := fun G1 H1 x w Q q => ha G1 H1 x w _ fun v G2 H2 s hv => by
  cases hv
  refine hb G2 H2 (x.trans s.g) s.w _ fun v G3 H3 s3 hv => ?_
  cases hv
  refine ⟨i, j, rfl, rfl, f i j, rfl, ?_⟩
  cases hf : f i j with
  | true =>
    refine hc G3 H3 ((x.trans s.g).trans s3.g) s3.w _ fun v G4 H4 s4 hv => ?_
    cases hv
    rw [hf] at q
    exact ⟨j, k, rfl, rfl, q _ G4 H4 ((s.trans s3).trans s4) (.bl _)⟩
  | false =>
    rw [hf] at q
    exact q _ G3 H3 (s.trans s3) (.bl _)

/-! ### arguments, displays, calls -/
theorem a_nil : EvS tNil σ G [] := fun G1 H1 x w Q q => q [] G1 H1 (.refl w) .nil
theorem a_cons {tr : TA} (h : EvD ta σ G d) (hr : EvS tr σ G ds) : EvS (tCons ta tr) σ G (d :: ds) := fun G1 H1 x w Q q =>
  h G1 H1 x w _ fun v G2 H2 s hv => hr G2 H2 (x.trans s.g) s.w _ fun vs G3 H3 s3 hvs => q (v :: vs) G3 H3 (s.trans s3) (.cons (hv.mono s3.g) hvs)
theorem d_tup {tr : TA} (h : EvS tr σ G ds) (hz : ds.length ≤ sizeLine) : EvD (tTup tr) σ G (.tuple ds) := fun G1 H1 x w Q q =>
  h G1 H1 x w _ fun vs G2 H2 s hvs => ⟨by rw [hvs.len]; exact hz, fun p hp => by
    have s2 := Stp.new (o := .tup vs) s.w hp
    exact q _ _ _ (s.trans s2) (.tup upd_same (hvs.mono s2.g))⟩
theorem d_lst {tr : TA} (h : EvS tr σ G ds) (hz : ds.length ≤ sizeLine) : EvD (tLst tr) σ G (.list ds) := fun G1 H1 x w Q q =>
  h G1 H1 x w _ fun vs G2 H2 s hvs => ⟨by rw [hvs.len]; exact hz, fun p hp => by
    have s2 := Stp.new (o := .lst vs) s.w hp
    exact q _ _ _ (s.trans s2) (.lst upd_same (hvs.mono s2.g))⟩
theorem d_cb {rc : List V → Hp → VK → Prop} {tr : TA} (h : EvS tr σ G ds) (hr : CaD rc G ds z) : EvD (tCB rc tr) σ G z := fun G1 H1 x w Q q =>
  h G1 H1 x w _ fun vs G2 H2 s hvs => hr vs G2 H2 (x.trans s.g) s.w hvs Q fun v G3 H3 s3 hv => q v G3 H3 (s.trans s3) hv
/-- a def without effect: from data that P says right to the data f tells -/
def SpD (P : List D → Prop) (f : List D → D) : Sp := fun vs H Q _ => ∃ G ds, Ex G H ∧ DqA G vs ds ∧ P ds ∧ ∀ v G2 H2, Stp G H G2 H2 → Dq G2 v (f ds) → Q v H2
theorem d_call {P : List D → Prop} {f : List D → D} {E : XK} {tr : TA} (h : EvS tr σ G ds) (hp : P ds) : EvD (tCall (SpD P f) [] E tr) σ G (f ds) := fun G1 H1 x w Q q =>
  h G1 H1 x w _ fun vs G2 H2 s hvs => by
    rw [List.append_nil]
    exact ⟨G2, ds, s.w, hvs, hp, fun v G3 H3 s3 hv => q v G3 H3 (s.trans s3) hv⟩
theorem cad_lenL : CaD (rLenA K) G [.list ds] (.int ds.length) := fun vs G1 H1 x w h Q q => by
  cases h with
  | cons h k =>
    cases k
    cases h with
    | lst hp hx => exact ⟨_, _, rfl, .inl (SqL.of (w _ _ hp)), by rw [hx.len]; exact q _ G1 H1 (.refl w) (.int _)⟩
theorem cad_lenT : CaD (rLenA K) G [.tuple ds] (.int ds.length) := fun vs G1 H1 x w h Q q => by
  cases h with
  | cons h k =>
    cases k
    cases h with
    | tup hp hx => exact ⟨_, _, rfl, .inr (SqT.of (w _ _ hp)), by rw [hx.len]; exact q _ G1 H1 (.refl w) (.int _)⟩
theorem cad_tuple : CaD (rTupOf K) G [.list ds] (.tuple ds) := fun vs G1 H1 x w h Q q => by
  cases h with
  | cons h k =>
    cases k
    cases h with
    | @lst p xs _ hp hx =>
      refine ⟨_, _, rfl, .inl ⟨SqL.of (w _ _ hp), fun l hl => ?_⟩⟩
      have s2 := Stp.new (o := .tup xs) w hl
      exact q _ _ _ s2 (.tup upd_same (hx.mono s2.g))
theorem cad_list : CaD (rListOf K) G [.list ds] (.list ds) := fun vs G1 H1 x w h Q q => by
  cases h with
  | cons h k =>
    cases k
    cases h with
    | @lst p xs _ hp hx =>
      refine ⟨_, _, rfl, .inl (SqL.of (w _ _ hp)), fun l hl => ?_⟩
      have s2 := Stp.new (o := .lst xs) w hl
      exact q _ _ _ s2 (.lst upd_same (hx.mono s2.g))
theorem cad_int1 {i : Int} : CaD (fun xs H Q => (∃ i, xs = [.int i] ∧ Q (.int i) H) ∨ ∃ k, xs = [.bl k] ∧ Q (.int (if k then 1 else 0)) H) G [.int i] (.int i) := fun vs G1 H1 x w h Q q => by
  cases h with
  | cons h k =>
    cases k
    cases h
    exact .inl ⟨i, rfl, q _ G1 H1 (.refl w) (.int _)⟩
theorem cad_all {bs : List Bool} : CaD (rAll K) G [.list (bs.map PyData.bool)] (.bool (bs.all id)) := fun vs G1 H1 x w h Q q => by
  cases h with
  | cons h k =>
    cases k
    cases h with
    | @lst p xs _ hp hx =>
      have e := hx.bls
      subst e
      exact ⟨p, bs, rfl, SqL.of (w _ _ hp), q _ G1 H1 (.refl w) (.bl _)⟩
theorem cad_min2 {i j : Int} : CaD (fun xs H Q => ∃ i j, xs = [.int i, .int j] ∧ Q (.int (if j < i then j else i)) H) G [.int i, .int j] (.int (if j < i then j else i)) := fun vs G1 H1 x w h Q q => by
  cases h with
  | cons h k =>
    cases k with
    | cons h2 k =>
      cases k
      cases h
      cases h2
      exact ⟨i, j, rfl, q _ G1 H1 (.refl w) (.int _)⟩

/-! ### comprehensions -/
/-- the list that is being made: acc, in which what d tells stands, beside what is known -/
structure Mk2 (G0 H0 : Hp) (p : Addr) (ds : List D) (H : Hp) : Prop where
  at_ : ∃ G vs, Stp G0 H0 G H ∧ G p = none ∧ DqA G vs ds ∧ H p = some (.lst vs)
theorem Mk2.start {G0 H0 : Hp} {p : Addr} (x : Ex G0 H0) (hp : H0 p = none) : Mk2 G0 H0 p [] (upd H0 p (.lst [])) :=
  ⟨G0, [], ⟨.refl _, .new hp, x.trans (.new hp), fun _ h _ => h⟩, fresh_back x hp, .nil, upd_same⟩
/-- one turn: the test, the item -/
theorem Mk2.turn {G0 H0 H1 : Hp} {p : Addr} {acc : List D} {σ2 : L2.St} {b : Bool} (h0 : H0 p = none) (m : Mk2 G0 H0 p acc H1) (hz : acc.length < sizeLine)
    (ht : ∀ G, Ex G0 G → Ex G H1 → EvB t σ2 G b) (he : ∀ G, Ex G0 G → Ex G H1 → b = true → EvD te σ2 G d) {N : Hp → Prop} (k : ∀ H2, Mk2 G0 H0 p (if b then acc ++ [d] else acc) H2 → N H2) :
    t σ2 H1 fun b' H3 => if b' = true then te σ2 H3 fun y H4 => ∃ ac, H4 p = some (.lst ac) ∧ ac.length < sizeLine ∧ N (upd H4 p (.lst (ac ++ [y]))) else N H3 := by
  obtain ⟨G, vs, s, gp, hvs, hH⟩ := m
  refine ht G s.g s.w G H1 (.refl G) s.w _ fun G2 H2 s2 => ?_
  have g2 : G2 p = none := s2.n p gp (by rw [hH]; intro z; cases z)
  cases b with
  | false => exact iteF (k _ ⟨G2, vs, s.trans s2, g2, hvs.mono s2.g, s2.h _ _ hH⟩)
  | true =>
    refine iteT (he G s.g s.w rfl G2 H2 s2.g s2.w _ fun v G3 H3 s3 hv => ?_)
    have h3 : H3 p = some (.lst vs) := s3.h _ _ (s2.h _ _ hH)
    have g3 : G3 p = none := s3.n p g2 (by rw [s2.h _ _ hH]; intro z; cases z)
    refine ⟨vs, h3, by rw [hvs.len]; exact hz, k _ ⟨G3, vs ++ [v], ?_, g3, (hvs.mono (s2.g.trans s3.g)).snoc hv, upd_same⟩⟩
    have s4 := (s.trans s2).trans s3
    refine ⟨s4.g, s4.h.mut h0, fun a o q => ?_, s4.n⟩
    have ha : a ≠ p := fun z => by rw [z, g3] at q; cases q
    rw [upd_ne ha]
    exact s3.w a o q
/-- the end: the list is known from now on -/
theorem Mk2.done {G0 H0 H1 : Hp} {p : Addr} {acc : List D} (h0 : H0 p = none) (m : Mk2 G0 H0 p acc H1) : ∃ G, Stp G0 H0 G H1 ∧ Dq G (.ref p) (.list acc) := by
  obtain ⟨G, vs, s, gp, hvs, hH⟩ := m
  refine ⟨upd G p (.lst vs), ⟨s.g.trans (.new gp), s.h, fun a o q => ?_, fun b h1 h2 => ?_⟩, .lst upd_same (hvs.mono (.new gp))⟩
  · by_cases ha : a = p
    · subst ha; rw [upd_same] at q; rw [← q]; exact hH
    · rw [upd_ne ha] at q; exact s.w a o q
  · have hb : b ≠ p := fun z => h2 (z ▸ h0)
    rw [upd_ne hb]; exact s.n b h1 h2
/-- what a comprehension has made behind so many items -/
def made {α : Type} (p : α → Bool) (f : α → D) (l : List α) : List D := (l.filter p).map f
theorem made_snoc {α : Type} (p : α → Bool) (f : α → D) (l : List α) (x : α) : made p f (l ++ [x]) = if p x then made p f l ++ [f x] else made p f l := by
  unfold made
  rw [List.filter_append, List.map_append]
  cases h : p x with
  | true => rw [List.filter_cons, if_pos h] <;> rfl
  | false =>
    rw [List.filter_cons, if_neg (by rw [h]; decide)]
    show _ ++ [] = _
    rw [List.append_nil] <;> rfl
theorem made_len {α : Type} (p : α → Bool) (f : α → D) (l : List α) : (made p f l).length ≤ l.length := by
  unfold made
  rw [List.length_map]
  exact List.length_filter_le _ _
theorem take_more {α : Type} {l : List α} {i : Nat} {x : α} (h : l[i]? = some x) : l.take (i + 1) = l.take i ++ [x] := by
  rw [List.take_add_one, h]; rfl
/-- over a tuple or a list of data -/
theorem d_lcT {tl : TE} {j : Nat} {vs : List Nat} {as : List D} (p : D → Bool) (f : D → D) (h : EvD tl σ G (.tuple as)) (hz : as.length ≤ 1000000) (hw : ∀ x, wipe ((wipe σ vs).set j (some x)) vs = wipe σ vs)
    (ht : ∀ v a G1, Ex G G1 → a ∈ as → Dq G1 v a → EvB t ((wipe σ vs).set j (some v)) G1 (p a)) (he : ∀ v a G1, Ex G G1 → a ∈ as → Dq G1 v a → p a = true → EvD te ((wipe σ vs).set j (some v)) G1 (f a)) :
    EvD (tLc (iTup K tl) (gName j) t te vs) σ G (.list (made p f as)) := fun G1 H1 x w Q q => h G1 H1 x w _ fun v G2 H2 s hv => by
  cases hv with
  | @tup a xs _ ha hxs =>
    refine ⟨a, rfl, ⟨xs, SqT.of (s.w _ _ ha)⟩, fun Dl hD => ?_⟩
    refine lc_tup (xs := xs) (fun i H => Mk2 G2 H2 Dl (made p f (as.take i)) H) (Mk2.start s.w hD) (fun i H _ m => ?_) (fun i v H hi m => ⟨hw v, ?_⟩) (fun H m => ?_)
    · obtain ⟨G3, _, s3, _⟩ := m
      exact SqT.of (s3.w _ _ (s3.g _ _ ha))
    · obtain ⟨dv, hdv, hq⟩ := hxs.get hi
      have hl : i < as.length := (List.getElem?_eq_some_iff.mp hdv).1
      refine Mk2.turn (b := p dv) (d := f dv) hD m ?_ (fun G3 e1 _ => (ht v dv G3 ((x.trans s.g).trans e1) (List.mem_of_getElem? hdv) (hq.mono e1))) (fun G3 e1 _ hp => (he v dv G3 ((x.trans s.g).trans e1) (List.mem_of_getElem? hdv) (hq.mono e1) hp)) fun H3 m3 => ?_
      · have h1 := made_len p f (as.take i)
        rw [List.length_take] at h1
        rw [sizeLine_eq]; omega
      · rw [take_more hdv, made_snoc]; exact m3
    · rw [hxs.len, List.take_length] at m
      obtain ⟨G3, s3, h3⟩ := m.done hD
      exact q _ G3 H (s.trans s3) h3
theorem d_lcL {tl : TE} {j : Nat} {vs : List Nat} {as : List D} (p : D → Bool) (f : D → D) (h : EvD tl σ G (.list as)) (hz : as.length ≤ 1000000) (hw : ∀ x, wipe ((wipe σ vs).set j (some x)) vs = wipe σ vs)
    (ht : ∀ v a G1, Ex G G1 → a ∈ as → Dq G1 v a → EvB t ((wipe σ vs).set j (some v)) G1 (p a)) (he : ∀ v a G1, Ex G G1 → a ∈ as → Dq G1 v a → p a = true → EvD te ((wipe σ vs).set j (some v)) G1 (f a)) :
    EvD (tLc (iList K tl) (gName j) t te vs) σ G (.list (made p f as)) := fun G1 H1 x w Q q => h G1 H1 x w _ fun v G2 H2 s hv => by
  cases hv with
  | @lst a xs _ ha hxs =>
    refine ⟨a, rfl, ⟨xs, SqL.of (s.w _ _ ha)⟩, fun Dl hD => ?_⟩
    refine lc_list (xs := xs) (fun i H => Mk2 G2 H2 Dl (made p f (as.take i)) H) (Mk2.start s.w hD) (fun i H _ m => ?_) (fun i v H hi m => ⟨hw v, ?_⟩) (fun H m => ?_)
    · obtain ⟨G3, _, s3, _⟩ := m
      exact SqL.of (s3.w _ _ (s3.g _ _ ha))
    · obtain ⟨dv, hdv, hq⟩ := hxs.get hi
      have hl : i < as.length := (List.getElem?_eq_some_iff.mp hdv).1
      refine Mk2.turn (b := p dv) (d := f dv) hD m ?_ (fun G3 e1 _ => (ht v dv G3 ((x.trans s.g).trans e1) (List.mem_of_getElem? hdv) (hq.mono e1))) (fun G3 e1 _ hp => (he v dv G3 ((x.trans s.g).trans e1) (List.mem_of_getElem? hdv) (hq.mono e1) hp)) fun H3 m3 => ?_
      · have h1 := made_len p f (as.take i)
        rw [List.length_take] at h1
        rw [sizeLine_eq]; omega
      · rw [take_more hdv, made_snoc]; exact m3
    · rw [hxs.len, List.take_length] at m
      obtain ⟨G3, s3, h3⟩ := m.done hD
      exact q _ G3 H (s.trans s3) h3
/-- over range(n) -/
theorem d_lcR {ta : TA} {j : Nat} {vs : List Nat} {n : Nat} (p : Nat → Bool) (f : Nat → D) (h : EvS ta σ G [.int (n : Int)]) (hz : n ≤ 1000000) (hw : ∀ x, wipe ((wipe σ vs).set j (some x)) vs = wipe σ vs)
    (ht : ∀ (i : Nat) G1, Ex G G1 → i < n → EvB t ((wipe σ vs).set j (some (.int (i : Int)))) G1 (p i)) (he : ∀ (i : Nat) G1, Ex G G1 → i < n → p i = true → EvD te ((wipe σ vs).set j (some (.int (i : Int)))) G1 (f i)) :
    EvD (tLc (iRng1 ta) (gName j) t te vs) σ G (.list (made p f (List.range n))) := fun G1 H1 x w Q q => h G1 H1 x w _ fun us G2 H2 s hv => by
  cases hv with
  | cons hv hn =>
    cases hn
    cases hv
    refine ⟨(n : Int), rfl, by omega, by omega, fun Dl hD => ?_⟩
    have hn' : ((n : Int)).toNat = n := by omega
    rw [hn']
    refine lc_range (lo := 0) (n := n) (fun i H => Mk2 G2 H2 Dl (made p f ((List.range n).take i)) H) (Mk2.start s.w hD) (fun i H hi m => ?_) (fun H m => ?_)
    · have e0 : (0 : Int) + (i : Int) = (i : Int) := Int.zero_add _
      show wipe ((wipe σ vs).set j (some (.int ((0 : Int) + (i : Int))))) vs = wipe σ vs ∧ _
      refine ⟨hw _, ?_⟩
      rw [e0]
      have hdv : (List.range n)[i]? = some i := by rw [List.getElem?_range hi]
      refine Mk2.turn (b := p i) (d := f i) hD m ?_ (fun G3 e1 _ => (ht i G3 ((x.trans s.g).trans e1) hi)) (fun G3 e1 _ hp => (he i G3 ((x.trans s.g).trans e1) hi hp)) fun H3 m3 => ?_
      · have h1 := made_len p f ((List.range n).take i)
        rw [List.length_take, List.length_range] at h1
        rw [sizeLine_eq]; omega
      · rw [take_more hdv, made_snoc]; exact m3
    · have e : (List.range n).take n = List.range n := List.take_of_length_le (by rw [List.length_range]; exact Nat.le_refl _)
      rw [e] at m
      obtain ⟨G3, s3, h3⟩ := m.done hD
      exact q _ G3 H (s.trans s3) h3
end
end Mv

namespace Mv
open PySem L2 Evl

/-! ### built-ins' names that the program leaves alone -/
structure Zs (mg : Str → Option Value) : Prop where
  len : mg "len" = none
  zip : mg "zip" = none
  tuple : mg "tuple" = none
  list : mg "list" = none
  range : mg "range" = none
  all : mg "all" = none
  int : mg "int" = none
  bool : mg "bool" = none
  isinstance : mg "isinstance" = none
  abs : mg "abs" = none
  min : mg "min" = none
  repr : mg "repr" = none
/-- a def that can be called by its name, with its promise -/
structure Cal (P : Program) (w : World) (K : PySem.W.Frag) (mg : Str → Option Value) (base : Heap) (CX : CXT) (k : Nat) (x : Str) (ps : List Str) (sp : Sp) : Prop where
  ex : ∃ (f : Addr) (fd : FuncData), FnOk P w K mg base CX k f fd ps sp ∧ mg x = some (.ref f) ∧ PySem.W.keepIn K (.ref f) = true ∧ Binds K fd ps []
theorem pe_cal {X : Cx} {CX : CXT} {k : Nat} {x : Str} {ps : List Str} {sp : Sp} {E : XK} {p pos : Pos} {e : Expr} {es : List Expr} {t : TA} (C : Cal X.prog X.w X.K X.mg X.base CX k x ps sp) (hr : Room k X.A) (hx : Passes CX X E) (ha : PA X (e :: es) t)
    (hg : Gl X x := by rfl) (hs : starEach (e :: es) X.env = (false, eval e X.env) :: starEach es X.env := by rfl) (hpl : (backTo pos (starEach es X.env)).any (·.1) = false := by rfl) (hdb : (x == ("__debug__" : Str)) = false := by decide) :
    PE X (.Call (.Name x p) (e :: es) [] pos) (tCall sp [] E t) := by
  obtain ⟨f, fd, F, hm, hk, hb⟩ := C.ex
  exact pe_call F hr hg hm hk hb .nil hx ha hdb hs hpl

/-! ### promises over data -/
/-- from data to the data that R tells -/
def SpR (R : List D → D → Prop) : Sp := fun vs H Q _ => ∃ G ds z, Ex G H ∧ DqA G vs ds ∧ R ds z ∧ ∀ v G2 H2, Stp G H G2 H2 → Dq G2 v z → Q v H2
/-- the same, or an error of the class at C -/
def SpE (R : List D → Except Addr D → Prop) : Sp := fun vs H Q E => ∃ G ds r, Ex G H ∧ DqA G vs ds ∧ R ds r ∧ (∀ z, r = .ok z → ∀ v G2 H2, Stp G H G2 H2 → Dq G2 v z → Q v H2) ∧ (∀ C, r = .error C → ∀ G2 H2, Stp G H G2 H2 → E (.ref C) none H2)
section
variable {K : PySem.W.Frag} {σ : L2.St} {G G' H H' : Hp} {ta tb te tx : TE} {t u : TT} {d e z : D} {ds es : List D} {D' : Ends} {tu tz : TS}
theorem d_cal {R : List D → D → Prop} {E : XK} {tr : TA} (h : EvS tr σ G ds) (hp : R ds z) : EvD (tCall (SpR R) [] E tr) σ G z := fun G1 H1 x w Q q =>
  h G1 H1 x w _ fun vs G2 H2 s hvs => by
    rw [List.append_nil]
    exact ⟨G2, ds, z, s.w, hvs, hp, fun v G3 H3 s3 hv => q v G3 H3 (s.trans s3) hv⟩
theorem d_calE {R : List D → Except Addr D → Prop} {E : XK} {tr : TA} (h : EvS tr σ G ds) (hp : R ds (.ok z)) : EvD (tCall (SpE R) [] E tr) σ G z := fun G1 H1 x w Q q =>
  h G1 H1 x w _ fun vs G2 H2 s hvs => by
    rw [List.append_nil]
    exact ⟨G2, ds, _, s.w, hvs, hp, fun z hz v G3 H3 s3 hv => by cases hz; exact q v G3 H3 (s.trans s3) hv, fun C hC => nomatch hC⟩

/-! ### statements -/
theorem s_asg {i : Nat} (h : EvD te σ G d) (w : Ex G H) (k : ∀ v G1 H1, Stp G H G1 H1 → Dq G1 v d → D'.nx (σ.set i (some v)) H1) : tAsg te (gName i) D' σ H := h G H (.refl G) w _ fun v G1 H1 s hv => k v G1 H1 s hv
theorem q_asg {i : Nat} (h : EvD te σ G d) (w : Ex G H) (k : ∀ v G1 H1, Stp G H G1 H1 → Dq G1 v d → tz D' (σ.set i (some v)) H1) : tSeq (tAsg te (gName i)) tz D' σ H := s_asg (D' := { D' with nx := tz D' }) h w k
theorem s_ret (h : EvD te σ G d) (w : Ex G H) (k : ∀ v G1 H1, Stp G H G1 H1 → Dq G1 v d → D'.rt v H1) : tRet te D' σ H := h G H (.refl G) w _ k
theorem s_if {b : Bool} (h : EvB t σ G b) (w : Ex G H) (h1 : b = true → ∀ G1 H1, Stp G H G1 H1 → tu D' σ H1) (h2 : b = false → ∀ G1 H1, Stp G H G1 H1 → tz D' σ H1) : tIfS t tu tz D' σ H := h G H (.refl G) w _ fun G1 H1 s => by
  cases b with
  | true => exact iteT (h1 rfl G1 H1 s)
  | false => exact iteF (h2 rfl G1 H1 s)
theorem q_if {b : Bool} {tv : TS} (h : EvB t σ G b) (w : Ex G H) (h1 : b = true → ∀ G1 H1, Stp G H G1 H1 → tu { D' with nx := tv D' } σ H1) (h2 : b = false → ∀ G1 H1, Stp G H G1 H1 → tz { D' with nx := tv D' } σ H1) : tSeq (tIfS t tu tz) tv D' σ H := s_if (D' := { D' with nx := tv D' }) h w h1 h2
/-- if c: .. (and no else), then the rest -/
theorem q_when {b : Bool} {tv : TS} (h : EvB t σ G b) (w : Ex G H) (h1 : b = true → ∀ G1 H1, Stp G H G1 H1 → tu { D' with nx := tv D' } σ H1) (h2 : b = false → ∀ G1 H1, Stp G H G1 H1 → tv D' σ H1) : tSeq (tIfS t tu tNext) tv D' σ H := q_if h w h1 h2
theorem s_when {b : Bool} (h : EvB t σ G b) (w : Ex G H) (h1 : b = true → ∀ G1 H1, Stp G H G1 H1 → tu D' σ H1) (h2 : b = false → ∀ G1 H1, Stp G H G1 H1 → D'.nx σ H1) : tIfS t tu tNext D' σ H := s_if h w h1 h2
/-- a loop's word: what P says of the slots and of what is known, some steps behind the start -/
def Nw (G H : Hp) (Pv : Nat → L2.St → Hp → Prop) (i : Nat) : L2.St → Hp → Prop := fun σ' H' => ∃ G', Stp G H G' H' ∧ Pv i σ' G'
theorem s_forT {g : TG} {tl : TE} {as : List D} (h : EvD tl σ G (.tuple as)) (w : Ex G H) (Pv : Nat → L2.St → Hp → Prop) (h0 : ∀ G1 H1, Stp G H G1 H1 → Pv 0 σ G1)
    (hs : ∀ G1 H1, Stp G H G1 H1 → ∀ (i : Nat) v a σ' G2 H2, as[i]? = some a → Stp G1 H1 G2 H2 → Pv i σ' G2 → Dq G2 v a → g v σ' H2 fun σ2 H3 => tu { D' with nx := Nw G1 H1 Pv (i + 1), ct := Nw G1 H1 Pv (i + 1), bk := D'.nx } σ2 H3)
    (hd : ∀ σ' G2 H2, Stp G H G2 H2 → Pv as.length σ' G2 → D'.nx σ' H2) : tFor (iTup K tl) g tu D' σ H := h G H (.refl G) w _ fun v G1 H1 s hv => by
  cases hv with
  | @tup a xs _ ha hxs =>
    refine ⟨a, rfl, ⟨xs, SqT.of (s.w _ _ ha)⟩, for_tup (xs := xs) (fun i σ' H' => Nw G1 H1 Pv i σ' H') ⟨G1, .refl s.w, h0 G1 H1 s⟩ (fun i σ' H' _ ⟨G', s', _⟩ => SqT.of (s'.w _ _ (s'.g _ _ ha))) ?_ ?_⟩
    · rintro i v σ' H' hi ⟨G', s', p⟩
      obtain ⟨dv, hdv, hq⟩ := hxs.get hi
      exact hs G1 H1 s i v dv σ' G' H' hdv s' p (hq.mono s'.g)
    · rintro σ' H' ⟨G', s', p⟩
      rw [hxs.len] at p
      exact hd σ' G' H' (s.trans s') p
theorem s_forL {g : TG} {tl : TE} {as : List D} (h : EvD tl σ G (.list as)) (w : Ex G H) (Pv : Nat → L2.St → Hp → Prop) (h0 : ∀ G1 H1, Stp G H G1 H1 → Pv 0 σ G1)
    (hs : ∀ G1 H1, Stp G H G1 H1 → ∀ (i : Nat) v a σ' G2 H2, as[i]? = some a → Stp G1 H1 G2 H2 → Pv i σ' G2 → Dq G2 v a → g v σ' H2 fun σ2 H3 => tu { D' with nx := Nw G1 H1 Pv (i + 1), ct := Nw G1 H1 Pv (i + 1), bk := D'.nx } σ2 H3)
    (hd : ∀ σ' G2 H2, Stp G H G2 H2 → Pv as.length σ' G2 → D'.nx σ' H2) : tFor (iList K tl) g tu D' σ H := h G H (.refl G) w _ fun v G1 H1 s hv => by
  cases hv with
  | @lst a xs _ ha hxs =>
    refine ⟨a, rfl, ⟨xs, SqL.of (s.w _ _ ha)⟩, for_list (xs := xs) (fun i σ' H' => Nw G1 H1 Pv i σ' H') ⟨G1, .refl s.w, h0 G1 H1 s⟩ (fun i σ' H' _ ⟨G', s', _⟩ => SqL.of (s'.w _ _ (s'.g _ _ ha))) ?_ ?_⟩
    · rintro i v σ' H' hi ⟨G', s', p⟩
      obtain ⟨dv, hdv, hq⟩ := hxs.get hi
      exact hs G1 H1 s i v dv σ' G' H' hdv s' p (hq.mono s'.g)
    · rintro σ' H' ⟨G', s', p⟩
      rw [hxs.len] at p
      exact hd σ' G' H' (s.trans s') p
theorem s_forR {ta : TA} {j : Nat} {n : Nat} (h : EvS ta σ G [.int (n : Int)]) (hz : n ≤ 1000000) (w : Ex G H) (Pv : Nat → L2.St → Hp → Prop) (h0 : ∀ G1 H1, Stp G H G1 H1 → Pv 0 σ G1)
    (hs : ∀ G1 H1, Stp G H G1 H1 → ∀ (i : Nat) σ' G2 H2, i < n → Stp G1 H1 G2 H2 → Pv i σ' G2 → tu { D' with nx := Nw G1 H1 Pv (i + 1), ct := Nw G1 H1 Pv (i + 1), bk := D'.nx } (σ'.set j (some (.int (i : Int)))) H2)
    (hd : ∀ σ' G2 H2, Stp G H G2 H2 → Pv n σ' G2 → D'.nx σ' H2) : tFor (iRng1 ta) (gName j) tu D' σ H := h G H (.refl G) w _ fun us G1 H1 s hv => by
  cases hv with
  | cons hv hn =>
    cases hn
    cases hv
    refine ⟨(n : Int), rfl, by omega, by omega, ?_⟩
    have hn' : ((n : Int)).toNat = n := by omega
    rw [hn']
    refine for_range (lo := 0) (n := n) (fun i σ' H' => Nw G1 H1 Pv i σ' H') ⟨G1, .refl s.w, h0 G1 H1 s⟩ ?_ ?_
    · rintro i σ' H' hi ⟨G', s', p⟩
      have e0 : ((0 : Int) + (i : Int) = (i : Int)) := Int.zero_add _
      show tu { D' with nx := Nw G1 H1 Pv (i + 1), ct := Nw G1 H1 Pv (i + 1), bk := D'.nx } (σ'.set j (some (.int ((0 : Int) + (i : Int))))) H'
      rw [e0]
      exact hs G1 H1 s i σ' G' H' hi s' p
    · rintro σ' H' ⟨G', s', p⟩
      exact hd σ' G' H' (s.trans s') p
/-- zip of three: the items, one by one -/
def zip3 : List D → List D → List D → List (D × D × D)
  | a :: as, b :: bs, c :: cs => (a, b, c) :: zip3 as bs cs
  | _, _, _ => []
theorem zip3_get : ∀ {as bs cs : List D} {i : Nat} {a b c : D}, as[i]? = some a → bs[i]? = some b → cs[i]? = some c → (zip3 as bs cs)[i]? = some (a, b, c)
  | a :: as, b :: bs, c :: cs, 0, _, _, _, h1, h2, h3 => by simp at h1 h2 h3; subst h1 h2 h3; rfl
  | a :: as, b :: bs, c :: cs, i + 1, _, _, _, h1, h2, h3 => by
    simp only [List.getElem?_cons_succ] at h1 h2 h3
    show (zip3 as bs cs)[i]? = _
    exact zip3_get h1 h2 h3
  | [], _, _, _, _, _, _, h, _, _ => by simp at h
  | _ :: _, [], _, _, _, _, _, _, h, _ => by simp at h
  | _ :: _, _ :: _, [], _, _, _, _, _, _, h => by simp at h
theorem zip3_len : ∀ (as bs cs : List D), (zip3 as bs cs).length = min as.length (min bs.length cs.length)
  | a :: as, b :: bs, c :: cs => by
    show (zip3 as bs cs).length + 1 = _
    rw [zip3_len as bs cs]
    simp only [List.length_cons]
    omega
  | [], _, _ => by simp [zip3]
  | _ :: _, [], _ => by simp [zip3]
  | _ :: _, _ :: _, [] => by simp [zip3]
/-- a list or a tuple -/
def sq (k : Bool) (as : List D) : D := if k then .list as else .tuple as
theorem sq_at {k : Bool} {as : List D} {v : V} {G : Hp} (h : Dq G v (sq k as)) : ∃ a xs, v = .ref a ∧ DqA G xs as ∧ ∀ H, Ex G H → SqK K k H a xs := by
  cases k with
  | true =>
    have h : Dq G v (.list as) := h
    cases h with
    | lst ha hx => exact ⟨_, _, rfl, hx, fun H e => SqL.of (e _ _ ha)⟩
  | false =>
    have h : Dq G v (.tuple as) := h
    cases h with
    | tup ha hx => exact ⟨_, _, rfl, hx, fun H e => SqT.of (e _ _ ha)⟩
/-- a tuple of three names -/
abbrev gT3 (K : PySem.W.Frag) (i j k : Nat) : TG := gTup K 3 (gCons (gName i) (gCons (gName j) (gCons (gName k) gNil)))
abbrev gT2 (K : PySem.W.Frag) (i j : Nat) : TG := gTup K 2 (gCons (gName i) (gCons (gName j) gNil))
theorem d_lcZ3 {ta : TA} {i j k : Nat} {vs : List Nat} {k1 k2 k3 : Bool} {as bs cs : List D} (p : D × D × D → Bool) (f : D × D × D → D) (h : EvS ta σ G [sq k1 as, sq k2 bs, sq k3 cs]) (hz : as.length ≤ 1000000)
    (hl : as.length = bs.length ∧ bs.length = cs.length) (hw : ∀ x y z, wipe ((((wipe σ vs).set i (some x)).set j (some y)).set k (some z)) vs = wipe σ vs)
    (ht : ∀ x y z a b c G1, Ex G G1 → (a, b, c) ∈ zip3 as bs cs → Dq G1 x a → Dq G1 y b → Dq G1 z c → EvB t ((((wipe σ vs).set i (some x)).set j (some y)).set k (some z)) G1 (p (a, b, c)))
    (he : ∀ x y z a b c G1, Ex G G1 → (a, b, c) ∈ zip3 as bs cs → Dq G1 x a → Dq G1 y b → Dq G1 z c → p (a, b, c) = true → EvD te ((((wipe σ vs).set i (some x)).set j (some y)).set k (some z)) G1 (f (a, b, c))) :
    EvD (tLc (iZip3 K k1 k2 k3 ta) (gT3 K i j k) t te vs) σ G (.list (made p f (zip3 as bs cs))) := fun G1 H1 x w Q q => h G1 H1 x w _ fun us G2 H2 s hv => by
  cases hv with
  | cons hv hn =>
    cases hn with
    | cons hv2 hn =>
      cases hn with
      | cons hv3 hn =>
        cases hn
        obtain ⟨a, xs, rfl, hxs, qa⟩ := sq_at (K := K) hv
        obtain ⟨b, ys, rfl, hys, qb⟩ := sq_at (K := K) hv2
        obtain ⟨c, zs, rfl, hzs, qc⟩ := sq_at (K := K) hv3
        refine ⟨a, b, c, xs, ys, zs, rfl, qa _ s.w, qb _ s.w, qc _ s.w, fun Dl hD => ?_⟩
        have lz : (zip3 as bs cs).length = as.length := by rw [zip3_len]; omega
        have l1 := hxs.len
        have l2 := hys.len
        have l3 := hzs.len
        refine ⟨fun i m H => m = as.length - i ∧ i ≤ as.length ∧ Mk2 G2 H2 Dl (made p f ((zip3 as bs cs).take i)) H, ⟨as.length, rfl, Nat.zero_le _, Mk2.start s.w hD⟩, ?_⟩
        rintro n m H ⟨rfl, hn, mk⟩
        obtain ⟨G3, vs3, s3, g3, hvs3, hH3⟩ := id mk
        have qa' := qa H (s3.g.trans s3.w)
        have qb' := qb H (s3.g.trans s3.w)
        have qc' := qc H (s3.g.trans s3.w)
        by_cases hlt : n < as.length
        · have ex : xs[n]? = some (xs[n]'(by omega)) := List.getElem?_eq_getElem _
          have ey : ys[n]? = some (ys[n]'(by omega)) := List.getElem?_eq_getElem _
          have ez : zs[n]? = some (zs[n]'(by omega)) := List.getElem?_eq_getElem _
          refine .inr ⟨⟨xs, ys, zs, _, _, _, qa', qb', qc', ex, ey, ez⟩, fun H' => Mk2 G2 H2 Dl (made p f ((zip3 as bs cs).take (n + 1))) H', fun H' m' => ⟨as.length - (n + 1), by omega, rfl, hlt, m'⟩, ?_⟩
          rintro v H' ⟨T, x', y', z', rfl, hT, rfl, f1, f2, f3⟩
          obtain ⟨dx, hdx, qx⟩ := hxs.get (f1 xs qa')
          obtain ⟨dy, hdy, qy⟩ := hys.get (f2 ys qb')
          obtain ⟨dz, hdz, qz⟩ := hzs.get (f3 zs qc')
          have hz3 := zip3_get hdx hdy hdz
          refine ⟨T, [x', y', z'], rfl, SqT.of upd_same, rfl, x', _, rfl, y', _, rfl, z', _, rfl, rfl, hw _ _ _, ?_⟩
          have hTD : T ≠ Dl := fun e => by rw [e, hH3] at hT; cases hT
          have mk' : Mk2 G2 H2 Dl (made p f ((zip3 as bs cs).take n)) (upd H T (.tup [x', y', z'])) :=
            ⟨G3, vs3, s3.trans (.old s3.w (.new hT)), g3, hvs3, by rw [upd_ne hTD.symm]; exact hH3⟩
          refine Mk2.turn (b := p (dx, dy, dz)) (d := f (dx, dy, dz)) hD mk' ?_ (fun G4 e1 _ => ht _ _ _ _ _ _ G4 ((x.trans s.g).trans e1) (List.mem_of_getElem? hz3) (qx.mono e1) (qy.mono e1) (qz.mono e1))
            (fun G4 e1 _ hp => he _ _ _ _ _ _ G4 ((x.trans s.g).trans e1) (List.mem_of_getElem? hz3) (qx.mono e1) (qy.mono e1) (qz.mono e1) hp) fun H3 m3 => ?_
          · have h1 := made_len p f ((zip3 as bs cs).take n)
            rw [List.length_take] at h1
            rw [sizeLine_eq]; omega
          · rw [take_more hz3, made_snoc]; exact m3
        · have e : n = as.length := by omega
          subst e
          refine .inl ⟨⟨xs, ys, zs, qa', qb', qc', by omega, by omega, by omega, by omega⟩, ?_⟩
          rw [← lz, List.take_length] at mk
          obtain ⟨G4, s4, h4⟩ := mk.done hD
          exact q _ G4 H (s.trans s4) h4
/-- zip of two -/
theorem d_lcZ2 {ta : TA} {i j : Nat} {vs : List Nat} {k1 k2 : Bool} {as bs : List D} (p : D × D → Bool) (f : D × D → D) (h : EvS ta σ G [sq k1 as, sq k2 bs]) (hz : as.length ≤ 1000000)
    (hl : as.length = bs.length) (hw : ∀ x y, wipe (((wipe σ vs).set i (some x)).set j (some y)) vs = wipe σ vs)
    (ht : ∀ x y a b G1, Ex G G1 → (a, b) ∈ as.zip bs → Dq G1 x a → Dq G1 y b → EvB t (((wipe σ vs).set i (some x)).set j (some y)) G1 (p (a, b)))
    (he : ∀ x y a b G1, Ex G G1 → (a, b) ∈ as.zip bs → Dq G1 x a → Dq G1 y b → p (a, b) = true → EvD te (((wipe σ vs).set i (some x)).set j (some y)) G1 (f (a, b))) :
    EvD (tLc (iZip2 K k1 k2 ta) (gT2 K i j) t te vs) σ G (.list (made p f (as.zip bs))) := fun G1 H1 x w Q q => h G1 H1 x w _ fun us G2 H2 s hv => by
  cases hv with
  | cons hv hn =>
    cases hn with
    | cons hv2 hn =>
      cases hn
      obtain ⟨a, xs, rfl, hxs, qa⟩ := sq_at (K := K) hv
      obtain ⟨b, ys, rfl, hys, qb⟩ := sq_at (K := K) hv2
      refine ⟨a, b, xs, ys, rfl, qa _ s.w, qb _ s.w, fun Dl hD => ?_⟩
      have lz : (as.zip bs).length = as.length := by rw [List.length_zip]; omega
      have l1 := hxs.len
      have l2 := hys.len
      refine ⟨fun i m H => m = as.length - i ∧ i ≤ as.length ∧ Mk2 G2 H2 Dl (made p f ((as.zip bs).take i)) H, ⟨as.length, rfl, Nat.zero_le _, Mk2.start s.w hD⟩, ?_⟩
      rintro n m H ⟨rfl, hn, mk⟩
      obtain ⟨G3, vs3, s3, g3, hvs3, hH3⟩ := id mk
      have qa' := qa H (s3.g.trans s3.w)
      have qb' := qb H (s3.g.trans s3.w)
      by_cases hlt : n < as.length
      · have ex : xs[n]? = some (xs[n]'(by omega)) := List.getElem?_eq_getElem _
        have ey : ys[n]? = some (ys[n]'(by omega)) := List.getElem?_eq_getElem _
        refine .inr ⟨⟨xs, ys, _, _, qa', qb', ex, ey⟩, fun H' => Mk2 G2 H2 Dl (made p f ((as.zip bs).take (n + 1))) H', fun H' m' => ⟨as.length - (n + 1), by omega, rfl, hlt, m'⟩, ?_⟩
        rintro v H' ⟨T, x', y', rfl, hT, rfl, f1, f2⟩
        obtain ⟨dx, hdx, qx⟩ := hxs.get (f1 xs qa')
        obtain ⟨dy, hdy, qy⟩ := hys.get (f2 ys qb')
        have hz3 : (as.zip bs)[n]? = some (dx, dy) := List.getElem?_zip_eq_some.mpr ⟨hdx, hdy⟩
        refine ⟨T, [x', y'], rfl, SqT.of upd_same, rfl, x', _, rfl, y', _, rfl, rfl, hw _ _, ?_⟩
        have hTD : T ≠ Dl := fun e => by rw [e, hH3] at hT; cases hT
        have mk' : Mk2 G2 H2 Dl (made p f ((as.zip bs).take n)) (upd H T (.tup [x', y'])) :=
          ⟨G3, vs3, s3.trans (.old s3.w (.new hT)), g3, hvs3, by rw [upd_ne hTD.symm]; exact hH3⟩
        refine Mk2.turn (b := p (dx, dy)) (d := f (dx, dy)) hD mk' ?_ (fun G4 e1 _ => ht _ _ _ _ G4 ((x.trans s.g).trans e1) (List.mem_of_getElem? hz3) (qx.mono e1) (qy.mono e1))
          (fun G4 e1 _ hp => he _ _ _ _ G4 ((x.trans s.g).trans e1) (List.mem_of_getElem? hz3) (qx.mono e1) (qy.mono e1) hp) fun H3 m3 => ?_
        · have h1 := made_len p f ((as.zip bs).take n)
          rw [List.length_take] at h1
          rw [sizeLine_eq]; omega
        · rw [take_more hz3, made_snoc]; exact m3
      · have e : n = as.length := by omega
        subst e
        refine .inl ⟨⟨xs, ys, qa', qb', by omega, by omega, by omega⟩, ?_⟩
        rw [← lz, List.take_length] at mk
        obtain ⟨G4, s4, h4⟩ := mk.done hD
        exact q _ G4 H (s.trans s4) h4
end
end Mv

namespace Mv
open PySem L2 Evl
section
variable {K : PySem.W.Frag} {σ : L2.St} {G G' H H' : Hp} {ta tb te tx : TE} {t u : TT} {d e z : D} {ds es : List D} {D' : Ends} {tu tz : TS}
/-- [e for a in xs for i in range(n)] -/
theorem d_lc2LR {tl : TE} {ta : TA} {j j1 : Nat} {vs vs1 : List Nat} {as : List D} {n : Nat} (f : D → Nat → D) (h : EvD tl σ G (.list as)) (hn : n ≤ 1000) (hz : as.length ≤ 1000)
    (hr : ∀ v a G1, Ex G G1 → a ∈ as → Dq G1 v a → EvS ta ((wipe σ vs).set j (some v)) G1 [.int (n : Int)])
    (hw : ∀ x, wipe ((wipe σ vs).set j (some x)) vs = wipe σ vs) (hw1 : ∀ x y, wipe ((wipe ((wipe σ vs).set j (some x)) vs1).set j1 (some y)) vs1 = wipe ((wipe σ vs).set j (some x)) vs1)
    (he : ∀ v a (i : Nat) G1, Ex G G1 → a ∈ as → Dq G1 v a → i < n → EvD te ((wipe ((wipe σ vs).set j (some v)) vs1).set j1 (some (.int (i : Int)))) G1 (f a i)) :
    EvD (tLc2 (iList K tl) (gName j) tYes (iRng1 ta) (gName j1) tYes te vs vs1) σ G (.list (as.flatMap fun a => (List.range n).map (f a))) := fun G1 H1 x w Q q => h G1 H1 x w _ fun v G2 H2 s hv => by
  cases hv with
  | @lst a xs _ ha hxs =>
    have fl : ∀ l : List D, (l.flatMap fun a => (List.range n).map (f a)).length = l.length * n := fun l => by
      induction l with
      | nil => simp
      | cons b l ih => rw [List.flatMap_cons, List.length_append, ih, List.length_map, List.length_range, List.length_cons, Nat.succ_mul, Nat.add_comm]
    refine ⟨a, rfl, ⟨xs, SqL.of (s.w _ _ ha)⟩, fun Dl hD => ?_⟩
    refine ⟨fun i m H => m = xs.length - i ∧ i ≤ xs.length ∧ Mk2 G2 H2 Dl ((as.take i).flatMap fun a => (List.range n).map (f a)) H, ⟨xs.length, rfl, Nat.zero_le _, Mk2.start s.w hD⟩, ?_⟩
    rintro i m H ⟨rfl, hi, mk⟩
    obtain ⟨G3, vs3, s3, g3, hvs3, hH3⟩ := id mk
    have q3 : SqL K H a xs := SqL.of (s3.w _ _ (s3.g _ _ ha))
    have l1 := hxs.len
    by_cases hlt : i < xs.length
    · have ex : xs[i]? = some (xs[i]) := List.getElem?_eq_getElem _
      obtain ⟨dv, hdv, hqv⟩ := hxs.get ex
      have hmem := List.mem_of_getElem? hdv
      refine .inr ⟨⟨xs, _, q3, ex⟩, fun H' => Mk2 G2 H2 Dl ((as.take (i + 1)).flatMap fun a => (List.range n).map (f a)) H', fun H' m' => ⟨xs.length - (i + 1), by omega, rfl, hlt, m'⟩, ?_⟩
      rintro v H' ⟨rfl, yv⟩
      have ev : xs[i] = v := by
        have := yv xs q3
        rw [ex] at this
        exact Option.some.inj this
      subst ev
      refine ⟨hw _, ?_⟩
      simp only [tYes, ↓reduceIte]
      refine hr _ dv G3 ((x.trans s.g).trans s3.g) hmem (hqv.mono s3.g) G3 H' (.refl _) s3.w _ fun us G4 H4 s4 hus => ?_
      cases hus with
      | cons hus hun =>
        cases hun
        cases hus
        refine ⟨(n : Int), rfl, by omega, by omega, ?_⟩
        have hn' : ((n : Int)).toNat = n := by omega
        rw [hn']
        have mk4 : Mk2 G2 H2 Dl ((as.take i).flatMap fun a => (List.range n).map (f a)) H4 := ⟨G4, vs3, s3.trans s4, s4.n _ g3 (by rw [hH3]; intro z; cases z), hvs3.mono s4.g, s4.h _ _ hH3⟩
        refine ⟨fun k m H => m = n - k ∧ k ≤ n ∧ Mk2 G2 H2 Dl (((as.take i).flatMap fun a => (List.range n).map (f a)) ++ (List.range k).map (f dv)) H, ⟨n, rfl, Nat.zero_le _, by simpa using mk4⟩, ?_⟩
        rintro k m H5 ⟨rfl, hk, mk5⟩
        by_cases hkn : k < n
        · refine .inr ⟨hkn, fun H' => Mk2 G2 H2 Dl (((as.take i).flatMap fun a => (List.range n).map (f a)) ++ (List.range (k + 1)).map (f dv)) H', fun H' m' => ⟨n - (k + 1), by omega, rfl, hkn, m'⟩, ?_⟩
          rintro v H6 ⟨rfl, rfl⟩
          have e0 : (0 : Int) + (k : Int) = (k : Int) := Int.zero_add _
          rw [e0]
          refine ⟨hw1 _ _, ?_⟩
          refine Eq.mp (congrArg (fun p : Prop => p) (if_pos rfl)) (Mk2.turn (σ2 := List.set (wipe (List.set (wipe σ vs) j (some xs[i])) vs1) j1 (some (V.int (k : Int)))) (t := fun _ H Q => Q true H) (te := te) (b := true) (d := f dv k) hD mk5 ?_ (fun G5 _ _ => fun G1 H1 x w Q q => q G1 H1 (.refl w)) (fun G5 e1 _ _ => he _ dv k G5 ((x.trans s.g).trans e1) hmem (hqv.mono e1) hkn) fun H7 m7 => ?_)
          · rw [List.length_append, fl, List.length_map, List.length_range, sizeLine_eq]
            have : (as.take i).length * n ≤ 1000 * 1000 := Nat.mul_le_mul (by rw [List.length_take]; omega) hn
            omega
          · rw [if_pos rfl, List.append_assoc] at m7
            rw [List.range_succ, List.map_append]
            exact m7
        · have ek : k = n := by omega
          subst ek
          refine .inl ⟨Nat.le_refl _, ?_⟩
          rw [take_more hdv, List.flatMap_append]
          simpa using mk5
    · have e : (i = xs.length) := by omega
      subst e
      refine .inl ⟨⟨xs, q3, Nat.le_refl _⟩, ?_⟩
      rw [l1, List.take_length] at mk
      obtain ⟨G4, s4, h4⟩ := mk.done hD
      exact q _ G4 H (s.trans s4) h4
end

/-! ### tuple * int, any number from 1 on -/
section
variable {X : Cx}
theorem tuple_mul1 (l : Addr) (items : Array Value) (n : Nat) (dd : Option Addr) (sl : Array (Option Value)) (u : Tok) :
    Meets (Builtin.«tuple.__mul__» ⟨[.ref l, .int 1 u], []⟩) (fun _ R s => s.heap.get? l = some { cls := .type "tuple", dict := dd, data := .seq items n, slots := sl } ∧ R (.ok (.ret (Value.ref l))) s) :=
  .of_wp fun prog w A R s h => by
    obtain ⟨hp, g, d, tk, os⟩ := (s)
    obtain ⟨hl, h⟩ := h
    have f1 := AutoSeq1.idx_int
    wp_walk using wpAny_loadPart' hl
    exact ⟨_, rfl, h⟩
theorem int_rmul1 (a : Int) (t : Tok) (l : Addr) (items : Array Value) (n : Nat) (dd : Option Addr) (sl : Array (Option Value)) :
    Meets (Builtin.«int.__rmul__» ⟨[.int a t, .ref l], []⟩) (fun _ R s => s.heap.get? l = some { cls := .type "tuple", dict := dd, data := .seq items n, slots := sl } ∧ R (.ok (.ret Value.notImplemented)) s) := int_rmul_tuple a t l items n dd sl
def rRepA (K : PySem.W.Frag) : R2 := fun x y H Q => ∃ l k xs, x = .ref l ∧ y = .int k ∧ SqT K H l xs ∧ xs ≠ [] ∧ 1 ≤ k ∧ k ≤ 1000 ∧ xs.length ≤ 1000 ∧ (k = 1 → Q (.ref l) H) ∧ (2 ≤ k → ∀ p, H p = none → Q (.ref p) (upd H p (.tup (List.replicate k.toNat xs).flatten)))
theorem op_repA : OpR X (binaryOp .Mult) (rRepA X.K) := by
  intro pins; intro s σ H x y v u Q I rx ry h
  obtain ⟨l, k, xs, rfl, rfl, hT, hne, h1, h2, hz, q1, q2⟩ := h
  by_cases hk : k = 1
  · subst hk
    cases rx
    obtain ⟨t, rfl⟩ := ry
    obtain ⟨its, r, ⟨⟨cls, dd, data, sl⟩, ho, hc, n, hd⟩, hs⟩ := (I.tuple hT)
    simp only at hc hd
    subst hc hd
    refine wpAny_binaryOp_repeat_ref (T := "tuple") (U := "int") (by decide) ⟨_, ho, rfl⟩ (fun s' => typeIs_int s' 1 t) noFill_tuple_mul F.fills_int_mul F.slot_int_rmul repeat_tuple F.slot_int_index.lookup
      (call_meets F.slot_int_rmul (typeIs_int s 1 t) F.entry_int_rmul (F.args_int_rmul_2 _ _) (int_rmul1 1 t l its.toArray n dd sl)
        ⟨ho, rfl, ⟨_, ho, rfl⟩, call_meets F.slot_tuple_mul ⟨_, ho, rfl⟩ F.entry_tuple_mul (F.args_tuple_mul_2 _ _) (tuple_mul1 l its.toArray n dd sl t) ⟨ho, ?_⟩⟩)
    exact ⟨.ref l, H, I, rfl, q1 rfl⟩
  · exact op_repT pins s σ H _ _ v u Q I rx ry ⟨l, k, xs, rfl, rfl, hT, hne, by omega, h2, hz, q2 (by omega)⟩
end
section
variable {K : PySem.W.Frag} {G : Hp} {z : D}
theorem opd_rep {as : List D} {k : Nat} (hne : as ≠ []) (h1 : 1 ≤ k) (h2 : k ≤ 1000) (hz : as.length ≤ 1000) : OpD (rRepA K) G (.tuple as) (.int (k : Int)) (.tuple (List.replicate k as).flatten) := fun x y G1 H1 a b hx hy Q q => by
  cases hx with
  | @tup p xs _ hp hxs =>
    cases hy
    refine ⟨p, (k : Int), xs, rfl, rfl, SqT.of (b _ _ hp), fun e => hne (by subst e; cases hxs; rfl), by omega, by omega, by rw [hxs.len]; exact hz, fun e => ?_, fun _ l hl => ?_⟩
    · have e : k = 1 := by omega
      subst e
      rw [List.replicate_one, List.flatten_singleton] at q
      exact q _ G1 H1 (.refl b) (.tup hp hxs)
    · have s := Stp.new (o := .tup (List.replicate (k : Int).toNat xs).flatten) b hl
      have hk : ((k : Int)).toNat = k := by omega
      rw [hk] at s ⊢
      exact q _ _ _ s (.tup upd_same ((hxs.rep k).mono s.g))
end
end Mv

namespace Mv
open PySem PySem.Spec PyProof.Rows L2 Evl
/-! ### enumerate of a list or a tuple -/
theorem meets_enum1 {v : Value} {o : Obj} {Hp0 : Heap → Prop} (B : Begins v o Hp0) : Meets (Builtin.«enumerate.__new__» ⟨[.type "enumerate", v], []⟩)
    (fun _ R s => Hp0 s.heap ∧ R (.ok (.ret (.ref (s.heap.push o).objs.size))) { s with heap := (s.heap.push o).push { cls := .type "enumerate", data := .fields #[.none, .bool false, .ref s.heap.objs.size, rawInt 0, .none, .none] } }) :=
  .of_wp fun prog w A R s ⟨first, rest⟩ => by
    obtain ⟨hp, gens, drawn, tok, osw⟩ := s
    have isSub := sub_enumerate
    have walk1 : ∀ {A' : Around} {E : Value → Shared → Prop} {Q : Value → Shared → Prop}, Q (.ref hp.objs.size) ⟨hp.push o, gens, drawn, tok, osw⟩ → wpAny (model prog w) A' (pyIter v) Q E ⟨hp, gens, drawn, tok, osw⟩ := fun q => B.iter prog w _ _ ⟨hp, gens, drawn, tok, osw⟩ _ first q
    wp_walk using walk1
    refine wpAny_stack_any fun under => wpAny_pure ?_
    split
    · rename_i c _ _ _ _ _
      cases (c == Value.type "enumerate") <;> (wp_walk using walk1; exact ⟨_, rfl, rest⟩)
    · wp_walk using walk1
      exact ⟨_, rfl, rest⟩
theorem enum_begins1 {prog : Program} {w : World} {A : Around} {E : Value → Shared → Prop} {s : Shared} {v : Value} {o : Obj} {Hp0 : Heap → Prop} {Q : Value → Shared → Prop} (B : Begins v o Hp0) (h1 : Hp0 s.heap)
    (h : ∀ g, IsEnum g (s.heap.objs.size + 1) s.heap.objs.size 0 .none → g.get? s.heap.objs.size = some o → (∀ b u, s.heap.get? b = some u → g.get? b = some u) → Q (.ref (s.heap.objs.size + 1)) { s with heap := g }) :
    wpAny (model prog w) A (call (.type "enumerate") [v]) Q E s := by
  refine callType_new F.called_enumerate (by decide) (F.typeCall_enumerate_1 _) (F.newCall_enumerate_1 _) (fun obj => F.args_object_init_2 obj _) F.entry_enumerate_new (meets_enum1 B) ⟨h1, ?_⟩
  have grow : (s.heap.push o).objs.size = s.heap.objs.size + 1 := Heap.size_push ..
  have made_ : IsEnum ((s.heap.push o).push { cls := .type "enumerate", data := .fields #[.none, .bool false, .ref s.heap.objs.size, rawInt 0, .none, .none] }) (s.heap.objs.size + 1) s.heap.objs.size 0 .none := by
    have z := Heap.get?_push_size (s.heap.push o) (o := { cls := .type "enumerate", data := .fields #[.none, .bool false, .ref s.heap.objs.size, rawInt 0, .none, .none] }) rfl
    rw [grow] at z
    exact z
  show _ ∧ _
  rw [grow]
  exact ⟨⟨_, made_, rfl⟩, h _ made_ (Heap.get?_push_of_some _ (Heap.get?_push_size _ B.free)) fun b u x => Heap.get?_push_of_some _ (Heap.get?_push_of_some _ x)⟩
def ItE (K : PySem.W.Frag) (k : Bool) (a : Addr) : It :=
  ⟨fun i H => ∃ (xs : List V) (x : V), SqK K k H a xs ∧ xs[i]? = some x,
    fun i H v H' => ∃ T x, v = .ref T ∧ H T = none ∧ H' = upd H T (.tup [.int (i : Nat), x]) ∧ ∀ xs, SqK K k H a xs → xs[i]? = some x,
    fun i H => ∃ xs : List V, SqK K k H a xs ∧ i = xs.length⟩
theorem turn_enumk {P : Program} {w : World} {K : PySem.W.Frag} {elts : List Expr} {kk : Nat} {tpos : Pos} {k : Bool} {a e it : Addr} (ne1 : a ≠ it) (ne2 : e ≠ it) (ne3 : e ≠ a) :
    Turn P w K (.Tuple elts kk tpos) (ItE K k a) [e, it] e (fun i h => (∃ old, IsEnum h e it ((i : Nat) : Int) old) ∧ ItrK k h it a i) where
  mem := by simp
  obj := fun i h st b hb => by
    obtain ⟨⟨old, atE⟩, atIt⟩ := st
    rcases (by simpa using hb : b = e ∨ b = it) with z | z
    · rw [z]; exact ⟨_, atE, fun v q => nomatch q⟩
    · rw [z]; exact atIt.ob
  keep := fun i h h' ⟨⟨old, atE⟩, atIt⟩ k => ⟨⟨old, k e (by simp) _ atE⟩, atIt.at fun o q => k it (by simp) o q⟩
  item := by
    intro X e1 e2 e3 hc i pq s σ H E I hf stz hg
    subst e1 e2 e3
    obtain ⟨⟨old, atE⟩, atIt⟩ := stz
    obtain ⟨xs, x, sx, hx⟩ := hg
    obtain ⟨its, rv, p, _⟩ := seqK I sx
    obtain ⟨u, hu, ru⟩ := (rv.get hx)
    have quiet : X.A.in1.handled = none := I.ok.hd hc
    have ltE : e < s.heap.objs.size := Heap.lt_size atE
    have ltI : it < s.heap.objs.size := by obtain ⟨_, q, _⟩ := atIt.ob; exact Heap.lt_size q
    refine wpAny_pyNext_enum_itemD (drawsK k quiet it a ne1 its.toArray) atE ⟨atIt, p⟩ (by have := (List.getElem?_eq_some_iff.mp hu).1; simpa using this) ne2 (by simp [ne2, ne3]) fun y g tk hy out st1 hT sz keep => ?_
    have ey : y = u := by
      have z : its[i]? = some y := by simpa using hy
      rw [hu] at z
      exact (Option.some.inj z).symm
    subst ey
    refine ⟨_, rfl, wpAny_letOwnedTupleGo_enum (s := { s with heap := g, toks := tk + 1 }) out fun g2 atE2 sb => ?_⟩
    have hT2 : g2.get? s.heap.objs.size = some { cls := .type "tuple", data := .seq #[.int i tk, y] } := (sb.2 _ (Nat.ne_of_gt ltE)).trans hT
    have pair : ObjOk X.prog X.w (upd H s.heap.objs.size (.tup [.int (i : Nat), x])) g2 s.heap.objs.size (.tup [.int (i : Nat), x]) := ⟨by show 2 ≤ sizeLine; decide, [.int i tk, y], .cons ⟨_, rfl⟩ (.cons ru .nil), ⟨_, hT2, rfl, _, rfl⟩⟩
    have J : Inv X pq σ (upd H s.heap.objs.size (.tup [.int (i : Nat), x])) { s with heap := g2, toks := tk + 1 } :=
      I.turnedNew (t' := tk + 1) (ch := [e, it]) (fun b ob hb q => (sb.2 b (fun z => hb (by simp [z]))).trans (keep b ob (fun z => hb (by simp [z])) (fun z => hb (by simp [z])) q)) hf (Nat.le_refl _) pair
    refine ⟨.ref s.heap.objs.size, _, J, rfl, ⟨_, x, rfl, I.hok.fresh (Nat.le_refl _), rfl, fun ys hy => by rw [seqK_inj I hy sx]; exact hx⟩, ⟨⟨y, ?_⟩, st1.1.at fun o q => (sb.2 it (Ne.symm ne2)).trans q⟩, fun b hb => ?_⟩
    · have z : ((i + 1 : Nat) : Int) = (i : Int) + 1 := by omega
      rw [z]
      exact atE2
    · have lt : b < s.heap.objs.size := by
        rcases (by simpa using hb : b = e ∨ b = it) with z | z
        · rw [z]; exact ltE
        · rw [z]; exact ltI
      rw [upd_ne (Nat.ne_of_lt lt)]
      exact (hf b hb).1
  done := by
    intro X e1 e2 e3 hc i pq s σ H E I hf stz hg
    subst e1 e2 e3
    obtain ⟨⟨old, atE⟩, atIt⟩ := stz
    obtain ⟨xs, sx, rfl⟩ := hg
    obtain ⟨its, rv, p, _⟩ := seqK I sx
    have quiet : X.A.in1.handled = none := I.ok.hd hc
    obtain ⟨f0, f1, f2, f3, f4, f5⟩ := (hf it (by simp))
    have size_ : its.toArray.size = xs.length := by rw [List.size_toArray]; exact rv.length.symm
    exact wpAny_pyNext_enum_endD (drawsK k quiet it a ne1 its.toArray) atE (by rw [size_]; exact ⟨atIt, p⟩) fun g eb => ⟨rfl, I.turned (t' := s.toks) (fun b o hb q => eb b o hb q) f0 f1 f3 f4 f5⟩
  self := fun A i s Q E st h => let ⟨⟨_, atE⟩, _⟩ := st; wpAny_pyIter_enum atE h
def iEnumK (K : PySem.W.Frag) (k : Bool) (ta : TA) : TI := fun σ H Rq => ta σ H fun vs H1 => ∃ a xs, vs = [.ref a] ∧ SqK K k H1 a xs ∧ Rq (ItE K k a) H1
theorem pi_enumk (k : Bool) {X : Cx} {e : Expr} {ta : TA} {p pos tpos : Pos} {elts : List Expr} {kk : Nat} (hg : Gl X "enumerate") (hm : X.mg "enumerate" = none) (ha : PA X [e] ta) (one : starEach [e] X.env = [(false, eval e X.env)] := by rfl) :
    PI X (.Tuple elts kk tpos) (.Call (.Name "enumerate" p) [e] [] pos) (iEnumK X.K k ta) := by
  refine ⟨fun pq s σ H Rq I h => Call_ (ld_blt I hg hm boot_enumerate (PyProof.Rows.callWith_type1 (thn (ha.run pos pq s σ H _ I h) fun us sA ⟨vs, H1, IA, r1, a, xs, ex, sx, q⟩ => ?_) one rfl))⟩
  subst ex
  cases r1 with
  | cons r rr =>
    cases rr
    cases r
    obtain ⟨its, rv, p', _⟩ := seqK IA sx
    have la := p'.lt
    refine enum_begins1 (beginsK k a its.toArray) p' fun g made_ new_ keep => wpAny_pyIter_enum made_ ?_
    have IB : Inv X pq σ H1 { sA with heap := g } := IA.kept (t' := sA.toks) keep
    refine ⟨sA.heap.objs.size + 1, [sA.heap.objs.size + 1, sA.heap.objs.size], _, _, H1, rfl, IB, turn_enumk (Nat.ne_of_lt la) (Nat.succ_ne_self _) (Nat.ne_of_gt (Nat.lt_succ_of_lt la)), ⟨⟨.none, made_⟩, itrK_new new_⟩, fun b hb => ?_, q⟩
    have above : sA.heap.objs.size ≤ b := by
      rcases (by simpa using hb : b = sA.heap.objs.size + 1 ∨ b = sA.heap.objs.size) with z | z
      · rw [z]; exact (Nat.le_add_right _ _)
      · rw [z]; exact Nat.le_refl _
    exact IA.fpOk above (IA.hok.fresh above)
section
variable {K : PySem.W.Frag} {σ : L2.St} {G G' H H' : Hp} {ta tb te tx : TE} {t u : TT} {d e z : D} {ds es : List D} {D' : Ends} {tu tz : TS}
/-- [.. for i, x in enumerate(..)] -/
theorem d_lcE {ta : TA} {i j : Nat} {vs : List Nat} {k1 : Bool} {as : List D} (p : Nat × D → Bool) (f : Nat × D → D) (h : EvS ta σ G [sq k1 as]) (hz : as.length ≤ 1000000)
    (hw : ∀ x y, wipe (((wipe σ vs).set i (some x)).set j (some y)) vs = wipe σ vs)
    (ht : ∀ y (n : Nat) b G1, Ex G G1 → as[n]? = some b → Dq G1 y b → EvB t (((wipe σ vs).set i (some (.int (n : Int)))).set j (some y)) G1 (p (n, b)))
    (he : ∀ y (n : Nat) b G1, Ex G G1 → as[n]? = some b → Dq G1 y b → p (n, b) = true → EvD te (((wipe σ vs).set i (some (.int (n : Int)))).set j (some y)) G1 (f (n, b))) :
    EvD (tLc (iEnumK K k1 ta) (gT2 K i j) t te vs) σ G (.list (made p f ((List.range as.length).zip as))) := fun G1 H1 x w Q q => h G1 H1 x w _ fun us G2 H2 s hv => by
  cases hv with
  | cons hv hn =>
    cases hn
    obtain ⟨a, xs, rfl, hxs, qa⟩ := sq_at (K := K) hv
    refine ⟨a, xs, rfl, qa _ s.w, fun Dl hD => ?_⟩
    have lz : ((List.range as.length).zip as).length = as.length := by rw [List.length_zip, List.length_range]; omega
    have l1 := hxs.len
    refine ⟨fun n m H => m = as.length - n ∧ n ≤ as.length ∧ Mk2 G2 H2 Dl (made p f (((List.range as.length).zip as).take n)) H, ⟨as.length, rfl, Nat.zero_le _, Mk2.start s.w hD⟩, ?_⟩
    rintro n m H ⟨rfl, hn, mk⟩
    obtain ⟨G3, vs3, s3, g3, hvs3, hH3⟩ := id mk
    have qa' := qa H (s3.g.trans s3.w)
    by_cases hlt : n < as.length
    · have ex : xs[n]? = some (xs[n]'(by omega)) := List.getElem?_eq_getElem _
      refine .inr ⟨⟨xs, _, qa', ex⟩, fun H' => Mk2 G2 H2 Dl (made p f (((List.range as.length).zip as).take (n + 1))) H', fun H' m' => ⟨as.length - (n + 1), by omega, rfl, hlt, m'⟩, ?_⟩
      rintro v H' ⟨T, y', rfl, hT, rfl, f2⟩
      obtain ⟨dy, hdy, qy⟩ := hxs.get (f2 xs qa')
      have hz3 : ((List.range as.length).zip as)[n]? = some (n, dy) := List.getElem?_zip_eq_some.mpr ⟨List.getElem?_range hlt, hdy⟩
      refine ⟨T, [.int (n : Nat), y'], rfl, SqT.of upd_same, rfl, .int (n : Nat), _, rfl, y', _, rfl, rfl, hw _ _, ?_⟩
      have hTD : T ≠ Dl := fun e => by rw [e, hH3] at hT; cases hT
      have mk' : Mk2 G2 H2 Dl (made p f (((List.range as.length).zip as).take n)) (upd H T (.tup [.int (n : Nat), y'])) := ⟨G3, vs3, s3.trans (.old s3.w (.new hT)), g3, hvs3, by rw [upd_ne hTD.symm]; exact hH3⟩
      refine Mk2.turn (b := p (n, dy)) (d := f (n, dy)) hD mk' ?_ (fun G4 e1 _ => ht _ n _ G4 ((x.trans s.g).trans e1) hdy (qy.mono e1)) (fun G4 e1 _ hp => he _ n _ G4 ((x.trans s.g).trans e1) hdy (qy.mono e1) hp) fun H3 m3 => ?_
      · have h1 := made_len p f (((List.range as.length).zip as).take n)
        rw [List.length_take] at h1
        rw [sizeLine_eq]; omega
      · rw [take_more hz3, made_snoc]; exact m3
    · have e : n = as.length := by omega
      subst e
      refine .inl ⟨⟨xs, qa', by omega⟩, ?_⟩
      have whole_ : ((List.range as.length).zip as).take as.length = (List.range as.length).zip as := List.take_of_length_le (by omega)
      rw [whole_] at mk
      obtain ⟨G4, s4, h4⟩ := mk.done hD
      exact q _ G4 H (s.trans s4) h4
end
end Mv

namespace Mv
open PySem L2 Evl

/-! ### the program's mathematics -/
def dI (ns : List Int) : D := .tuple (ns.map .int)
def dL (pl : List (List Int)) : D := .list (pl.map dI)
def prod (ns : List Int) : Int := ns.foldl (· * ·) 1
def grow (found : List (List Int)) (size : Int) : List (List Int) := found.flatMap fun b => (List.range size.toNat).map fun (i : Nat) => b ++ [(i : Int)]
def placesOf (n : List Int) : List (List Int) := n.foldl grow [[]]
def zeros (n : List Int) : List Int := List.replicate n.length 0
def addP : List Int → List Int → List Int → List Int
  | s :: n, x :: a, y :: b => ((x + y) % s) :: addP n a b
  | _, _, _ => []
def addUp (n : List Int) (several : List (List Int)) : List Int := several.foldl (fun a b => addP n a b) (zeros n)
def halvesOf (n : List Int) : List (List Int) := (placesOf n).filter fun p => decide (p ≠ zeros n) && decide (addP n p p = zeros n)
structure OkD (n : List Int) : Prop where
  lo : 1 ≤ n.length
  hi : n.length ≤ 4
  sz : ∀ s ∈ n, 2 ≤ s ∧ s ≤ 24
  pr : prod n ≤ 24
theorem addP_len : ∀ {n a b : List Int}, a.length = n.length → b.length = n.length → (addP n a b).length = n.length
  | [], [], [], _, _ => rfl
  | s :: n, x :: a, y :: b, h1, h2 => by
    show (addP n a b).length + 1 = n.length + 1
    rw [addP_len (by simpa using h1) (by simpa using h2)]
  | s :: n, [], _, h, _ => by simp at h
  | s :: n, x :: a, [], _, h => by simp at h
  | [], x :: a, _, h, _ => by simp at h
  | [], [], y :: b, _, h => by simp at h
theorem zeros_len (n : List Int) : (zeros n).length = n.length := by unfold zeros; rw [List.length_replicate]
theorem addUp_len {n : List Int} : ∀ {l : List (List Int)}, (∀ p ∈ l, p.length = n.length) → (addUp n l).length = n.length := by
  have : ∀ (l : List (List Int)) (a : List Int), a.length = n.length → (∀ p ∈ l, p.length = n.length) → (l.foldl (fun a b => addP n a b) a).length = n.length := by
    intro l
    induction l with
    | nil => intro a h _; exact h
    | cons p l ih => intro a h hp; exact ih _ (addP_len h (hp p (List.mem_cons_self ..))) fun q hq => hp q (List.mem_cons_of_mem _ hq)
  intro l h
  exact this l _ (zeros_len n) h
theorem grow_len (found : List (List Int)) (size : Int) : (grow found size).length = found.length * size.toNat := by
  unfold grow
  induction found with
  | nil => simp
  | cons b l ih => rw [List.flatMap_cons, List.length_append, ih, List.length_map, List.length_range, List.length_cons, Nat.succ_mul, Nat.add_comm]
theorem places_len_take {n : List Int} (h : ∀ s ∈ n, 2 ≤ s) : ∀ i : Nat, ((placesOf (n.take i)).length : Int) = prod (n.take i) := by
  have key : ∀ (l : List Int), (∀ s ∈ l, 2 ≤ s) → ∀ (f : List (List Int)) (k : Int), (f.length : Int) = k → ((l.foldl grow f).length : Int) = l.foldl (· * ·) k := by
    intro l
    induction l with
    | nil => intro _ f k e; exact e
    | cons s l ih =>
      intro hs f k e
      refine ih (fun q hq => hs q (List.mem_cons_of_mem _ hq)) _ _ ?_
      rw [grow_len, Int.natCast_mul, e, Int.toNat_of_nonneg (by have := hs s (List.mem_cons_self ..); omega)]
  intro i
  exact key (n.take i) (fun s hs => h s (List.mem_of_mem_take hs)) [[]] 1 rfl
theorem prod_mono : ∀ {l : List Int}, (∀ s ∈ l, 2 ≤ s) → ∀ k : Int, 0 ≤ k → k ≤ l.foldl (· * ·) k
  | [], _, k, _ => Int.le_refl k
  | s :: l, h, k, hk => by
    have h2 := h s (List.mem_cons_self ..)
    have e : k ≤ k * s := by
      have := Int.mul_le_mul_of_nonneg_left (show (1 : Int) ≤ s by omega) hk
      omega
    exact Int.le_trans e (prod_mono (fun q hq => h q (List.mem_cons_of_mem _ hq)) _ (Int.le_trans hk e))
theorem prod_take {n : List Int} (h : ∀ s ∈ n, 2 ≤ s) (i : Nat) : prod (n.take i) ≤ prod n ∧ 1 ≤ prod (n.take i) := by
  have e : prod n = (n.drop i).foldl (· * ·) (prod (n.take i)) := by
    unfold prod
    rw [← List.foldl_append, List.take_append_drop]
  have p1 : 1 ≤ prod (n.take i) := prod_mono (fun s hs => h s (List.mem_of_mem_take hs)) 1 (by decide)
  refine ⟨?_, p1⟩
  rw [e]
  exact prod_mono (fun s hs => h s (List.mem_of_mem_drop hs)) _ (by omega)
theorem OkD.pl {n : List Int} (h : OkD n) (i : Nat) : (placesOf (n.take i)).length ≤ 24 := by
  have h1 := places_len_take (fun s hs => (h.sz s hs).1) i
  have h2 := (prod_take (fun s hs => (h.sz s hs).1) i).1
  have h3 := h.pr
  omega
theorem foldl_take {α β : Type} (f : β → α → β) (b : β) {l : List α} {i : Nat} {x : α} (h : l[i]? = some x) : (l.take (i + 1)).foldl f b = f ((l.take i).foldl f b) x := by
  rw [take_more h, List.foldl_append]; rfl
theorem grow_D (found : List (List Int)) (size : Int) : dL (grow found size) = .list ((found.map dI).flatMap fun a => (List.range size.toNat).map fun (i : Nat) => match a with | .tuple xs => .tuple (xs ++ [.int (i : Int)]) | _ => a) := by
  unfold dL grow
  congr 1
  induction found with
  | nil => rfl
  | cons b l ih =>
    rw [List.flatMap_cons, List.map_append, List.map_cons, List.flatMap_cons, ih, List.map_map]
    congr 1
    refine List.map_congr_left fun i _ => ?_
    show dI (b ++ [(i : Int)]) = .tuple (b.map PyData.int ++ [PyData.int (i : Int)])
    unfold dI
    rw [List.map_append]; rfl
theorem places_in {n : List Int} : ∀ p ∈ placesOf n, p.length = n.length := by
  have key : ∀ (l : List Int) (f : List (List Int)) (k : Nat), (∀ p ∈ f, p.length = k) → ∀ p ∈ l.foldl grow f, p.length = k + l.length := by
    intro l
    induction l with
    | nil => intro f k h p hp; exact h p hp
    | cons s l ih =>
      intro f k h p hp
      have := ih (grow f s) (k + 1) (fun q hq => by
        unfold grow at hq
        obtain ⟨b, hb, hq⟩ := List.mem_flatMap.mp hq
        obtain ⟨i, _, rfl⟩ := List.mem_map.mp hq
        rw [List.length_append, h b hb]; rfl) p hp
      rw [this, List.length_cons]; omega
  intro p hp
  have := key n [[]] 0 (fun q hq => by simp at hq; subst hq; rfl) p hp
  omega
theorem addP_D : ∀ (n a b : List Int), a.length = n.length → b.length = n.length →
    made (fun _ => true) (fun (x : D × D × D) => match x with | (.int x, .int y, .int s) => .int ((x + y) % s) | _ => .none) (zip3 (a.map PyData.int) (b.map PyData.int) (n.map PyData.int)) = (addP n a b).map PyData.int
  | [], [], [], _, _ => rfl
  | s :: n, x :: a, y :: b, h1, h2 => by
    have ih := addP_D n a b (by simpa using h1) (by simpa using h2)
    unfold made at ih ⊢
    rw [List.filter_eq_self.mpr (fun _ _ => rfl)] at ih ⊢
    show PyData.int ((x + y) % s) :: _ = PyData.int ((x + y) % s) :: (addP n a b).map PyData.int
    rw [← ih]
  | s :: n, [], _, h, _ => by simp at h
  | s :: n, x :: a, [], _, h => by simp at h
  | [], x :: a, _, h, _ => by simp at h
  | [], [], y :: b, _, h => by simp at h

theorem zip3_ints : ∀ (n a b : List Int) {da db dc : D}, (∀ s ∈ n, 0 < s) → (da, db, dc) ∈ zip3 (a.map PyData.int) (b.map PyData.int) (n.map PyData.int) → ∃ (i j s : Int), da = .int i ∧ db = .int j ∧ dc = .int s ∧ 0 < s
  | [], a, b, _, _, _, _, h => by cases a <;> cases b <;> simp [zip3] at h
  | s :: n, [], b, _, _, _, _, h => by simp [zip3] at h
  | s :: n, x :: a, [], _, _, _, _, h => by simp [zip3] at h
  | s :: n, x :: a, y :: b, da, db, dc, h4, hm => by
    have hm : (da, db, dc) ∈ (PyData.int x, PyData.int y, PyData.int s) :: zip3 (a.map PyData.int) (b.map PyData.int) (n.map PyData.int) := hm
    rcases (List.mem_cons.mp hm) with e | e
    · cases e; exact ⟨x, y, s, rfl, rfl, rfl, h4 s (List.mem_cons_self ..)⟩
    · exact zip3_ints n a b (fun q hq => h4 q (List.mem_cons_of_mem _ hq)) e

/-! ### what the defs promise -/
def R_place_count (ds : List D) (z : D) : Prop := ∃ n : List Int, ds = [dI n] ∧ (∀ s ∈ n, -(2 ^ 64) < s ∧ s < 2 ^ 64) ∧ z = .int (prod n)
def R_all_places (ds : List D) (z : D) : Prop := ∃ n : List Int, ds = [dI n] ∧ OkD n ∧ z = dL (placesOf n)
def R_nothing_of (ds : List D) (z : D) : Prop := ∃ n : List Int, ds = [dI n] ∧ 1 ≤ n.length ∧ n.length ≤ 1000 ∧ z = dI (zeros n)
def R_add (ds : List D) (z : D) : Prop := ∃ n a b : List Int, ds = [dI n, dI a, dI b] ∧ a.length = n.length ∧ b.length = n.length ∧ n.length ≤ 1000 ∧ (∀ s ∈ n, 0 < s) ∧ z = dI (addP n a b)
def R_add_up (ds : List D) (z : D) : Prop := ∃ (n : List Int) (l : List (List Int)), ds = [dI n, dL l] ∧ 1 ≤ n.length ∧ n.length ≤ 1000 ∧ (∀ s ∈ n, 0 < s) ∧ (∀ p ∈ l, p.length = n.length) ∧ z = dI (addUp n l)
def R_all_halves (ds : List D) (z : D) : Prop := ∃ n : List Int, ds = [dI n] ∧ OkD n ∧ z = dL (halvesOf n)
def top (i : Nat) : Stmt := PySem.Challenge.pw_movedround_k01_places_and_sums.main.body.getD i (.Pass ⟨0, 0, 0, 0⟩)
abbrev s_place_count : Stmt := top 1
abbrev s_all_places : Stmt := top 2
abbrev s_nothing_of : Stmt := top 3
abbrev s_add : Stmt := top 4
abbrev s_add_up : Stmt := top 6
theorem sqF (as : List D) : sq false as = .tuple as := rfl
theorem sqT (as : List D) : sq true as = .list as := rfl
section
variable {P : Program} {w : World} {mg : Str → Option Value} {base : Heap} {K : PySem.W.Frag}
theorem ok_place_count {f : Addr} {fd : FuncData} (F : Fun K "place_count" "place_count" s_place_count f fd) : FnOk P w K mg base CX0 1 f fd ["dials"] (SpR R_place_count) := by
  have sc : FnScope ["dials", "many", "size"] ["dials"] (defScope s_place_count) := ⟨rfl, rfl, rfl, by decide +kernel, rfl, by decide +kernel, by decide +kernel⟩
  refine F.ok sc (fun vs H Q E h => ?_) (fun cdv A outer s H vs Q E hr h => ?_)
  · obtain ⟨G, ds, z, _, hv, ⟨n, rfl, _⟩, _⟩ := h
    exact hv.len
  · obtain ⟨G, ds, z, wf, hv, ⟨n, rfl, hb, rfl⟩, k⟩ := h
    refine ⟨_, (pss_cons (ps_set (i := 1) sc.nd rfl (Or.inl rfl) pe_int) (pss_cons (ps_for PassesOwn.never rfl (pi_tup (pv 0)) (pg_name (i := 2) sc.nd rfl (Or.inl rfl)) (pss_one (ps_set (i := 1) sc.nd rfl (Or.inl rfl) (pe_op op_mul (pv 1) (pv 2))))) (pss_one (ps_ret (pv 1))))), ?_⟩
    cases hv with
    | @cons v0 vs d ds hv0 hn =>
      cases hn
      refine q_asg (G := G) (d_c (.int 1)) wf fun v1 G1 H1 s1 h1 => ?_
      cases h1
      refine s_forT (as := n.map PyData.int) (d_var rfl (hv0.mono s1.g)) s1.w (fun i σ G' => ∃ o, σ = [some v0, some (.int (prod (n.take i))), o]) (fun G2 H2 s2 => ⟨none, rfl⟩) ?_ ?_
      · rintro G2 H2 s2 i v a σ G3 H3 hi s3 ⟨o, rfl⟩ hq
        rw [List.getElem?_map] at hi
        obtain ⟨x, hx, rfl⟩ := Option.map_eq_some_iff.mp hi
        cases hq
        refine s_asg (G := G3) (i := 1) (d_op (d_var rfl (.int _)) (d_var rfl (.int x)) (opd_I (z := .int (prod (n.take i) * x)) (.inr (hb x (List.mem_of_getElem? hx))) fun _ => .int _)) s3.w fun v G4 H4 s4 hv => ?_
        cases hv
        exact ⟨G4, s3.trans s4, _, by unfold prod; rw [foldl_take _ _ hx]; rfl⟩
      · rintro σ G2 H2 s2 ⟨o, rfl⟩
        (rw [List.length_map, List.take_length])
        exact s_ret (G := G2) (d := .int (prod n)) (d_var rfl (.int _)) s2.w fun v G3 H3 s3 hv => k v G3 H3 ((s1.trans s2).trans s3) hv
theorem ok_nothing_of {f : Addr} {fd : FuncData} (Z : Zs mg) (F : Fun K "nothing_of" "nothing_of" s_nothing_of f fd) : FnOk P w K mg base CX0 1 f fd ["dials"] (SpR R_nothing_of) := by
  have sc : FnScope ["dials"] ["dials"] (defScope s_nothing_of) := ⟨rfl, rfl, rfl, by decide +kernel, rfl, by decide +kernel, by decide +kernel⟩
  refine F.ok sc (fun vs H Q E h => ?_) (fun cdv A outer s H vs Q E hr h => ?_)
  · obtain ⟨G, ds, z, _, hv, ⟨n, rfl, _⟩, _⟩ := h
    exact hv.len
  · obtain ⟨G, ds, z, wf, hv, ⟨n, rfl, h1, h2, rfl⟩, k⟩ := h
    refine ⟨_, (pss_one (ps_ret (pe_op (r := rRepA K) op_repA (pe_tup (pa_cons pe_int pa_nil)) (pe_callB (r := rLenA K) call_len_seq (by rfl) Z.len PySem.boot_len (pa_cons (pv 0) pa_nil))))), ?_⟩
    cases hv with
    | @cons v0 vs d ds hv0 hn =>
      cases hn
      refine s_ret (G := G) (d := dI (zeros n)) ?_ wf fun v G3 H3 s3 hv => k v G3 H3 s3 hv
      have e : dI (zeros n) = .tuple (List.replicate (n.map PyData.int).length [PyData.int 0]).flatten := by
        unfold dI zeros
        rw [List.length_map]
        congr 1
        induction n.length with
        | zero => rfl
        | succ m ih => rw [List.replicate_succ, List.replicate_succ, List.flatten_cons, List.map_cons, ih]; rfl
      rw [e]
      exact d_op (d_tup (a_cons (d_c (.int 0)) a_nil) (by decide)) (d_cb (a_cons (d_var rfl hv0) a_nil) cad_lenT) (opd_rep (by simp) (by rw [List.length_map]; exact h1) (by rw [List.length_map]; exact h2) (by decide))
theorem ok_add {f : Addr} {fd : FuncData} (Z : Zs mg) (F : Fun K "add" "add" s_add f fd) : FnOk P w K mg base CX0 1 f fd ["dials", "one", "other"] (SpR R_add) := by
  have sc : FnScope ["dials", "one", "other", "here", "there", "size"] ["dials", "one", "other"] (defScope s_add) := ⟨rfl, rfl, rfl, by decide +kernel, rfl, by decide +kernel, by decide +kernel⟩
  refine F.ok sc (fun vs H Q E h => ?_) (fun cdv A outer s H vs Q E hr h => ?_)
  · obtain ⟨G, ds, z, _, hv, ⟨n, a, b, rfl, _⟩, _⟩ := h
    exact hv.len
  · obtain ⟨G, ds, z, wf, hv, ⟨n, a, b, rfl, h1, h2, h3, h4, rfl⟩, k⟩ := h
    refine ⟨_, (pss_one (ps_ret (pe_callTy (r := rTupOf K) call_tuple_of (by rfl) Z.tuple (by decide +kernel) (pa_cons (pe_lc (own := [("here", 3), ("there", 4), ("size", 5)]) (g := gTup K 3 (gCons (gName 3) (gCons (gName 4) (gCons (gName 5) gNil)))) (tt := tYes) (by rfl) sc.nd (pi_zip3 false false false (by rfl) Z.zip (pa_cons (pv 1) (pa_cons (pv 2) (pa_cons (pv 0) pa_nil)))) (blkOk_by (N := ["dials", "one", "other", "here", "there", "size"]) (sc := defScope s_add) (by decide +kernel)) (fun _ _ _ _ _ => (pg_tup rfl (pgs_cons (pg_name (i := 3) sc.nd rfl (Or.inl rfl)) (pgs_cons (pg_name (i := 4) sc.nd rfl (Or.inl rfl)) (pgs_cons (pg_name (i := 5) sc.nd rfl (Or.inl rfl)) pgs_nil))))) (fun _ _ _ _ _ => pts_nil) (fun _ _ _ _ _ => (pe_op op_mod (pe_op op_add (pv 3) (pv 4)) (pv 5)))) pa_nil)))), ?_⟩
    cases hv with
    | @cons v0 vs d ds hv0 hn =>
      cases hn with
      | @cons v1 vs d ds hv1 hn =>
        cases hn with
        | @cons v2 vs d ds hv2 hn =>
          cases hn
          refine s_ret (G := G) (d := dI (addP n a b)) ?_ wf fun v G3 H3 s3 hv => k v G3 H3 s3 hv
          refine d_cb (a_cons ?_ a_nil) cad_tuple
          rw [← addP_D n a b h1 h2]
          refine d_lcZ3 (k1 := false) (k2 := false) (k3 := false) (as := a.map PyData.int) (bs := b.map PyData.int) (cs := n.map PyData.int) (fun _ => true) _ (a_cons (d_var rfl hv1) (a_cons (d_var rfl hv2) (a_cons (d_var rfl hv0) a_nil))) (by rw [List.length_map]; omega) (by simp only [List.length_map]; omega) (fun _ _ _ => rfl)
            (fun _ _ _ _ _ _ _ _ _ _ _ _ => b_yes) ?_
          rintro x y z da db dc G1 e1 hm hx hy hz _
          obtain ⟨i, j, s, rfl, rfl, rfl, hs⟩ := zip3_ints n a b h4 hm
          exact d_op (d_op (d_var rfl hx) (d_var rfl hy) (opd_I0 fun _ => .int (i + j))) (d_var rfl hz) (opd_I hs fun _ => .int _)
end
end Mv


namespace Mv
open PySem L2 Evl

/-! ### isinstance over data -/
def tyD : D → String
  | .none => "NoneType"
  | .bool _ => "bool"
  | .int _ => "int"
  | .str _ => "str"
  | .list _ => "list"
  | .tuple _ => "tuple"
  | .dict _ => "dict"
theorem tyX_of {K : PySem.W.Frag} {G H : Hp} (e : Ex G H) {v : V} {d : D} (h : Dq G v d) : TyX K H v (.type (tyD d)) := by
  cases h with
  | non => exact .base .non
  | bl b => exact .base (.bl b)
  | int i => exact .base (.int i)
  | str x => exact .base (.str x)
  | lst h _ => exact .base (.lst (e _ _ h))
  | tup h _ => exact .base (.tup (e _ _ h))
  | emp h => exact .base (.dK (e _ _ h))
theorem kit_tab : (["NoneType", "bool", "int", "str", "list", "tuple", "dict"].all fun a => ["bool", "int", "list", "tuple", "dict"].all fun b => kitB a b == some (a == b || (a == "bool" && b == "int"))) = true := by decide +kernel
theorem kit_of_D (d : D) {c : String} (hc : c ∈ ["bool", "int", "list", "tuple", "dict"]) : kitB (tyD d) c = some (tyD d == c || (tyD d == "bool" && c == "int")) := by
  have h := List.all_eq_true.mp kit_tab (tyD d) (by cases d <;> simp [tyD])
  have h2 := List.all_eq_true.mp h c hc
  exact eq_of_beq h2
def isD (d : D) (c : String) : Bool := tyD d == c || (tyD d == "bool" && c == "int")
section
variable {K : PySem.W.Frag} {σ : L2.St} {G G' H H' : Hp} {ta tb te tx : TE} {t u : TT} {d e z : D} {ds es : List D}
theorem d_isi {c : String} (hc : c ∈ ["bool", "int", "list", "tuple", "dict"]) (h : EvD ta σ G d) : EvD (tCB (rIsi K) (tCons ta (tCons (tC (.ty c)) tNil))) σ G (.bool (isD d c)) := fun G1 H1 x w Q q =>
  h G1 H1 x w _ fun v G2 H2 s hv => ⟨v, .ty c, .type (tyD d), .type c, isD d c, rfl, .ty c, tyX_of s.w hv, kit_ty (kit_of_D d hc), q _ G2 H2 s (.bl _)⟩
theorem b_val {b : Bool} (h : EvD te σ G (.bool b)) : EvB (tB te) σ G b := b_B h

/-! ### what the judges say -/
def isNum : D → Bool
  | .int _ => true
  | _ => false
def btw (lo hi : Int) : D → Bool
  | .int i => decide (lo ≤ i) && decide (i ≤ hi)
  | _ => false
def intsD (xs : List D) : List Int := xs.map fun d => match d with | .int i => i | _ => 0
def isDials : D → Bool
  | .tuple xs => (decide (1 ≤ (xs.length : Int)) && decide ((xs.length : Int) ≤ 4)) && (xs.all (btw 2 24) && decide (prod (intsD xs) ≤ 24))
  | _ => false
theorem intsD_of {xs : List D} (h : xs.all (btw 2 24) = true) : xs = (intsD xs).map PyData.int := by
  induction xs with
  | nil => rfl
  | cons d xs ih =>
    rw [List.all_cons, Bool.and_eq_true] at h
    cases d with
    | int i =>
      show _ :: _ = PyData.int i :: (intsD xs).map PyData.int
      rw [← ih h.2]
    | _ => simp [btw] at h
theorem isDials_ok {d : D} (h : isDials d = true) : ∃ n, d = dI n ∧ OkD n := by
  cases d with
  | tuple xs =>
    simp only [isDials, Bool.and_eq_true, decide_eq_true_eq] at h
    obtain ⟨⟨h1, h2⟩, h3, h4⟩ := h
    have e := intsD_of h3
    have el : (intsD xs).length = xs.length := by unfold intsD; rw [List.length_map]
    refine ⟨intsD xs, ?_, ⟨by omega, by omega, fun s hs => ?_, h4⟩⟩
    · show PyData.tuple xs = .tuple ((intsD xs).map PyData.int)
      rw [← e]
    · have hm : PyData.int s ∈ xs := by rw [e]; exact List.mem_map.mpr ⟨s, hs, rfl⟩
      have := List.all_eq_true.mp h3 _ hm
      simpa [btw] using this
  | _ => simp [isDials] at h
theorem isDials_of {n : List Int} (h : OkD n) : isDials (dI n) = true := by
  have e : intsD (n.map PyData.int) = n := by
    unfold intsD; rw [List.map_map]
    exact (List.map_congr_left fun _ _ => rfl).trans (List.map_id n)
  simp only [isDials, dI, Bool.and_eq_true, decide_eq_true_eq, List.length_map, e]
  have h1 := h.lo
  have h2 := h.hi
  refine ⟨⟨by omega, by omega⟩, ?_, h.pr⟩
  rw [List.all_eq_true]
  intro x hx
  obtain ⟨s, hs, rfl⟩ := List.mem_map.mp hx
  have := h.sz s hs
  simp [btw, this.1, this.2]
def R_is_number (ds : List D) (z : D) : Prop := ∃ d, ds = [d] ∧ z = .bool (isNum d)
def R_is_between (ds : List D) (z : D) : Prop := ∃ d lo hi, ds = [d, .int lo, .int hi] ∧ z = .bool (btw lo hi d)
def R_is_dials (ds : List D) (z : D) : Prop := ∃ d, ds = [d] ∧ z = .bool (isDials d)
def R_check_dials (C : Addr) (ds : List D) (r : Except Addr D) : Prop := ∃ d, ds = [d] ∧ r = if isDials d then .ok .none else .error C
def R_halves (C : Addr) (ds : List D) (r : Except Addr D) : Prop := ∃ d, ds = [d] ∧ ((∃ n, d = dI n ∧ OkD n ∧ r = .ok (dL (halvesOf n))) ∨ (isDials d = false ∧ r = .error C))
def R_whole (C : Addr) (ds : List D) (r : Except Addr D) : Prop := ∃ d, ds = [d] ∧ ((∃ n, d = dI n ∧ OkD n ∧ r = .ok (dI (addUp n (placesOf n)))) ∨ (isDials d = false ∧ r = .error C))
end
/-! ### equality of places -/
theorem eqvI : ∀ (a b : List Int), PyData.eqvAll (a.map PyData.int) (b.map PyData.int) = decide (a = b)
  | [], [] => rfl
  | [], y :: b => by simp [PyData.eqvAll]
  | x :: a, [] => by simp [PyData.eqvAll]
  | x :: a, y :: b => by
    rw [List.map_cons, List.map_cons, PyData.eqvAll, PyData.eqv, eqvI a b]
    by_cases h : x = y <;> simp [h]
theorem flat_dI (a : List Int) : flatD (dI a) = true := by
  show flatDs (a.map PyData.int) = true
  induction a with
  | nil => rfl
  | cons x a ih => rw [List.map_cons, flatDs, ih]; rfl
theorem canLay_ints : ∀ a : List Int, PyData.canLayAll0 (a.map PyData.int) = true
  | [] => by simp [PyData.canLayAll0]
  | x :: a => by simp [PyData.canLayAll0, PyData.canLay0, canLay_ints a]
theorem depth_ints : ∀ a : List Int, PyData.depthAll (a.map PyData.int) ≤ 1
  | [] => by simp [PyData.depthAll]
  | x :: a => by
    have := depth_ints a
    (simp only [List.map_cons, PyData.depthAll, PyData.depth])
    omega
theorem shaped_dI (a : List Int) : SeqAt.shaped (dI a) = true := by
  unfold SeqAt.shaped dI
  rw [PyData.canLay0, canLay_ints, PyData.depth]
  have := depth_ints a
  simp
  omega
theorem eqv_dI (a b : List Int) : PyData.eqv (dI a) (dI b) = decide (a = b) := by
  unfold dI
  rw [PyData.eqv]
  exact eqvI a b
section
variable {K : PySem.W.Frag} {σ : L2.St} {G G' H H' : Hp} {ta tb te tx : TE} {t u : TT} {d e z : D} {ds es : List D} {D' : Ends} {tu tz : TS}
theorem opd_eqI (a b : List Int) : OpD (rEqD K) G (dI a) (dI b) (.bool (PyData.eqv (dI a) (dI b))) := opd_eq (flat_dI a) (flat_dI b) (shaped_dI a) (shaped_dI b)
theorem opd_neI (a b : List Int) : OpD (rNeD K) G (dI a) (dI b) (.bool (!PyData.eqv (dI a) (dI b))) := opd_ne (flat_dI a) (flat_dI b) (shaped_dI a) (shaped_dI b)
/-- check_dials(dials), then the rest -/
theorem q_chk {C : Addr} {E : XK} (h : EvD ta σ G d) (w : Ex G H) (h1 : isDials d = false → ∀ G1 H1, Stp G H G1 H1 → E (.ref C) none H1) (h2 : isDials d = true → ∀ G1 H1, Stp G H G1 H1 → tz D' σ H1) :
    tSeq (tDrop (tCall (SpE (R_check_dials C)) [] E (tCons ta tNil))) tz D' σ H := h G H (.refl G) w _ fun v G1 H1 s hv => by
  show SpE (R_check_dials C) ([v] ++ []) H1 (fun _ H1 => tz D' σ H1) E
  refine ⟨G1, [d], _, s.w, .cons hv .nil, ⟨d, rfl, rfl⟩, fun z hz v G2 H2 s2 _ => ?_, fun C' hC G2 H2 s2 => ?_⟩
  · cases hd : isDials d with
    | true => exact h2 hd G2 H2 (s.trans s2)
    | false => rw [hd] at hz; cases hz
  · cases hd : isDials d with
    | true => rw [hd] at hC; cases hC
    | false => rw [hd] at hC; cases hC; exact h1 hd G2 H2 (s.trans s2)
end
def addD (n : List Int) : D → D
  | .tuple xs => dI (addP n (intsD xs) (intsD xs))
  | d => d
theorem intsD_map (a : List Int) : intsD (a.map PyData.int) = a := by
  unfold intsD; rw [List.map_map]
  exact (List.map_congr_left fun _ _ => rfl).trans (List.map_id a)
theorem addD_dI (n p : List Int) (_ : p.length = n.length) : addD n (dI p) = dI (addP n p p) := by
  show dI (addP n (intsD (p.map PyData.int)) (intsD (p.map PyData.int))) = _
  rw [intsD_map]
theorem halves_D (n : List Int) : dL (halvesOf n) = .list (made (fun d => !PyData.eqv d (dI (zeros n)) && PyData.eqv (addD n d) (dI (zeros n))) id ((placesOf n).map dI)) := by
  unfold dL halvesOf made
  rw [List.map_id, List.filter_map]
  congr 2
  refine List.filter_congr fun p hp => ?_
  rw [Function.comp, addD_dI n p (places_in p hp), eqv_dI, eqv_dI]
  by_cases h1 : p = zeros n <;> simp [h1]
/-- a class of the program's own, over ValueError -/
structure ExcC (K : PySem.W.Frag) (mg : Str → Option Value) (x : Str) (C : Addr) : Prop where
  ex : PySem.W.excIn K C [.type "ValueError", .type "Exception", .type "BaseException", .type "object"] "ValueError.__new__" = true
  g : mg x = some (.ref C)
  k : PySem.W.keepIn K (.ref C) = true
  b : PySem.W.subIn K (.ref C) (.type "BaseException") = some true
  t : PySem.W.typeIn K (.ref C) = some (.type "type")
abbrev s_is_number : Stmt := top 15
abbrev s_is_between : Stmt := top 16
abbrev s_is_dials : Stmt := top 20
abbrev s_check_dials : Stmt := top 23
section
variable {P : Program} {w : World} {mg : Str → Option Value} {base : Heap} {K : PySem.W.Frag}
theorem ok_all_places {f : Addr} {fd : FuncData} (Z : Zs mg) (F : Fun K "all_places" "all_places" s_all_places f fd) : FnOk P w K mg base CX0 1 f fd ["dials"] (SpR R_all_places) := by
  have sc : FnScope ["dials", "found", "size", "begin", "at"] ["dials"] (defScope s_all_places) := ⟨rfl, rfl, rfl, by decide +kernel, rfl, by decide +kernel, by decide +kernel⟩
  refine F.ok sc (fun vs H Q E h => ?_) (fun cdv A outer s H vs Q E hr h => ?_)
  · obtain ⟨G, ds, z, _, hv, ⟨n, rfl, _⟩, _⟩ := h
    exact hv.len
  · obtain ⟨G, ds, z, wf, hv, ⟨n, rfl, hn, rfl⟩, k⟩ := h
    refine ⟨_, (pss_cons (ps_set (i := 1) sc.nd rfl (Or.inl rfl) (pe_lst (pa_cons (pe_tup pa_nil) pa_nil))) (pss_cons (ps_for PassesOwn.never rfl (pi_tup (pv 0)) (pg_name (i := 2) sc.nd rfl (Or.inr rfl)) (pss_one (ps_setLc2 (i := 1) (own := [("begin", 3), ("at", 4)]) (vs1 := [4])  (g := gName 3) (g1 := gName 4) (by rfl) sc.nd rfl rfl (sw_true rfl rfl rfl (by decide +kernel)) (pi_list (pv 1)) (blkOk_by (N := ["dials", "found", "size", "begin", "at"]) (sc := defScope s_all_places) (by decide +kernel)) (by decide) (fun _ _ _ _ _ => (pg_name (i := 3) sc.nd rfl (Or.inl rfl))) (fun _ _ _ _ _ => pts_nil) (fun _ _ _ _ _ => (pi_range1 (by rfl) Z.range (pa_cons (pv 2) pa_nil))) (fun _ _ _ _ _ => (pg_name (i := 4) sc.nd rfl (Or.inl rfl))) (fun _ _ _ _ _ => pts_nil) (fun _ _ _ _ _ => (pe_op (r := rCatA K) op_catA (pv 3) (pe_tup (pa_cons (pv 4) pa_nil))))))) (pss_one (ps_ret (pv 1))))), ?_⟩
    cases hv with
    | @cons v0 vs d ds hv0 hnil =>
      cases hnil
      refine q_asg (G := G) (d := dL [[]]) (d_lst (a_cons (d_tup a_nil (by decide)) a_nil) (by decide)) wf fun v1 G1 H1 s1 h1 => ?_
      refine s_forT (as := n.map PyData.int) (d_var rfl (hv0.mono s1.g)) s1.w (fun i σ G' => ∃ v o, σ = [some v0, some v, o, none, none] ∧ Dq G' v (dL (placesOf (n.take i)))) (fun G2 H2 s2 => ⟨v1, none, rfl, h1.mono s2.g⟩) ?_ ?_
      · rintro G2 H2 s2 i v a σ G3 H3 hi s3 ⟨vf, o, rfl, hf⟩ hq
        rw [List.getElem?_map] at hi
        obtain ⟨x, hx, rfl⟩ := Option.map_eq_some_iff.mp hi
        cases hq
        have hx2 := hn.sz x (List.mem_of_getElem? hx)
        have ex : ((x.toNat : Nat) : Int) = x := Int.toNat_of_nonneg (by omega)
        have hl := hn.pl i
        refine s_asg (G := G3) (d := dL (placesOf (n.take (i + 1)))) (i := 1) ?_ s3.w fun v G4 H4 s4 hv => ⟨G4, s3.trans s4, v, _, rfl, hv⟩
        have e2 : placesOf (n.take (i + 1)) = grow (placesOf (n.take i)) x := by unfold placesOf; rw [foldl_take _ _ hx]
        rw [e2, grow_D]
        refine d_lc2LR (as := (placesOf (n.take i)).map dI) (n := x.toNat) _ (d_var rfl hf) (by omega) (by rw [List.length_map]; omega) (fun v a G5 _ _ _ => a_cons (d_var rfl (by rw [ex]; exact .int x)) a_nil) (fun _ => rfl) (fun _ _ => rfl) ?_
        intro v a j G5 e5 ha hq hj
        obtain ⟨b, hb, rfl⟩ := List.mem_map.mp ha
        refine d_op (d_var rfl hq) (d_tup (a_cons (d_var rfl (.int (j : Int))) a_nil) (by show 1 ≤ sizeLine; decide)) (opd_catT ?_)
        have hbl := places_in b hb
        rw [List.length_map, hbl, List.length_take, sizeLine_eq]
        have := hn.hi
        show _ + 1 ≤ _
        omega
      · rintro σ G2 H2 s2 ⟨vf, o, rfl, hf⟩
        rw [List.length_map, List.take_length] at hf
        exact s_ret (G := G2) (d_var rfl hf) s2.w fun v G3 H3 s3 hv => k v G3 H3 ((s1.trans s2).trans s3) hv
theorem ok_add_up {f : Addr} {fd : FuncData} (C_nothing_of : Cal P w K mg base CX0 1 "nothing_of" ["dials"] (SpR R_nothing_of)) (C_add : Cal P w K mg base CX0 1 "add" ["dials", "one", "other"] (SpR R_add)) (F : Fun K "add_up" "add_up" s_add_up f fd) : FnOk P w K mg base CX0 2 f fd ["dials", "several"] (SpR R_add_up) := by
  have sc : FnScope ["dials", "several", "sum_so_far", "place"] ["dials", "several"] (defScope s_add_up) := ⟨rfl, rfl, rfl, by decide +kernel, rfl, by decide +kernel, by decide +kernel⟩
  refine F.ok sc (fun vs H Q E h => ?_) (fun cdv A outer s H vs Q E hr h => ?_)
  · obtain ⟨G, ds, z, _, hv, ⟨n, l, rfl, _⟩, _⟩ := h
    exact hv.len
  · obtain ⟨G, ds, z, wf, hv, ⟨n, l, rfl, h1, h2, h3, h4, rfl⟩, k⟩ := h
    refine ⟨_, (pss_cons (ps_set (i := 2) sc.nd rfl (Or.inl rfl) (pe_cal C_nothing_of (hr.mono (by decide)) pass0 (pa_cons (pv 0) pa_nil))) (pss_cons (ps_for PassesOwn.never rfl (pi_list (pv 1)) (pg_name (i := 3) sc.nd rfl (Or.inl rfl)) (pss_one (ps_set (i := 2) sc.nd rfl (Or.inl rfl) (pe_cal C_add (hr.mono (by decide)) pass0 (pa_cons (pv 0) (pa_cons (pv 2) (pa_cons (pv 3) pa_nil))))))) (pss_one (ps_ret (pv 2))))), ?_⟩
    cases hv with
    | @cons v0 vs d ds hv0 hnil =>
      cases hnil with
      | @cons v1 vs d ds hv1 hnil =>
        cases hnil
        refine q_asg (G := G) (d := dI (zeros n)) (d_cal (a_cons (d_var rfl hv0) a_nil) ⟨n, rfl, h1, h2, rfl⟩) wf fun v2 G1 H1 s1 hz => ?_
        refine s_forL (as := l.map dI) (d_var rfl (hv1.mono s1.g)) s1.w (fun i σ G' => ∃ v o, σ = [some v0, some v1, some v, o] ∧ Dq G' v0 (dI n) ∧ Dq G' v (dI (addUp n (l.take i)))) (fun G2 H2 s2 => ⟨v2, none, rfl, hv0.mono (s1.g.trans s2.g), hz.mono s2.g⟩) ?_ ?_
        · rintro G2 H2 s2 i v a σ G3 H3 hi s3 ⟨vf, o, rfl, hv0', hf⟩ hq
          rw [List.getElem?_map] at hi
          obtain ⟨x, hx, rfl⟩ := Option.map_eq_some_iff.mp hi
          have hx2 := h4 x (List.mem_of_getElem? hx)
          refine s_asg (G := G3) (d := dI (addUp n (l.take (i + 1)))) (i := 2) ?_ s3.w fun v G4 H4 s4 hv => ⟨G4, s3.trans s4, v, _, rfl, hv0'.mono s4.g, hv⟩
          refine d_cal (a_cons (d_var rfl hv0') (a_cons (d_var rfl hf) (a_cons (d_var rfl hq) a_nil))) ⟨n, addUp n (l.take i), x, rfl, addUp_len fun p hp => h4 p (List.mem_of_mem_take hp), hx2, h2, h3, ?_⟩
          unfold addUp
          rw [foldl_take _ _ hx]
        · rintro σ G2 H2 s2 ⟨vf, o, rfl, _, hf⟩
          rw [List.length_map, List.take_length] at hf
          exact s_ret (G := G2) (d_var rfl hf) s2.w fun v G3 H3 s3 hv => k v G3 H3 ((s1.trans s2).trans s3) hv
theorem ok_is_number {f : Addr} {fd : FuncData} (Z : Zs mg) (F : Fun K "is_number" "is_number" s_is_number f fd) : FnOk P w K mg base CX0 1 f fd ["thing"] (SpR R_is_number) := by
  have sc : FnScope ["thing"] ["thing"] (defScope s_is_number) := ⟨rfl, rfl, rfl, by decide +kernel, rfl, by decide +kernel, by decide +kernel⟩
  refine F.ok sc (fun vs H Q E h => ?_) (fun cdv A outer s H vs Q E hr h => ?_)
  · obtain ⟨G, ds, z, _, hv, ⟨n, rfl, _⟩, _⟩ := h
    exact hv.len
  · obtain ⟨G, ds, z, wf, hv, ⟨d, rfl, rfl⟩, k⟩ := h
    refine ⟨_, (pss_one (ps_ret (pe_and (pe_callB (r := rIsi K) call_isi (by rfl) Z.isinstance (by decide +kernel) (pa_cons (pv 0) (pa_cons (pe_bltn (v := .ty "int") (u := .type "int") (by rfl) Z.int (by decide +kernel) rfl) pa_nil))) (pe_one (pe_not (pe_callB (r := rIsi K) call_isi (by rfl) Z.isinstance (by decide +kernel) (pa_cons (pv 0) (pa_cons (pe_bltn (v := .ty "bool") (u := .type "bool") (by rfl) Z.bool (by decide +kernel) rfl) pa_nil)))))))), ?_⟩
    cases hv with
    | @cons v0 vs d ds hv0 hnil =>
      cases hnil
      refine s_ret (G := G) (d := .bool (isNum d)) ?_ wf fun v G3 H3 s3 hv => k v G3 H3 s3 hv
      refine (d_and (d_isi (by decide) (d_var rfl hv0)) fun _ => d_not (d_isi (by decide) (d_var rfl hv0))).is ?_
      cases d <;> rfl
theorem ok_is_between {f : Addr} {fd : FuncData} (C_is_number : Cal P w K mg base CX0 1 "is_number" ["thing"] (SpR R_is_number)) (F : Fun K "is_between" "is_between" s_is_between f fd) : FnOk P w K mg base CX0 2 f fd ["thing", "low", "high"] (SpR R_is_between) := by
  have sc : FnScope ["thing", "low", "high"] ["thing", "low", "high"] (defScope s_is_between) := ⟨rfl, rfl, rfl, by decide +kernel, rfl, by decide +kernel, by decide +kernel⟩
  refine F.ok sc (fun vs H Q E h => ?_) (fun cdv A outer s H vs Q E hr h => ?_)
  · obtain ⟨G, ds, z, _, hv, ⟨d, lo, hi, rfl, _⟩, _⟩ := h
    exact hv.len
  · obtain ⟨G, ds, z, wf, hv, ⟨d, lo, hi, rfl, rfl⟩, k⟩ := h
    refine ⟨_, (pss_one (ps_ret (pe_and (pe_cal C_is_number (hr.mono (by decide)) pass0 (pa_cons (pv 0) pa_nil)) (pe_one (pe_chain op_le op_le (pv 1) (pv 0) (pv 2)))))), ?_⟩
    cases hv with
    | @cons v0 vs d ds hv0 hnil =>
      cases hnil with
      | @cons v1 vs d1 ds hv1 hnil =>
        cases hnil with
        | @cons v2 vs d2 ds hv2 hnil =>
          cases hnil
          refine s_ret (G := G) (d := .bool (btw lo hi d)) ?_ wf fun v G3 H3 s3 hv => k v G3 H3 s3 hv
          cases hd : isNum d with
          | true =>
            cases d with
            | int i =>
              refine (d_and (a := true) (d_cal (a_cons (d_var rfl hv0) a_nil) ⟨_, rfl, rfl⟩) fun _ => d_chainI (d_var rfl hv1) (d_var rfl hv0) (d_var rfl hv2)).is rfl
            | _ => simp [isNum] at hd
          | false =>
            refine (d_and (a := false) (b := true) (d_cal (a_cons (d_var rfl hv0) a_nil) ⟨_, rfl, by rw [hd]⟩) fun z => nomatch z).is ?_
            cases d <;> first | rfl | simp [isNum] at hd
theorem ok_is_dials {f : Addr} {fd : FuncData} (Z : Zs mg) (C_is_between : Cal P w K mg base CX0 2 "is_between" ["thing", "low", "high"] (SpR R_is_between)) (C_place_count : Cal P w K mg base CX0 1 "place_count" ["dials"] (SpR R_place_count)) (F : Fun K "is_dials" "is_dials" s_is_dials f fd) : FnOk P w K mg base CX0 3 f fd ["thing"] (SpR R_is_dials) := by
  have sc : FnScope ["thing", "size"] ["thing"] (defScope s_is_dials) := ⟨rfl, rfl, rfl, by decide +kernel, rfl, by decide +kernel, by decide +kernel⟩
  refine F.ok sc (fun vs H Q E h => ?_) (fun cdv A outer s H vs Q E hr h => ?_)
  · obtain ⟨G, ds, z, _, hv, ⟨d, rfl, _⟩, _⟩ := h
    exact hv.len
  · obtain ⟨G, ds, z, wf, hv, ⟨d, rfl, rfl⟩, k⟩ := h
    refine ⟨_, (pss_cons (ps_if (PW.pt (pw_or (pt_not (pt_val (pe_callB (r := rIsi K) call_isi (by rfl) Z.isinstance (by decide +kernel) (pa_cons (pv 0) (pa_cons (pe_bltn (v := .ty "tuple") (u := .type "tuple") (by rfl) Z.tuple (by decide +kernel) rfl) pa_nil))))) (pw_or1 (pt_not (pt_chain op_le op_le pe_int (pe_callB (r := rLenA K) call_len_seq (by rfl) Z.len PySem.boot_len (pa_cons (pv 0) pa_nil)) pe_int))))) (pss_one (ps_ret pe_bl)) pss_nil) (pss_one (ps_ret (pe_and (pe_callB (r := rAll K) (cr_all (by rfl)) (by rfl) Z.all (by decide +kernel) (pa_cons (pe_lc (own := [("size", 1)]) (g := gName 1) (tt := tYes) (by rfl) sc.nd (pi_tup (pv 0)) (blkOk_by (N := ["thing", "size"]) (sc := defScope s_is_dials) (by decide +kernel)) (fun _ _ _ _ _ => (pg_name (i := 1) sc.nd rfl (Or.inl rfl))) (fun _ _ _ _ _ => pts_nil) (fun _ _ _ _ _ => (pe_cal C_is_between (hr.mono (by decide)) pass0 (pa_cons (pv 1) (pa_cons pe_int (pa_cons pe_int pa_nil)))))) pa_nil)) (pe_one (pe_cmpR op_le (pe_cal C_place_count (hr.mono (by decide)) pass0 (pa_cons (pv 0) pa_nil)) pe_int (nomark _))))))), ?_⟩
    cases hv with
    | @cons v0 vs d ds hv0 hnil =>
      cases hnil
      cases d with
      | tuple xs =>
        refine q_when (G := G) (b := !(decide (1 ≤ (xs.length : Int)) && decide ((xs.length : Int) ≤ 4))) ?_ wf (fun hb G1 H1 s1 => ?_) fun hb G1 H1 s1 => ?_
        · exact b_or (a := false) (b_not (b_B (d_isi (c := "tuple") (by decide) (d_var rfl hv0)))) fun _ => b_not (b_test (d_chainI (d_c (.int 1)) (d_cb (a_cons (d_var rfl hv0) a_nil) cad_lenT) (d_c (.int 4))))
        · refine s_ret (G := G1) (D' := { nx := _, rt := Q }) (d := .bool (isDials (.tuple xs))) (d_c ?_) s1.w fun v G3 H3 s3 hv => k v G3 H3 (s1.trans s3) hv
          have : isDials (.tuple xs) = false := by
            simp only [isDials]
            rw [Bool.not_eq_true'] at hb
            rw [hb]; rfl
          rw [this]; exact .bl false
        · refine s_ret (G := G1) (d := .bool (isDials (.tuple xs))) ?_ s1.w fun v G3 H3 s3 hv => k v G3 H3 (s1.trans s3) hv
          have hb' : (decide (1 ≤ (xs.length : Int)) && decide ((xs.length : Int) ≤ 4)) = true := by simpa using hb
          have hlen : xs.length ≤ 4 := by
            simp only [Bool.and_eq_true, decide_eq_true_eq] at hb'
            omega
          have hv1 := hv0.mono s1.g
          refine (d_and (a := xs.all (btw 2 24)) (b := decide (prod (intsD xs) ≤ 24)) ?_ fun ha => ?_).is ?_
          · have e : xs.all (btw 2 24) = ((xs.map (btw 2 24)).all id) := by rw [List.all_map]; rfl
            rw [e]
            refine d_cb (a_cons ?_ a_nil) cad_all
            refine (d_lcT (as := xs) (fun _ => true) (fun d => .bool (btw 2 24 d)) (d_var rfl hv1) (by omega) (fun _ => rfl) (fun _ _ _ _ _ _ => b_yes) ?_).is ?_
            · intro v a G2 e2 _ hq _
              exact d_cal (a_cons (d_var rfl hq) (a_cons (d_c (.int 2)) (a_cons (d_c (.int 24)) a_nil))) ⟨a, 2, 24, rfl, rfl⟩
            · unfold made
              rw [List.filter_eq_self.mpr (fun _ _ => rfl), List.map_map]; rfl
          · have e := intsD_of ha
            refine d_op (d := .int (prod (intsD xs))) (e := .int 24) (d_cal (ds := [.tuple xs]) (a_cons (d_var rfl hv1) a_nil) ⟨intsD xs, by rw [← show dI (intsD xs) = .tuple xs from by unfold dI; rw [← e]], fun s hs => ?_, rfl⟩) (d_c (.int 24)) (opd_I0 fun _ => .bl _)
            have hm : PyData.int s ∈ xs := by rw [e]; exact List.mem_map.mpr ⟨s, hs, rfl⟩
            have := List.all_eq_true.mp ha _ hm
            simp only [btw, Bool.and_eq_true, decide_eq_true_eq] at this
            exact ⟨by omega, by omega⟩
          · simp only [isDials]
            rw [hb', Bool.true_and]
      | _ =>
        refine q_when (G := G) (D' := { nx := fun _ H' => Q .non H', rt := Q }) (b := true) (b_or (a := true) (b := true) (b_not (b_B (d_isi (c := "tuple") (by decide) (d_var rfl hv0)))) fun z => nomatch z) wf (fun _ G1 H1 s1 => ?_) fun z => nomatch z
        refine s_ret (G := G1) (D' := { nx := _, rt := Q }) (d := .bool false) (d_c (.bl false)) s1.w fun v G3 H3 s3 hv => ?_
        exact k v G3 H3 (s1.trans s3) hv
theorem ok_check_dials {f C : Addr} {fd : FuncData} (B : ExcC K mg "BadDials" C) (C_is_dials : Cal P w K mg base CX0 3 "is_dials" ["thing"] (SpR R_is_dials)) (F : Fun K "check_dials" "check_dials" s_check_dials f fd) : FnOk P w K mg base (L2.CX P w) 4 f fd ["dials"] (SpE (R_check_dials C)) := by
  have sc : FnScope ["dials"] ["dials"] (defScope s_check_dials) := ⟨rfl, rfl, rfl, by decide +kernel, rfl, by decide +kernel, by decide +kernel⟩
  refine F.okX sc (fun vs H Q E h => ?_) (fun cdv A outer s H vs Q E hr h => ?_)
  · obtain ⟨G, ds, z, _, hv, ⟨d, rfl, _⟩, _⟩ := h
    exact hv.len
  · obtain ⟨G, ds, r, wf, hv, ⟨d, rfl, rfl⟩, k, ke⟩ := h
    refine ⟨_, (pss_one (ps_if (pt_not (pt_val (pe_cal C_is_dials (hr.mono (by decide)) pass0 (pa_cons (pv 0) pa_nil)))) (pss_one (ps_raise rfl (takes_of rfl rfl rfl rfl) (pmk_own PySem.F.excBase_ValueError B.ex B.g B.k (raises_own B.b B.t) rfl))) pss_nil)), ?_⟩
    cases hv with
    | @cons v0 vs d ds hv0 hnil =>
      cases hnil
      refine s_if (G := G) (b := !isDials d) (b_not (b_B (d_cal (a_cons (d_var rfl hv0) a_nil) ⟨d, rfl, rfl⟩))) wf (fun hb G1 H1 s1 => ?_) fun hb G1 H1 s1 => ?_
      · exact ke C (by rw [if_neg (by simpa using hb)]) G1 H1 s1
      · exact k .none (by rw [if_pos (by simpa using hb)]) .non G1 H1 s1 .non
end
end Mv


namespace Mv
open PySem L2 Evl

/-! ### the state that draws: a dict at s, its two lists at l and c -/
def stK (l c : Addr) (left turn : Int) : List (Key × V) := [(Sum.inr ("large" : Str), .ref l), (Sum.inr ("cells" : Str), .ref c), (Sum.inr ("left" : Str), .int left), (Sum.inr ("turn" : Str), .int turn)]
theorem ne1 : ¬ ((Sum.inr ("large" : Str) : Key) = Sum.inr ("cells" : Str)) := fun h => absurd (Sum.inr.inj h) (by decide +kernel)
theorem ne2 : ¬ ((Sum.inr ("large" : Str) : Key) = Sum.inr ("left" : Str)) := fun h => absurd (Sum.inr.inj h) (by decide +kernel)
theorem ne3 : ¬ ((Sum.inr ("large" : Str) : Key) = Sum.inr ("turn" : Str)) := fun h => absurd (Sum.inr.inj h) (by decide +kernel)
theorem ne4 : ¬ ((Sum.inr ("cells" : Str) : Key) = Sum.inr ("left" : Str)) := fun h => absurd (Sum.inr.inj h) (by decide +kernel)
theorem ne5 : ¬ ((Sum.inr ("cells" : Str) : Key) = Sum.inr ("turn" : Str)) := fun h => absurd (Sum.inr.inj h) (by decide +kernel)
theorem ne6 : ¬ ((Sum.inr ("left" : Str) : Key) = Sum.inr ("turn" : Str)) := fun h => absurd (Sum.inr.inj h) (by decide +kernel)
section
variable (l c : Addr) (left turn x : Int)
theorem v_large : valV (stK l c left turn) (Sum.inr ("large" : Str)) = some (.ref l) := valV_pos rfl
theorem v_cells : valV (stK l c left turn) (Sum.inr ("cells" : Str)) = some (.ref c) := by unfold stK; rw [valV_neg ne1, valV_pos rfl]
theorem v_left : valV (stK l c left turn) (Sum.inr ("left" : Str)) = some (.int left) := by unfold stK; rw [valV_neg ne2, valV_neg ne4, valV_pos rfl]
theorem v_turn : valV (stK l c left turn) (Sum.inr ("turn" : Str)) = some (.int turn) := by unfold stK; rw [valV_neg ne3, valV_neg ne5, valV_neg ne6, valV_pos rfl]
theorem p_left : putK (stK l c left turn) (Sum.inr ("left" : Str)) (.int x) = stK l c x turn := by
  have e : ((stK l c left turn).any fun kv => decide (kv.1 = Sum.inr ("left" : Str))) = true := by rw [valV_any, v_left]; rfl
  unfold putK
  rw [if_pos e]
  unfold stK
  simp only [List.map_cons, List.map_nil]
  rw [if_neg ne2, if_neg ne4, if_true, if_neg (fun h => ne6 h.symm)]
theorem p_turn : putK (stK l c left turn) (Sum.inr ("turn" : Str)) (.int x) = stK l c left x := by
  have e : ((stK l c left turn).any fun kv => decide (kv.1 = Sum.inr ("turn" : Str))) = true := by rw [valV_any, v_turn]; rfl
  unfold putK
  rw [if_pos e]
  unfold stK
  simp only [List.map_cons, List.map_nil]
  rw [if_neg ne3, if_neg ne5, if_neg ne6, if_true]
end
structure StAt (H : Hp) (s l c : Addr) (T : Int) : Prop where
  ex : ∃ (lg cs : List Int) (left turn : Int), H s = some (.dK (stK l c left turn)) ∧ H l = some (.lst (lg.map V.int)) ∧ H c = some (.lst (cs.map V.int)) ∧ (∀ x ∈ lg, 0 ≤ x) ∧ (∀ x ∈ cs, 0 ≤ x) ∧ 0 ≤ left ∧ 0 ≤ turn ∧ turn ≤ T
  lc : l ≠ c
/-- what is known, what stands, the state beside -/
structure Wd (G H : Hp) (s l c : Addr) (T : Int) : Prop where
  w : Ex G H
  st : StAt H s l c T
  gs : G s = none
  gl : G l = none
  gc : G c = none
theorem StAt.mono {H H' : Hp} {s l c : Addr} {T : Int} (x : StAt H s l c T) (e : Ex H H') : StAt H' s l c T := by
  obtain ⟨⟨lg, cs, left, turn, h1, h2, h3, h⟩, q⟩ := x
  exact ⟨⟨lg, cs, left, turn, e _ _ h1, e _ _ h2, e _ _ h3, h⟩, q⟩
theorem StAt.ge {H : Hp} {s l c : Addr} {T T' : Int} (x : StAt H s l c T) (e : T ≤ T') : StAt H s l c T' := by
  obtain ⟨⟨lg, cs, left, turn, h1, h2, h3, h4, h5, h6, h7, h8⟩, q⟩ := x
  exact ⟨⟨lg, cs, left, turn, h1, h2, h3, h4, h5, h6, h7, by omega⟩, q⟩
theorem StAt.at {H : Hp} {s l c : Addr} {T : Int} (x : StAt H s l c T) : (∃ o, H s = some o) ∧ (∃ o, H l = some o) ∧ ∃ o, H c = some o := by
  obtain ⟨⟨lg, cs, left, turn, h1, h2, h3, h⟩, q⟩ := x
  exact ⟨⟨_, h1⟩, ⟨_, h2⟩, ⟨_, h3⟩⟩
theorem StAt.apart {H : Hp} {s l c : Addr} {T : Int} (x : StAt H s l c T) : s ≠ l ∧ s ≠ c := by
  obtain ⟨⟨lg, cs, left, turn, h1, h2, h3, h⟩, q⟩ := x
  exact ⟨ne_of h1 h2 (by intro z; cases z), ne_of h1 h3 (by intro z; cases z)⟩
/-- a step beside the state -/
theorem Wd.stp {G H G' H' : Hp} {s l c : Addr} {T : Int} (x : Wd G H s l c T) (p : Stp G H G' H') : Wd G' H' s l c T := by
  obtain ⟨⟨o1, e1⟩, ⟨o2, e2⟩, o3, e3⟩ := x.st.at
  exact ⟨p.w, x.st.mono p.h, p.n s x.gs (by rw [e1]; intro z; cases z), p.n l x.gl (by rw [e2]; intro z; cases z), p.n c x.gc (by rw [e3]; intro z; cases z)⟩
/-- a step that may change the state -/
structure StS (S : List Addr) (G H G' H' : Hp) : Prop where
  g : Ex G G'
  h : ∀ b o, b ∉ S → H b = some o → H' b = some o
  k : ∀ b, b ∈ S → H b ≠ none → H' b ≠ none
  w : Ex G' H'
  n : ∀ b, G b = none → H b ≠ none → G' b = none
theorem Stp.toS {S : List Addr} {G H G' H' : Hp} (p : Stp G H G' H') : StS S G H G' H' := ⟨p.g, fun b o _ q => p.h b o q, (fun b _ q z => by
  cases e : H b with
  | none => exact q e
  | some o => rw [p.h b o e] at z; cases z), p.w, p.n⟩
theorem StS.trans {S : List Addr} {G H G1 H1 G2 H2 : Hp} (a : StS S G H G1 H1) (b : StS S G1 H1 G2 H2) : StS S G H G2 H2 := by
  have ne : ∀ c, H c ≠ none → H1 c ≠ none := fun c q z => by
    by_cases hc : c ∈ S
    · exact a.k c hc q z
    · cases e : H c with
      | none => exact q e
      | some o => rw [a.h c o hc e] at z; cases z
  exact ⟨a.g.trans b.g, fun c o hc q => b.h c o hc (a.h c o hc q), fun c hc q => b.k c hc (a.k c hc q), b.w, fun c h1 h2 => b.n c (a.n c h1 h2) (ne c h2)⟩
theorem StS.refl {S : List Addr} {G H : Hp} (e : Ex G H) : StS S G H G H := (Stp.refl e).toS
theorem q_whileW {c : TT} {tb tz : TS} {D' : Ends} {σ : L2.St} {H : Hp} (W : Nat → L2.St → Hp → Prop) (Nd : L2.St → Hp → Prop) (h0 : ∃ m, W m σ H)
    (hs : ∀ R : L2.St → Hp → Prop, (∀ σ' H', Nd σ' H' → R σ' H') → ∀ m σ H, W m σ H → c σ H fun b H1 => if b = true then ∃ N : L2.St → Hp → Prop, (∀ σ' H', N σ' H' → ∃ m', m' < m ∧ W m' σ' H') ∧ tb { D' with nx := N, ct := N, bk := R } σ H1 else R σ H1)
    (hd : ∀ σ' H', Nd σ' H' → tz D' σ' H') : tSeq (tWhile c tb) tz D' σ H := ⟨W, h0, fun m σ H hw => hs (tz D') hd m σ H hw⟩
theorem q_asgW {te : TE} {tz : TS} {D' : Ends} {i : Nat} {σ : L2.St} {H : Hp} (Pv : V → Hp → Prop) (h : ∀ Q : VK, (∀ v H', Pv v H' → Q v H') → te σ H Q) (k : ∀ v H', Pv v H' → tz D' (σ.set i (some v)) H') : tSeq (tAsg te (gName i)) tz D' σ H := h _ k
/-- draw(state, n): a number from 0 to n - 1 -/
def SpDraw : Sp := fun vs H Q _ => ∃ (G : Hp) (s l c : Addr) (T n : Int), vs = [.ref s, .int n] ∧ Wd G H s l c T ∧ 0 < n ∧ n < 1073741824 ∧ T < 1000000000000 ∧
  ∀ r H', 0 ≤ r → r < n → Wd G H' s l c (T + 1) → StS [s, l, c] G H G H' → Q (.int r) H'
theorem st_get {i : Nat} {key : Str} {σ : L2.St} {H : Hp} {s : Addr} {kvs : List (Key × V)} {v : V} {Q : VK} (hσ : σ[i]? = some (some (.ref s))) (hd : H s = some (.dK kvs)) (hv : valV kvs (Sum.inr key) = some v) (q : Q v H) :
    tDGet (tVar i) (tC (.str key)) σ H Q := ⟨.ref s, hσ, s, v, rfl, by have := DGet.k (k := Sum.inr key) hd; rw [hv] at this; exact this, q⟩
theorem dp_ints {K : PySem.W.Frag} {H : Hp} {a : Addr} {ns : List Int} (h : H a = some (.lst (ns.map V.int))) : Dp K H (.ref a) (.list (ns.map PyData.int)) := by
  refine .lst (SqL.of h) ?_
  clear h
  induction ns with
  | nil => exact .nil
  | cons x ns ih => exact .cons (.int x) ih
theorem shaped_lI (a : List Int) : SeqAt.shaped (.list (a.map PyData.int)) = true := by
  unfold SeqAt.shaped
  rw [PyData.canLay0, canLay_ints, PyData.depth]
  have := depth_ints a
  simp
  omega
theorem eqv_nil (a : List Int) : PyData.eqv (.list (a.map PyData.int)) (.list []) = a.isEmpty := by
  rw [PyData.eqv]
  cases a <;> simp [PyData.eqvAll]
/-- xs != [] over a list of ints -/
theorem ne_nil {K : PySem.W.Frag} {H : Hp} {a : Addr} {ns : List Int} {σ : L2.St} {Q : VK} (h : H a = some (.lst (ns.map V.int))) (q : ∀ p, H p = none → Q (.bl (!ns.isEmpty)) (upd H p (.lst []))) :
    tLst tNil σ H fun y H2 => rNeD K (.ref a) y H2 Q := ⟨Nat.zero_le _, fun p hp => ⟨.list (ns.map PyData.int), .list [], dp_ints (by rw [upd_ne (ne_of_none h hp)]; exact h), .lst (SqL.of upd_same) .nil, shaped_lI ns, by decide +kernel, by
  rw [eqv_nil]; exact q p hp⟩⟩
abbrev s__law_draw : Stmt := top 35
abbrev s__law_begun : Stmt := top 34
abbrev s__law_pick : Stmt := top 36
section
variable {P : Program} {w : World} {mg : Str → Option Value} {base : Heap} {K : PySem.W.Frag}
/-- the state changed at s alone, or at s and l; all else as it was -/
theorem wd_upd {G H H' : Hp} {s l c : Addr} {T T' : Int} (x : Wd G H s l c T) (k : ∀ b o, b ≠ s → b ≠ l → H b = some o → H' b = some o) (st : StAt H' s l c T') : Wd G H' s l c T' ∧ StS [s, l, c] G H G H' := by
  have w' : Ex G H' := fun b o q => k b o (fun z => by rw [z, x.gs] at q; cases q) (fun z => by rw [z, x.gl] at q; cases q) (x.w b o q)
  refine ⟨⟨w', st, x.gs, x.gl, x.gc⟩, ⟨.refl G, fun b o hb q => k b o (fun z => hb (by simp [z])) (fun z => hb (by simp [z])) q, fun b hb q => ?_, w', fun b h _ => h⟩⟩
  obtain ⟨⟨o1, e1⟩, ⟨o2, e2⟩, o3, e3⟩ := st.at
  simp only [List.mem_cons, List.not_mem_nil, or_false] at hb
  rcases hb with z | z | z
  · rw [z, e1]; intro y; cases y
  · rw [z, e2]; intro y; cases y
  · rw [z, e3]; intro y; cases y
theorem ok__law_draw {f : Addr} {fd : FuncData} (Z : Zs mg) (F : Fun K "_law_draw" "_law_draw" s__law_draw f fd) : FnOk P w K mg base CX0 1 f fd ["state", "size_here"] SpDraw := by
  have sc : FnScope ["state", "size_here", "found", "turn", "cell", "mixed"] ["state", "size_here"] (defScope s__law_draw) := ⟨rfl, rfl, rfl, by decide +kernel, rfl, by decide +kernel, by decide +kernel⟩
  refine F.ok sc (fun vs H Q E h => ?_) (fun cdv A outer s H vs Q E hr h => ?_)
  · obtain ⟨G, s, l, c, T, n, rfl, _⟩ := h
    rfl
  · obtain ⟨G, s, l, c, T, n, rfl, wd, n1, n2, hT, k⟩ := h
    have hu := hu_of hr
    refine ⟨_, (pss_cons (ps_while PassesOwn.never (PW.pt (pw_and (pt_cmpR op_eq (pe_dget hu (pv 0) pe_str (fun _ _ => rfl)) pe_int (nomark _)) (pw_and1 (pt_cmpR (r := rNeD K) (op_neD hr.units) (pe_dget hu (pv 0) pe_str (fun _ _ => rfl)) (pe_lst pa_nil) (nomark _))))) (pss_one (ps_dput hu (pv 0) pe_str (pe_bm PySem.F.plainAttrs_list PySem.F.slot_list_pop PySem.F.type_list_pop mt_popAt (pe_dget hu (pv 0) pe_str (fun _ _ => rfl)) (pa_cons pe_int pa_nil)) rfl))) (pss_cons (ps_if (pt_cmpR op_gt (pe_dget hu (pv 0) pe_str (fun _ _ => rfl)) pe_int (nomark _)) (pss_cons (ps_set (i := 2) sc.nd rfl (Or.inl rfl) (pe_op op_mod (pe_callTy call_int1 (by rfl) Z.int (by decide +kernel) (pa_cons (pe_dget hu (pv 0) pe_str (fun _ _ => rfl)) pa_nil)) (pv 1))) (pss_cons (ps_dput hu (pv 0) pe_str (pe_op op_fdiv (pe_dget hu (pv 0) pe_str (fun _ _ => rfl)) (pv 1)) rfl) (pss_one (ps_ret (pv 2))))) pss_nil) (pss_cons (ps_set (i := 3) sc.nd rfl (Or.inl rfl) (pe_op op_add (pe_dget hu (pv 0) pe_str (fun _ _ => rfl)) pe_int)) (pss_cons (ps_dput hu (pv 0) pe_str (pv 3) rfl) (pss_cons (ps_set (i := 4) sc.nd rfl (Or.inl rfl) (pe_ifExp (pt_cmpR (r := rNeD K) (op_neD hr.units) (pe_dget hu (pv 0) pe_str (fun _ _ => rfl)) (pe_lst pa_nil) (nomark _)) (pe_ix (r := rIxL K) ix_list (pe_dget hu (pv 0) pe_str (fun _ _ => rfl)) (pe_op op_mod (pe_callTy call_int1 (by rfl) Z.int (by decide +kernel) (pa_cons (pv 3) pa_nil)) (pe_callB (r := rLenA K) call_len_seq (by rfl) Z.len PySem.boot_len (pa_cons (pe_dget hu (pv 0) pe_str (fun _ _ => rfl)) pa_nil))) (fun _ _ => rfl)) pe_int)) (pss_cons (ps_set (i := 5) sc.nd rfl (Or.inl rfl) (pe_op op_mod (pe_callTy call_int1 (by rfl) Z.int (by decide +kernel) (pa_cons (pe_op op_pow (pe_op op_add (pe_op op_add (pe_op op_mod (pe_callTy call_int1 (by rfl) Z.int (by decide +kernel) (pa_cons (pv 4) pa_nil)) pe_int) (pe_op op_mul pe_int (pv 3))) pe_int) pe_int) pa_nil)) pe_int)) (pss_one (ps_ret (pe_op op_mod (pe_callTy call_int1 (by rfl) Z.int (by decide +kernel) (pa_cons (pe_op op_fdiv (pe_op op_mod (pe_callTy call_int1 (by rfl) Z.int (by decide +kernel) (pa_cons (pe_op op_pow (pe_op op_add (pv 5) (pe_op op_mul pe_int (pv 3))) pe_int) pa_nil)) pe_int) pe_int) pa_nil)) (pv 1)))))))))), ?_⟩
    -- while left == 0 and large != []: left = large.pop(0)
    refine q_whileW (fun m σ H' => σ = [some (.ref s), some (.int n), none, none, none, none] ∧ Wd G H' s l c T ∧ StS [s, l, c] G H G H' ∧ ∃ (lg cs : List Int) (left turn : Int), lg.length = m ∧ H' s = some (.dK (stK l c left turn)) ∧ H' l = some (.lst (lg.map V.int)) ∧ H' c = some (.lst (cs.map V.int)) ∧ (∀ x ∈ lg, 0 ≤ x) ∧ (∀ x ∈ cs, 0 ≤ x) ∧ 0 ≤ left ∧ 0 ≤ turn ∧ turn ≤ T)
      (fun σ H' => σ = [some (.ref s), some (.int n), none, none, none, none] ∧ Wd G H' s l c T ∧ StS [s, l, c] G H G H') ?_ ?_ ?_
    · obtain ⟨lg, cs, left, turn, h⟩ := wd.st.ex
      exact ⟨lg.length, rfl, wd, .refl wd.w, lg, cs, left, turn, rfl, h⟩
    · rintro R hR m σ H1 ⟨rfl, wd1, ss1, lg, cs, left, turn, rfl, hs, hl, hc, plg, pcs, pl, pt, ptT⟩
      refine st_get rfl hs (v_left l c left turn) ?_
      refine ⟨rfl, _, rfl, ?_⟩
      refine ite2 (fun h0 => ?_) (fun h0 => ?_)
      · refine st_get rfl hs (v_large l c left turn) ?_
        refine ne_nil hl fun p hp => ⟨_, rfl, ?_⟩
        have e2 : Ex H1 (upd H1 p (.lst [])) := .new hp
        cases lg with
        | nil => exact iteF (hR _ _ ⟨rfl, wd1.stp (.old wd1.w e2), ss1.trans (Stp.old wd1.w e2).toS⟩)
        | cons x lg =>
          refine iteT ⟨fun σ H' => σ = [some (.ref s), some (.int n), none, none, none, none] ∧ Wd G H' s l c T ∧ StS [s, l, c] G H G H' ∧ ∃ (lg' cs : List Int) (left turn : Int), lg'.length = lg.length ∧ H' s = some (.dK (stK l c left turn)) ∧ H' l = some (.lst (lg'.map V.int)) ∧ H' c = some (.lst (cs.map V.int)) ∧ (∀ x ∈ lg', 0 ≤ x) ∧ (∀ x ∈ cs, 0 ≤ x) ∧ 0 ≤ left ∧ 0 ≤ turn ∧ turn ≤ T, ?_, ?_⟩
          · rintro σ' H' ⟨rfl, w1, w2, lg', cs, left, turn, e, h⟩
            exact ⟨lg.length, Nat.lt_succ_self _, rfl, w1, w2, lg', cs, left, turn, e, h⟩
          · refine st_get rfl (e2 _ _ hs) (v_large l c left turn) ?_
            have hl2 := e2 _ _ hl
            refine ⟨.inl ⟨rfl, _, SqL.of hl2⟩, l, (x :: lg).map V.int, 0, 0, .int x, rfl, rfl, hl2, by decide, by decide, (ixN_seq (by unfold ixN; rw [if_pos (by decide), if_pos (by simp)]; rfl)).1, rfl, ?_⟩
            obtain ⟨sl, sc'⟩ := wd1.st.apart
            have hs2 : upd (upd H1 p (.lst [])) l (.lst (((x :: lg).map V.int).eraseIdx 0)) s = some (.dK (stK l c left turn)) := by rw [upd_ne sl]; exact e2 _ _ hs
            refine ⟨.ref s, rfl, s, _, rfl, DPut.k (k := Sum.inr ("left" : Str)) hs2 (by show 4 < sizeLine; decide), ?_⟩
            rw [p_left]
            have px := plg x (List.mem_cons_self ..)
            have plg' : ∀ y ∈ lg, 0 ≤ y := fun y hy => plg y (List.mem_cons_of_mem _ hy)
            have f1 : upd (upd (upd H1 p (.lst [])) l (.lst (((x :: lg).map V.int).eraseIdx 0))) s (.dK (stK l c x turn)) s = some (.dK (stK l c x turn)) := upd_same
            have f2 : upd (upd (upd H1 p (.lst [])) l (.lst (((x :: lg).map V.int).eraseIdx 0))) s (.dK (stK l c x turn)) l = some (.lst (lg.map V.int)) := by rw [upd_ne sl.symm, upd_same]; rfl
            have f3 : upd (upd (upd H1 p (.lst [])) l (.lst (((x :: lg).map V.int).eraseIdx 0))) s (.dK (stK l c x turn)) c = some (.lst (cs.map V.int)) := by rw [upd_ne sc'.symm, upd_ne wd1.st.lc.symm]; exact e2 _ _ hc
            have st' : StAt (upd (upd (upd H1 p (.lst [])) l (.lst (((x :: lg).map V.int).eraseIdx 0))) s (.dK (stK l c x turn))) s l c T := ⟨⟨lg, cs, x, turn, f1, f2, f3, plg', pcs, px, pt, ptT⟩, wd1.st.lc⟩
            obtain ⟨wd3, ss3⟩ := wd_upd (wd1.stp (.old wd1.w e2)) (fun b o h1 h2 q => by rw [upd_ne h1, upd_ne h2]; exact q) st'
            exact ⟨rfl, wd3, (ss1.trans (Stp.old wd1.w e2).toS).trans ss3, lg, cs, x, turn, rfl, f1, f2, f3, plg', pcs, px, pt, ptT⟩
      · exact iteF (hR _ _ ⟨rfl, wd1, ss1⟩)
    rintro σ H2 ⟨rfl, wd2, ss2⟩
    obtain ⟨lg, cs, left, turn, hs, hl, hc, plg, pcs, pl, pt, ptT⟩ := wd2.st.ex
    refine st_get rfl hs (v_left l c left turn) ?_
    refine ⟨left, 0, rfl, rfl, _, rfl, ?_⟩
    obtain ⟨sl, sc'⟩ := wd2.st.apart
    refine ite2 (fun hpos => ?_) (fun hnp => ?_)
    · -- found = left % n; left = left // n; return found
      have hpos : 0 < left := of_decide_eq_true hpos
      refine st_get rfl hs (v_left l c left turn) ?_
      refine .inl ⟨left, rfl, .int n, rfl, left, n, rfl, rfl, n1, ?_⟩
      refine st_get rfl hs (v_left l c left turn) ?_
      refine ⟨.int n, rfl, left, n, rfl, rfl, ⟨n1, n2⟩, .ref s, rfl, s, _, rfl, DPut.k (k := Sum.inr ("left" : Str)) hs (by show 4 < sizeLine; decide), .int (left % n), rfl, ?_⟩
      rw [p_left]
      have st' : StAt (upd H2 s (.dK (stK l c (left / n) turn))) s l c (T + 1) :=
        ⟨⟨lg, cs, left / n, turn, upd_same, by rw [upd_ne sl.symm]; exact hl, by rw [upd_ne sc'.symm]; exact hc, plg, pcs, Int.ediv_nonneg pl (by omega), pt, by omega⟩, wd2.st.lc⟩
      obtain ⟨wd3, ss3⟩ := wd_upd wd2 (fun b o h1 _ q => by rw [upd_ne h1]; exact q) st'
      exact k _ _ (Int.emod_nonneg _ (by omega)) (Int.emod_lt_of_pos _ n1) wd3 (ss2.trans ss3)
    · -- turn = turn + 1; ..
      refine st_get rfl hs (v_turn l c left turn) ?_
      refine ⟨turn, 1, rfl, rfl, .int (turn + 1), rfl, .ref s, rfl, s, _, rfl, DPut.k (k := Sum.inr ("turn" : Str)) hs (by show 4 < sizeLine; decide), ?_⟩
      rw [p_turn]
      have hs3 : upd H2 s (.dK (stK l c left (turn + 1))) s = some (.dK (stK l c left (turn + 1))) := upd_same
      have hc3 : upd H2 s (.dK (stK l c left (turn + 1))) c = some (.lst (cs.map V.int)) := by rw [upd_ne sc'.symm]; exact hc
      have st' : StAt (upd H2 s (.dK (stK l c left (turn + 1)))) s l c (T + 1) :=
        ⟨⟨lg, cs, left, turn + 1, hs3, by rw [upd_ne sl.symm]; exact hl, hc3, plg, pcs, pl, by omega, by omega⟩, wd2.st.lc⟩
      obtain ⟨wd3, ss3⟩ := wd_upd wd2 (fun b o h1 _ q => by rw [upd_ne h1]; exact q) st'
      dsimp only
      refine q_asgW (fun v H4 => ∃ cell, v = .int cell ∧ 0 ≤ cell ∧ Wd G H4 s l c (T + 1) ∧ StS [s, l, c] G H G H4) (fun Q hQ => ?_) ?_
      · refine st_get rfl hs3 (v_cells l c left (turn + 1)) ?_
        refine ne_nil hc3 fun p hp => ⟨_, rfl, ?_⟩
        have e4 : Ex (upd H2 s (.dK (stK l c left (turn + 1)))) (upd (upd H2 s (.dK (stK l c left (turn + 1)))) p (.lst [])) := .new hp
        have wd4 := wd3.stp (.old wd3.w e4)
        have ss4 := (ss2.trans ss3).trans (Stp.old wd3.w e4).toS
        cases hcs : cs with
        | nil => exact iteF (hQ _ _ ⟨0, rfl, Int.le_refl _, wd4, ss4⟩)
        | cons x0 xs0 =>
          refine iteT ?_
          refine st_get rfl (e4 _ _ hs3) (v_cells l c left (turn + 1)) ?_
          refine ⟨.int (turn + 1), rfl, .inl ⟨turn + 1, rfl, ?_⟩⟩
          refine st_get rfl (e4 _ _ hs3) (v_cells l c left (turn + 1)) ?_
          refine ⟨c, cs.map V.int, rfl, .inl (SqL.of (e4 _ _ hc3)), ?_⟩
          have hn : (0 : Int) < ((cs.map V.int).length : Nat) := by rw [hcs]; simp
          refine ⟨turn + 1, _, rfl, rfl, hn, ?_⟩
          have a1 := Int.emod_nonneg (turn + 1) (show (((cs.map V.int).length : Nat) : Int) ≠ 0 by omega)
          have a2 := Int.emod_lt_of_pos (turn + 1) hn
          obtain ⟨j, hj⟩ := Int.eq_ofNat_of_zero_le a1
          rw [hj] at a2
          show rIxL K (V.ref c) (V.int ((turn + 1) % (((cs.map V.int).length : Nat) : Int))) _ Q
          rw [hj]
          have hjl : j < cs.length := by rw [List.length_map] at a2; omega
          have hg : (cs.map V.int)[j]? = some (V.int cs[j]) := by rw [List.getElem?_map, List.getElem?_eq_getElem hjl]; rfl
          exact ⟨c, cs.map V.int, _, _, rfl, rfl, SqL.of (e4 _ _ hc3), atI_nat hg, hQ _ _ ⟨_, rfl, pcs _ (List.getElem_mem hjl), wd4, ss4⟩⟩
      · rintro v H4 ⟨cell, rfl, hcell, wd4, ss4⟩
        have m1 := Int.emod_nonneg cell (show (2147483563 : Int) ≠ 0 by decide)
        have m2 := Int.emod_lt_of_pos cell (show (0 : Int) < 2147483563 by decide)
        refine ⟨.int cell, rfl, .inl ⟨cell, rfl, cell, 2147483563, rfl, rfl, (by show (0 : Int) < 2147483563; decide), .int (turn + 1), rfl, 40692, turn + 1, rfl, rfl, .inl ⟨by decide, by decide⟩, _, _, rfl, rfl, _, 24681, rfl, rfl, _, 3, rfl, rfl, ⟨by decide, by decide, by omega⟩, .inl ⟨_, rfl, _, 2147483629, rfl, rfl, (by show (0 : Int) < 2147483629; decide), ?_⟩⟩⟩
        have m3 := Int.emod_nonneg ((cell % 2147483563 + 40692 * (turn + 1) + 24681) ^ (3 : Int).toNat) (show (2147483629 : Int) ≠ 0 by decide)
        have m4 := Int.emod_lt_of_pos ((cell % 2147483563 + 40692 * (turn + 1) + 24681) ^ (3 : Int).toNat) (show (0 : Int) < 2147483629 by decide)
        obtain ⟨mixed, hm⟩ : ∃ m, m = (cell % 2147483563 + 40692 * (turn + 1) + 24681) ^ (3 : Int).toNat % 2147483629 := ⟨_, rfl⟩
        rw [← hm] at m3 m4
        refine ⟨.int mixed, (by rw [hm]; rfl), .int (turn + 1), rfl, 104917, turn + 1, rfl, rfl, .inl ⟨by decide, by decide⟩, _, _, rfl, rfl, _, 5, rfl, rfl, ⟨by decide, by decide, by omega⟩, .inl ⟨_, rfl, _, 2147483579, rfl, rfl, (by show (0 : Int) < 2147483579; decide), _, 29, rfl, rfl, ⟨by decide, by decide⟩, .inl ⟨_, rfl, .int n, rfl, _, n, rfl, rfl, n1, ?_⟩⟩⟩
        exact k _ _ (Int.emod_nonneg _ (by omega)) (Int.emod_lt_of_pos _ n1) wd4 ss4
/-- pick(state, several): one of several -/
def SpPick : Sp := fun vs H Q _ => ∃ (G : Hp) (s l c : Addr) (T : Int) (v1 : V) (ds : List D), vs = [.ref s, v1] ∧ Dq G v1 (.list ds) ∧ ds ≠ [] ∧ ds.length < 1000000 ∧ Wd G H s l c T ∧ T < 1000000000000 ∧
  ∀ v d H', d ∈ ds → Dq G v d → Wd G H' s l c (T + 1) → StS [s, l, c] G H G H' → Q v H'
theorem ok__law_pick {f : Addr} {fd : FuncData} (Z : Zs mg) (C__law_draw : Cal P w K mg base CX0 1 "_law_draw" ["state", "size_here"] SpDraw) (F : Fun K "_law_pick" "_law_pick" s__law_pick f fd) : FnOk P w K mg base CX0 2 f fd ["state", "several"] SpPick := by
  have sc : FnScope ["state", "several"] ["state", "several"] (defScope s__law_pick) := ⟨rfl, rfl, rfl, by decide +kernel, rfl, by decide +kernel, by decide +kernel⟩
  refine F.ok sc (fun vs H Q E h => ?_) (fun cdv A outer s H vs Q E hr h => ?_)
  · obtain ⟨G, s, l, c, T, v1, ds, rfl, _⟩ := h
    rfl
  · obtain ⟨G, s, l, c, T, v1, ds, rfl, hv1, hne, hlen, wd, hT, k⟩ := h
    refine ⟨_, (pss_one (ps_ret (pe_ix (r := rIxL K) ix_list (pv 1) (pe_cal C__law_draw (hr.mono (by decide)) pass0 (pa_cons (pv 0) (pa_cons (pe_callB (r := rLenA K) call_len_seq (by rfl) Z.len PySem.boot_len (pa_cons (pv 1) pa_nil)) pa_nil))) (fun _ _ => rfl)))), ?_⟩
    cases hv1 with
    | @lst a xs _ ha hxs =>
      have hl := hxs.len
      refine ⟨_, rfl, _, rfl, _, rfl, a, xs, rfl, .inl (SqL.of (wd.w _ _ ha)), G, s, l, c, T, (xs.length : Nat), rfl, wd, ?_, by omega, hT, fun r H' r1 r2 wd' ss => ?_⟩
      · have : ds.length ≠ 0 := fun e => hne (List.eq_nil_of_length_eq_zero e)
        omega
      · obtain ⟨j, rfl⟩ := Int.eq_ofNat_of_zero_le r1
        have hj : j < xs.length := by omega
        have hx : xs[j]? = some xs[j] := List.getElem?_eq_getElem hj
        obtain ⟨d, hd, hq⟩ := hxs.get hx
        exact ⟨a, xs, _, _, rfl, rfl, SqL.of (wd'.w _ _ ha), atI_nat hx, k _ d H' (List.mem_of_getElem? hd) hq wd' ss⟩
end
end Mv


namespace Mv
open PySem L2 Evl
theorem given_ints (n : Nat) (f : Nat → Bool) (g : Nat → Int) : given n f (fun i => .int (g i)) = (((List.range n).filter f).map g).map V.int := by
  unfold given
  rw [List.map_map]; rfl
theorem merge_st (l c : Addr) (x y : Int) : mergeK [] (stK l c x y) = stK l c x y := by
  unfold mergeK stK
  simp only [List.foldl]
  rw [putK_new _ valV_nil, List.nil_append, putK_new _ (show valV [(Sum.inr ("large" : Str), V.ref l)] (Sum.inr ("cells" : Str)) = none by rw [valV_neg ne1]; exact valV_nil)]
  simp only [List.cons_append, List.nil_append]
  rw [putK_new _ (show valV [(Sum.inr ("large" : Str), V.ref l), (Sum.inr ("cells" : Str), V.ref c)] (Sum.inr ("left" : Str)) = none by rw [valV_neg ne2, valV_neg ne4]; exact valV_nil)]
  simp only [List.cons_append, List.nil_append]
  rw [putK_new _ (show valV [(Sum.inr ("large" : Str), V.ref l), (Sum.inr ("cells" : Str), V.ref c), (Sum.inr ("left" : Str), V.int x)] (Sum.inr ("turn" : Str)) = none by rw [valV_neg ne3, valV_neg ne5, valV_neg ne6]; exact valV_nil)]
  rfl
/-- begun(script): the state, new -/
def SpBegun (K : PySem.W.Frag) : Sp := fun vs H Q _ => ∃ (G : Hp) (a : Addr) (ns : List Int), vs = [.ref a] ∧ Ex G H ∧ SqL K H a (ns.map V.int) ∧ ns.length ≤ 1000 ∧ ∀ s l c H', Wd G H' s l c 0 → Ex H H' → Q (.ref s) H'
section
variable {P : Program} {w : World} {mg : Str → Option Value} {base : Heap} {K : PySem.W.Frag}
theorem ok__law_begun {f : Addr} {fd : FuncData} (Z : Zs mg) (F : Fun K "_law_begun" "_law_begun" s__law_begun f fd) : FnOk P w K mg base CX0 1 f fd ["script"] (SpBegun K) := by
  have sc : FnScope ["script", "cells_here", "cell", "large"] ["script"] (defScope s__law_begun) := ⟨rfl, rfl, rfl, by decide +kernel, rfl, by decide +kernel, by decide +kernel⟩
  refine F.ok sc (fun vs H Q E h => ?_) (fun cdv A outer s H vs Q E hr h => ?_)
  · obtain ⟨G, a, ns, rfl, _⟩ := h
    rfl
  · obtain ⟨G, a, ns, rfl, wf, hS, hlen, k⟩ := h
    refine ⟨_, (pss_cons (ps_setLc (i := 1) (own := [("cell", 2)]) (g := gName 2) (tt := tYes) (by rfl) sc.nd rfl rfl (sw_true rfl rfl rfl (by decide +kernel)) (pi_list (pv 0)) (blkOk_by (N := ["script", "cells_here", "cell", "large"]) (sc := defScope s__law_begun) (by decide +kernel)) (fun _ _ _ _ _ => (pg_name (i := 2) sc.nd rfl (Or.inl rfl))) (fun _ _ _ _ _ => pts_nil) (fun _ _ _ _ _ => (pe_callB call_abs (by rfl) Z.abs (by decide +kernel) (pa_cons (pv 2) pa_nil)))) (pss_cons (ps_setLc (i := 3) (own := [("cell", 2)]) (g := gName 2) (tt := _) (by rfl) sc.nd rfl rfl (sw_true rfl rfl rfl (by decide +kernel)) (pi_list (pv 1)) (blkOk_by (N := ["script", "cells_here", "cell", "large"]) (sc := defScope s__law_begun) (by decide +kernel)) (fun _ _ _ _ _ => (pg_name (i := 2) sc.nd rfl (Or.inl rfl))) (fun _ _ _ _ _ => (pts_one (pt_cmpR op_ge (pv 2) (pe_op op_pow pe_int pe_int) (nomark _)))) (fun _ _ _ _ _ => (pe_op op_sub (pv 2) (pe_op op_pow pe_int pe_int)))) (pss_one (ps_ret (pe_disp (pps_cons pe_str (pv 3) (pps_cons pe_str (pv 1) (pps_cons pe_str pe_int (pps_cons pe_str pe_int pps_nil)))) (by rfl) (by rfl) (fun z => by cases z) (by decide)))))), ?_⟩
    have gi : ∀ {i : Nat} {x : V}, (ns.map V.int)[i]? = some x → x = .int (ns.getD i 0) := by
      intro i x hx
      rw [List.getElem?_map] at hx
      obtain ⟨y, hy, rfl⟩ := Option.map_eq_some_iff.mp hx
      (rw [List.getD_eq_getElem?_getD, hy]); rfl
    refine Evl.q_asgL (Evl.el_lcL (xs := ns.map V.int) (fun _ => true) (fun i => .int (if ns.getD i 0 < 0 then -(ns.getD i 0) else ns.getD i 0)) (Evl.ev_var rfl) hS (by rw [List.length_map]; omega) (fun _ => rfl) (fun i x H1 _ _ => fun H2 e Q q => q H2 (.refl H2)) (fun i x H1 _ hx _ => ?_)) fun c H1 hc0 e1 hc => ?_
    · rw [gi hx]
      exact fun H2 e Q q => ⟨_, rfl, _, rfl, q H2 (.refl H2)⟩
    rw [given_ints] at hc
    have hcs : ∀ x ∈ ((List.range (ns.map V.int).length).filter (fun _ => true)).map (fun i => if ns.getD i 0 < 0 then -(ns.getD i 0) else ns.getD i 0), 0 ≤ x := by
      intro x hx
      obtain ⟨i, _, rfl⟩ := List.mem_map.mp hx
      split <;> omega
    have hcl : (((List.range (ns.map V.int).length).filter (fun _ => true)).map (fun i => if ns.getD i 0 < 0 then -(ns.getD i 0) else ns.getD i 0)).length ≤ 1000 := by
      rw [List.length_map]
      refine Nat.le_trans (List.length_filter_le _ _) ?_
      rw [List.length_range, List.length_map]; exact hlen
    generalize ((List.range (ns.map V.int).length).filter (fun _ => true)).map (fun i => if ns.getD i 0 < 0 then -(ns.getD i 0) else ns.getD i 0) = cs at hc hcs hcl
    have gc : ∀ {i : Nat} {x : V}, (cs.map V.int)[i]? = some x → x = .int (cs.getD i 0) := by
      intro i x hx
      rw [List.getElem?_map] at hx
      obtain ⟨y, hy, rfl⟩ := Option.map_eq_some_iff.mp hx
      (rw [List.getD_eq_getElem?_getD, hy]); rfl
    refine Evl.q_asgL (Evl.el_lcL (xs := cs.map V.int) (fun i => decide (10 ^ 18 ≤ cs.getD i 0)) (fun i => .int (cs.getD i 0 - 10 ^ 18)) (Evl.ev_var rfl) (SqL.of hc) (by rw [List.length_map]; omega) (fun _ => rfl) (fun i x H2 _ hx => ?_) (fun i x H2 _ hx _ => ?_)) fun l H2 hl0 e2 hl => ?_
    · rw [gc hx]
      exact fun H3 e Q q => ⟨_, rfl, 10, 18, rfl, rfl, ⟨by decide, by decide, by decide⟩, cs.getD i 0, 10 ^ 18, rfl, rfl, _, rfl, q H3 (.refl H3)⟩
    · rw [gc hx]
      exact fun H3 e Q q => ⟨_, rfl, 10, 18, rfl, rfl, ⟨by decide, by decide, by decide⟩, cs.getD i 0, 10 ^ 18, rfl, rfl, q H3 (.refl H3)⟩
    rw [given_ints] at hl
    have hls : ∀ x ∈ ((List.range (cs.map V.int).length).filter (fun i => decide (10 ^ 18 ≤ cs.getD i 0))).map (fun i => cs.getD i 0 - 10 ^ 18), 0 ≤ x := by
      intro x hx
      obtain ⟨i, hi, rfl⟩ := List.mem_map.mp hx
      have := of_decide_eq_true (List.mem_filter.mp hi).2
      omega
    generalize ((List.range (cs.map V.int).length).filter (fun i => decide (10 ^ 18 ≤ cs.getD i 0))).map (fun i => cs.getD i 0 - 10 ^ 18) = lg at hl hls
    intro p hp
    have e3 : Ex H2 (upd H2 p (.dK [])) := .new hp
    refine ⟨.ref l, rfl, .ref c, rfl, upd_same, stK l c 0 0, rfl, by show 4 ≤ 15; decide, ?_⟩
    rw [merge_st]
    have hl3 : upd (upd H2 p (.dK [])) p (.dK (stK l c 0 0)) l = some (.lst (lg.map V.int)) := by
      rw [upd_ne (ne_of_none hl hp), upd_ne (ne_of_none hl hp)]; exact hl
    have hc2 : H2 c = some (.lst (cs.map V.int)) := e2 _ _ hc
    have hc3 : upd (upd H2 p (.dK [])) p (.dK (stK l c 0 0)) c = some (.lst (cs.map V.int)) := by
      rw [upd_ne (ne_of_none hc2 hp), upd_ne (ne_of_none hc2 hp)]; exact hc2
    have lc : l ≠ c := fun z => by rw [z] at hl0; rw [hc] at hl0; cases hl0
    have e4 : Ex H (upd (upd H2 p (.dK [])) p (.dK (stK l c 0 0))) := fun b o q => by
      have q2 := e2 _ _ (e1 _ _ q)
      rw [upd_ne (ne_of_none q2 hp), upd_ne (ne_of_none q2 hp)]; exact q2
    exact k p l c _ ⟨wf.trans e4, ⟨⟨lg, cs, 0, 0, upd_same, hl3, hc3, hls, hcs, Int.le_refl _, Int.le_refl _, Int.le_refl _⟩, lc⟩, fresh_back (wf.trans (e1.trans e2)) hp, fresh_back (wf.trans e1) hl0, fresh_back wf hc0⟩ e4
end
end Mv


namespace Mv
open PySem L2 Evl
section
variable {K : PySem.W.Frag} {σ : L2.St} {G G' H H' : Hp} {ta tb te tx : TE} {t u : TT} {d e z : D} {ds es : List D} {D' : Ends} {tu tz : TS}
/-- over range(lo, hi) -/
theorem d_lcR2 {ta : TA} {j : Nat} {vs : List Nat} {lo hi : Int} (n : Nat) (hn : (hi - lo).toNat = n) (p : Nat → Bool) (f : Nat → D) (h : EvS ta σ G [.int lo, .int hi]) (hb : -1000 ≤ lo ∧ lo ≤ 1000 ∧ -1000 ≤ hi ∧ hi ≤ 1000) (hw : ∀ x, wipe ((wipe σ vs).set j (some x)) vs = wipe σ vs)
    (ht : ∀ (i : Nat) G1, Ex G G1 → i < n → EvB t ((wipe σ vs).set j (some (.int (lo + (i : Int))))) G1 (p i)) (he : ∀ (i : Nat) G1, Ex G G1 → i < n → p i = true → EvD te ((wipe σ vs).set j (some (.int (lo + (i : Int))))) G1 (f i)) :
    EvD (tLc (iRng2 ta) (gName j) t te vs) σ G (.list (made p f (List.range n))) := fun G1 H1 x w Q q => h G1 H1 x w _ fun us G2 H2 s hv => by
  cases hv with
  | cons hv hn1 =>
    cases hn1 with
    | cons hv2 hn1 =>
      cases hn1
      cases hv
      cases hv2
      refine ⟨lo, hi, rfl, ⟨by omega, by omega, by omega, by omega⟩, fun Dl hD => ?_⟩
      rw [hn]
      refine lc_range (lo := lo) (n := n) (fun i H => Mk2 G2 H2 Dl (made p f ((List.range n).take i)) H) (Mk2.start s.w hD) (fun i H hi m => ?_) (fun H m => ?_)
      · refine ⟨hw _, ?_⟩
        have hdv : (List.range n)[i]? = some i := by rw [List.getElem?_range hi]
        refine Mk2.turn (b := p i) (d := f i) hD m ?_ (fun G3 e1 _ => (ht i G3 ((x.trans s.g).trans e1) hi)) (fun G3 e1 _ hp => (he i G3 ((x.trans s.g).trans e1) hi hp)) fun H3 m3 => ?_
        · have h1 := made_len p f ((List.range n).take i)
          rw [List.length_take, List.length_range] at h1
          rw [sizeLine_eq]; omega
        · rw [take_more hdv, made_snoc]; exact m3
      · have e : (List.range n).take n = List.range n := List.take_of_length_le (by rw [List.length_range]; exact Nat.le_refl _)
        rw [e] at m
        obtain ⟨G3, s3, h3⟩ := m.done hD
        exact q _ G3 H (s.trans s3) h3
theorem d_emp : EvD tDNewK σ G (.dict []) := fun G1 H1 x w Q q p hp => by
  have s := Stp.new (o := .dK []) w hp
  exact q _ _ _ s (.emp upd_same)
/-- a, b = e1, e2 -/
theorem q_par {i j : Nat} (h : EvD ta σ G d) (h2 : EvD tb σ G e) (w : Ex G H) (k : ∀ v u G1 H1, Stp G H G1 H1 → Dq G1 v d → Dq G1 u e → tz D' ((σ.set i (some v)).set j (some u)) H1) : tSeq (tPar i j (tCons ta (tCons tb tNil))) tz D' σ H :=
  h G H (.refl G) w _ fun v G1 H1 s hv => h2 G1 H1 s.g s.w _ fun u G2 H2 s2 hu => ⟨v, u, rfl, k v u G2 H2 (s.trans s2) (hv.mono s2.g) hu⟩
theorem s_par {i j : Nat} (h : EvD ta σ G d) (h2 : EvD tb σ G e) (w : Ex G H) (k : ∀ v u G1 H1, Stp G H G1 H1 → Dq G1 v d → Dq G1 u e → D'.nx ((σ.set i (some v)).set j (some u)) H1) : tPar i j (tCons ta (tCons tb tNil)) D' σ H :=
  q_par (tz := fun D => D.nx) h h2 w k
theorem q_forT {g : TG} {tl : TE} {as : List D} (h : EvD tl σ G (.tuple as)) (w : Ex G H) (Pv : Nat → L2.St → Hp → Prop) (h0 : ∀ G1 H1, Stp G H G1 H1 → Pv 0 σ G1)
    (hs : ∀ G1 H1, Stp G H G1 H1 → ∀ (i : Nat) v a σ' G2 H2, as[i]? = some a → Stp G1 H1 G2 H2 → Pv i σ' G2 → Dq G2 v a → g v σ' H2 fun σ2 H3 => tu { D' with nx := Nw G1 H1 Pv (i + 1), ct := Nw G1 H1 Pv (i + 1), bk := tz D' } σ2 H3)
    (hd : ∀ σ' G2 H2, Stp G H G2 H2 → Pv as.length σ' G2 → tz D' σ' H2) : tSeq (tFor (iTup K tl) g tu) tz D' σ H := s_forT (D' := { D' with nx := tz D' }) h w Pv h0 hs hd
theorem q_forL {g : TG} {tl : TE} {as : List D} (h : EvD tl σ G (.list as)) (w : Ex G H) (Pv : Nat → L2.St → Hp → Prop) (h0 : ∀ G1 H1, Stp G H G1 H1 → Pv 0 σ G1)
    (hs : ∀ G1 H1, Stp G H G1 H1 → ∀ (i : Nat) v a σ' G2 H2, as[i]? = some a → Stp G1 H1 G2 H2 → Pv i σ' G2 → Dq G2 v a → g v σ' H2 fun σ2 H3 => tu { D' with nx := Nw G1 H1 Pv (i + 1), ct := Nw G1 H1 Pv (i + 1), bk := tz D' } σ2 H3)
    (hd : ∀ σ' G2 H2, Stp G H G2 H2 → Pv as.length σ' G2 → tz D' σ' H2) : tSeq (tFor (iList K tl) g tu) tz D' σ H := s_forL (D' := { D' with nx := tz D' }) h w Pv h0 hs hd
theorem q_forR {ta : TA} {j : Nat} {n : Nat} (h : EvS ta σ G [.int (n : Int)]) (hz : n ≤ 1000000) (w : Ex G H) (Pv : Nat → L2.St → Hp → Prop) (h0 : ∀ G1 H1, Stp G H G1 H1 → Pv 0 σ G1)
    (hs : ∀ G1 H1, Stp G H G1 H1 → ∀ (i : Nat) σ' G2 H2, i < n → Stp G1 H1 G2 H2 → Pv i σ' G2 → tu { D' with nx := Nw G1 H1 Pv (i + 1), ct := Nw G1 H1 Pv (i + 1), bk := tz D' } (σ'.set j (some (.int (i : Int)))) H2)
    (hd : ∀ σ' G2 H2, Stp G H G2 H2 → Pv n σ' G2 → tz D' σ' H2) : tSeq (tFor (iRng1 ta) (gName j) tu) tz D' σ H := s_forR (D' := { D' with nx := tz D' }) h hz w Pv h0 hs hd
end

/-! ### the law's own defs -/
def stepF (line : List (List Int)) : List (List Int) := line.flatMap fun t => ((List.range 23).filter fun (i : Nat) => decide (prod t * (2 + (i : Int)) < 25)).map fun (i : Nat) => t ++ [2 + (i : Int)]
def linF : Nat → List (List Int)
  | 0 => [[]]
  | n + 1 => stepF (linF n)
def fndF : Nat → List (List Int)
  | 0 => []
  | n + 1 => fndF n ++ linF (n + 1)
def fewD : List (List Int) := fndF 4
def okB (n : List Int) : Bool := decide (1 ≤ n.length) && decide (n.length ≤ 4) && n.all (fun s => decide (2 ≤ s) && decide (s ≤ 24)) && decide (prod n ≤ 24)
theorem okB_ok {n : List Int} (h : okB n = true) : OkD n := by
  simp only [okB, Bool.and_eq_true, decide_eq_true_eq, List.all_eq_true] at h
  exact ⟨h.1.1.1, h.1.1.2, h.1.2, h.2⟩
theorem few_ok : fewD.all okB = true := by decide +kernel
theorem few_len : fewD.length ≤ 1000 := by decide +kernel
theorem lin_len : ((List.range 5).all fun i => decide ((linF i).length ≤ 200) && decide ((fndF i).length ≤ 800) && (linF i).all fun t => decide (t.length ≤ 4) && t.all fun s => decide (0 ≤ s) && decide (s ≤ 24)) = true := by decide +kernel
def R_law_few (ds : List D) (z : D) : Prop := ds = [] ∧ z = dL fewD
abbrev s__law_count : Stmt := top 38
abbrev s__law_places : Stmt := top 40
abbrev s__law_plus : Stmt := top 41
abbrev s__law_nothing : Stmt := top 43
abbrev s__law_total : Stmt := top 44
abbrev s__law_bad_dials : Stmt := top 48
section
variable {P : Program} {w : World} {mg : Str → Option Value} {base : Heap} {K : PySem.W.Frag}
theorem ok__law_count {f : Addr} {fd : FuncData} (F : Fun K "_law_count" "_law_count" s__law_count f fd) : FnOk P w K mg base CX0 1 f fd ["dials_here"] (SpR R_place_count) := by
  have sc : FnScope ["dials_here", "found", "size_here"] ["dials_here"] (defScope s__law_count) := ⟨rfl, rfl, rfl, by decide +kernel, rfl, by decide +kernel, by decide +kernel⟩
  refine F.ok sc (fun vs H Q E h => ?_) (fun cdv A outer s H vs Q E hr h => ?_)
  · obtain ⟨G, ds, z, _, hv, ⟨n, rfl, _⟩, _⟩ := h
    exact hv.len
  · obtain ⟨G, ds, z, wf, hv, ⟨n, rfl, hb, rfl⟩, k⟩ := h
    refine ⟨_, (pss_cons (ps_set (i := 1) sc.nd rfl (Or.inl rfl) pe_int) (pss_cons (ps_for PassesOwn.never rfl (pi_tup (pv 0)) (pg_name (i := 2) sc.nd rfl (Or.inl rfl)) (pss_one (ps_set (i := 1) sc.nd rfl (Or.inl rfl) (pe_op op_mul (pv 1) (pv 2))))) (pss_one (ps_ret (pv 1))))), ?_⟩
    cases hv with
    | @cons v0 vs d ds hv0 hn =>
      cases hn
      refine q_asg (G := G) (d_c (.int 1)) wf fun v1 G1 H1 s1 h1 => ?_
      cases h1
      refine s_forT (as := n.map PyData.int) (d_var rfl (hv0.mono s1.g)) s1.w (fun i σ G' => ∃ o, σ = [some v0, some (.int (prod (n.take i))), o]) (fun G2 H2 s2 => ⟨none, rfl⟩) ?_ ?_
      · rintro G2 H2 s2 i v a σ G3 H3 hi s3 ⟨o, rfl⟩ hq
        rw [List.getElem?_map] at hi
        obtain ⟨x, hx, rfl⟩ := Option.map_eq_some_iff.mp hi
        cases hq
        refine s_asg (G := G3) (i := 1) (d_op (d_var rfl (.int _)) (d_var rfl (.int x)) (opd_I (z := .int (prod (n.take i) * x)) (.inr (hb x (List.mem_of_getElem? hx))) fun _ => .int _)) s3.w fun v G4 H4 s4 hv => ?_
        cases hv
        exact ⟨G4, s3.trans s4, _, by unfold prod; rw [foldl_take _ _ hx]; rfl⟩
      · rintro σ G2 H2 s2 ⟨o, rfl⟩
        (rw [List.length_map, List.take_length])
        exact s_ret (G := G2) (d := .int (prod n)) (d_var rfl (.int _)) s2.w fun v G3 H3 s3 hv => k v G3 H3 ((s1.trans s2).trans s3) hv
theorem ok__law_nothing {f : Addr} {fd : FuncData} (Z : Zs mg) (F : Fun K "_law_nothing" "_law_nothing" s__law_nothing f fd) : FnOk P w K mg base CX0 1 f fd ["dials_here"] (SpR R_nothing_of) := by
  have sc : FnScope ["dials_here"] ["dials_here"] (defScope s__law_nothing) := ⟨rfl, rfl, rfl, by decide +kernel, rfl, by decide +kernel, by decide +kernel⟩
  refine F.ok sc (fun vs H Q E h => ?_) (fun cdv A outer s H vs Q E hr h => ?_)
  · obtain ⟨G, ds, z, _, hv, ⟨n, rfl, _⟩, _⟩ := h
    exact hv.len
  · obtain ⟨G, ds, z, wf, hv, ⟨n, rfl, h1, h2, rfl⟩, k⟩ := h
    refine ⟨_, (pss_one (ps_ret (pe_op (r := rRepA K) op_repA (pe_tup (pa_cons pe_int pa_nil)) (pe_callB (r := rLenA K) call_len_seq (by rfl) Z.len PySem.boot_len (pa_cons (pv 0) pa_nil))))), ?_⟩
    cases hv with
    | @cons v0 vs d ds hv0 hn =>
      cases hn
      refine s_ret (G := G) (d := dI (zeros n)) ?_ wf fun v G3 H3 s3 hv => k v G3 H3 s3 hv
      have e : dI (zeros n) = .tuple (List.replicate (n.map PyData.int).length [PyData.int 0]).flatten := by
        unfold dI zeros
        rw [List.length_map]
        congr 1
        induction n.length with
        | zero => rfl
        | succ m ih => rw [List.replicate_succ, List.replicate_succ, List.flatten_cons, List.map_cons, ih]; rfl
      rw [e]
      exact d_op (d_tup (a_cons (d_c (.int 0)) a_nil) (by decide)) (d_cb (a_cons (d_var rfl hv0) a_nil) cad_lenT) (opd_rep (by simp) (by rw [List.length_map]; exact h1) (by rw [List.length_map]; exact h2) (by decide))
theorem ok__law_plus {f : Addr} {fd : FuncData} (Z : Zs mg) (F : Fun K "_law_plus" "_law_plus" s__law_plus f fd) : FnOk P w K mg base CX0 1 f fd ["dials_here", "one", "other"] (SpR R_add) := by
  have sc : FnScope ["dials_here", "one", "other", "here", "there", "size_here"] ["dials_here", "one", "other"] (defScope s__law_plus) := ⟨rfl, rfl, rfl, by decide +kernel, rfl, by decide +kernel, by decide +kernel⟩
  refine F.ok sc (fun vs H Q E h => ?_) (fun cdv A outer s H vs Q E hr h => ?_)
  · obtain ⟨G, ds, z, _, hv, ⟨n, a, b, rfl, _⟩, _⟩ := h
    exact hv.len
  · obtain ⟨G, ds, z, wf, hv, ⟨n, a, b, rfl, h1, h2, h3, h4, rfl⟩, k⟩ := h
    refine ⟨_, (pss_one (ps_ret (pe_callTy (r := rTupOf K) call_tuple_of (by rfl) Z.tuple (by decide +kernel) (pa_cons (pe_lc (own := [("here", 3), ("there", 4), ("size_here", 5)]) (g := gTup K 3 (gCons (gName 3) (gCons (gName 4) (gCons (gName 5) gNil)))) (tt := tYes) (by rfl) sc.nd (pi_zip3 false false false (by rfl) Z.zip (pa_cons (pv 1) (pa_cons (pv 2) (pa_cons (pv 0) pa_nil)))) (blkOk_by (N := ["dials_here", "one", "other", "here", "there", "size_here"]) (sc := defScope s__law_plus) (by decide +kernel)) (fun _ _ _ _ _ => (pg_tup rfl (pgs_cons (pg_name (i := 3) sc.nd rfl (Or.inl rfl)) (pgs_cons (pg_name (i := 4) sc.nd rfl (Or.inl rfl)) (pgs_cons (pg_name (i := 5) sc.nd rfl (Or.inl rfl)) pgs_nil))))) (fun _ _ _ _ _ => pts_nil) (fun _ _ _ _ _ => (pe_op op_mod (pe_callTy call_int1 (by rfl) Z.int (by decide +kernel) (pa_cons (pe_op op_add (pv 3) (pv 4)) pa_nil)) (pv 5)))) pa_nil)))), ?_⟩
    cases hv with
    | @cons v0 vs d ds hv0 hn =>
      cases hn with
      | @cons v1 vs d ds hv1 hn =>
        cases hn with
        | @cons v2 vs d ds hv2 hn =>
          cases hn
          refine s_ret (G := G) (d := dI (addP n a b)) ?_ wf fun v G3 H3 s3 hv => k v G3 H3 s3 hv
          refine d_cb (a_cons ?_ a_nil) cad_tuple
          rw [← addP_D n a b h1 h2]
          refine d_lcZ3 (k1 := false) (k2 := false) (k3 := false) (as := a.map PyData.int) (bs := b.map PyData.int) (cs := n.map PyData.int) (fun _ => true) _ (a_cons (d_var rfl hv1) (a_cons (d_var rfl hv2) (a_cons (d_var rfl hv0) a_nil))) (by rw [List.length_map]; omega) (by simp only [List.length_map]; omega) (fun _ _ _ => rfl)
            (fun _ _ _ _ _ _ _ _ _ _ _ _ => b_yes) ?_
          rintro x y z da db dc G1 e1 hm hx hy hz _
          obtain ⟨i, j, s, rfl, rfl, rfl, hs⟩ := zip3_ints n a b h4 hm
          exact d_op (d_cb (a_cons (d_op (d_var rfl hx) (d_var rfl hy) (opd_I0 fun _ => .int (i + j))) a_nil) cad_int1) (d_var rfl hz) (opd_I hs fun _ => .int _)
theorem ok__law_total {f : Addr} {fd : FuncData} (C__law_nothing : Cal P w K mg base CX0 1 "_law_nothing" ["dials_here"] (SpR R_nothing_of)) (C__law_plus : Cal P w K mg base CX0 1 "_law_plus" ["dials_here", "one", "other"] (SpR R_add)) (F : Fun K "_law_total" "_law_total" s__law_total f fd) : FnOk P w K mg base CX0 2 f fd ["dials_here", "several"] (SpR R_add_up) := by
  have sc : FnScope ["dials_here", "several", "found", "place_here"] ["dials_here", "several"] (defScope s__law_total) := ⟨rfl, rfl, rfl, by decide +kernel, rfl, by decide +kernel, by decide +kernel⟩
  refine F.ok sc (fun vs H Q E h => ?_) (fun cdv A outer s H vs Q E hr h => ?_)
  · obtain ⟨G, ds, z, _, hv, ⟨n, l, rfl, _⟩, _⟩ := h
    exact hv.len
  · obtain ⟨G, ds, z, wf, hv, ⟨n, l, rfl, h1, h2, h3, h4, rfl⟩, k⟩ := h
    refine ⟨_, (pss_cons (ps_set (i := 2) sc.nd rfl (Or.inl rfl) (pe_cal C__law_nothing (hr.mono (by decide)) pass0 (pa_cons (pv 0) pa_nil))) (pss_cons (ps_for PassesOwn.never rfl (pi_list (pv 1)) (pg_name (i := 3) sc.nd rfl (Or.inl rfl)) (pss_one (ps_set (i := 2) sc.nd rfl (Or.inl rfl) (pe_cal C__law_plus (hr.mono (by decide)) pass0 (pa_cons (pv 0) (pa_cons (pv 2) (pa_cons (pv 3) pa_nil))))))) (pss_one (ps_ret (pv 2))))), ?_⟩
    cases hv with
    | @cons v0 vs d ds hv0 hnil =>
      cases hnil with
      | @cons v1 vs d ds hv1 hnil =>
        cases hnil
        refine q_asg (G := G) (d := dI (zeros n)) (d_cal (a_cons (d_var rfl hv0) a_nil) ⟨n, rfl, h1, h2, rfl⟩) wf fun v2 G1 H1 s1 hz => ?_
        refine s_forL (as := l.map dI) (d_var rfl (hv1.mono s1.g)) s1.w (fun i σ G' => ∃ v o, σ = [some v0, some v1, some v, o] ∧ Dq G' v0 (dI n) ∧ Dq G' v (dI (addUp n (l.take i)))) (fun G2 H2 s2 => ⟨v2, none, rfl, hv0.mono (s1.g.trans s2.g), hz.mono s2.g⟩) ?_ ?_
        · rintro G2 H2 s2 i v a σ G3 H3 hi s3 ⟨vf, o, rfl, hv0', hf⟩ hq
          rw [List.getElem?_map] at hi
          obtain ⟨x, hx, rfl⟩ := Option.map_eq_some_iff.mp hi
          have hx2 := h4 x (List.mem_of_getElem? hx)
          refine s_asg (G := G3) (d := dI (addUp n (l.take (i + 1)))) (i := 2) ?_ s3.w fun v G4 H4 s4 hv => ⟨G4, s3.trans s4, v, _, rfl, hv0'.mono s4.g, hv⟩
          refine d_cal (a_cons (d_var rfl hv0') (a_cons (d_var rfl hf) (a_cons (d_var rfl hq) a_nil))) ⟨n, addUp n (l.take i), x, rfl, addUp_len fun p hp => h4 p (List.mem_of_mem_take hp), hx2, h2, h3, ?_⟩
          unfold addUp
          rw [foldl_take _ _ hx]
        · rintro σ G2 H2 s2 ⟨vf, o, rfl, _, hf⟩
          rw [List.length_map, List.take_length] at hf
          exact s_ret (G := G2) (d_var rfl hf) s2.w fun v G3 H3 s3 hv => k v G3 H3 ((s1.trans s2).trans s3) hv
theorem ok__law_places {f : Addr} {fd : FuncData} (Z : Zs mg) (F : Fun K "_law_places" "_law_places" s__law_places f fd) : FnOk P w K mg base CX0 1 f fd ["dials_here"] (SpR R_all_places) := by
  have sc : FnScope ["dials_here", "found", "size_here", "more", "row", "item"] ["dials_here"] (defScope s__law_places) := ⟨rfl, rfl, rfl, by decide +kernel, rfl, by decide +kernel, by decide +kernel⟩
  refine F.ok sc (fun vs H Q E h => ?_) (fun cdv A outer s H vs Q E hr h => ?_)
  · obtain ⟨G, ds, z, _, hv, ⟨n, rfl, _⟩, _⟩ := h
    exact hv.len
  · obtain ⟨G, ds, z, wf, hv, ⟨n, rfl, hn, rfl⟩, k⟩ := h
    refine ⟨_, (pss_cons (ps_set (i := 1) sc.nd rfl (Or.inl rfl) (pe_lst (pa_cons (pe_tup pa_nil) pa_nil))) (pss_cons (ps_for PassesOwn.never rfl (pi_tup (pv 0)) (pg_name (i := 2) sc.nd rfl (Or.inl rfl)) (pss_cons (ps_set (i := 3) sc.nd rfl (Or.inl rfl) (pe_lst pa_nil)) (pss_cons (ps_for PassesOwn.never rfl (pi_list (pv 1)) (pg_name (i := 4) sc.nd rfl (Or.inr rfl)) (pss_one (ps_set (i := 3) sc.nd rfl (Or.inl rfl) (pe_op op_cat (pv 3) (pe_lc (own := [("item", 5)]) (g := gName 5) (tt := tYes) (by rfl) sc.nd (pi_range1 (by rfl) Z.range (pa_cons (pv 2) pa_nil)) (blkOk_by (N := ["dials_here", "found", "size_here", "more", "row", "item"]) (sc := defScope s__law_places) (by decide +kernel)) (fun _ _ _ _ _ => (pg_name (i := 5) sc.nd rfl (Or.inl rfl))) (fun _ _ _ _ _ => pts_nil) (fun _ _ _ _ _ => (pe_op (r := rCatA K) op_catA (pv 4) (pe_tup (pa_cons (pv 5) pa_nil))))))))) (pss_one (ps_set (i := 1) sc.nd rfl (Or.inl rfl) (pv 3)))))) (pss_one (ps_ret (pv 1))))), ?_⟩
    cases hv with
    | @cons v0 vs d ds hv0 hnil =>
      cases hnil
      refine q_asg (G := G) (d := dL [[]]) (d_lst (a_cons (d_tup a_nil (by decide)) a_nil) (by decide)) wf fun v1 G1 H1 s1 h1 => ?_
      refine s_forT (as := n.map PyData.int) (d_var rfl (hv0.mono s1.g)) s1.w (fun i σ G' => ∃ v o1 o2 o3, σ = [some v0, some v, o1, o2, o3, none] ∧ Dq G' v (dL (placesOf (n.take i)))) (fun G2 H2 s2 => ⟨v1, none, none, none, rfl, h1.mono s2.g⟩) ?_ ?_
      · rintro G2 H2 s2 i v a σ G3 H3 hi s3 ⟨vf, o1, o2, o3, rfl, hf⟩ hq
        rw [List.getElem?_map] at hi
        obtain ⟨x, hx, rfl⟩ := Option.map_eq_some_iff.mp hi
        cases hq
        have hx2 := hn.sz x (List.mem_of_getElem? hx)
        have ex : ((x.toNat : Nat) : Int) = x := Int.toNat_of_nonneg (by omega)
        have hl := hn.pl i
        have e2 : placesOf (n.take (i + 1)) = grow (placesOf (n.take i)) x := by unfold placesOf; rw [foldl_take _ _ hx]
        refine q_asg (G := G3) (d := dL []) (i := 3) (d_lst a_nil (by decide)) s3.w fun vm G4 H4 s4 hm => ?_
        refine q_forL (as := (placesOf (n.take i)).map dI) (d_var rfl (hf.mono s4.g)) s4.w (fun j σ G' => ∃ vm o3, σ = [some v0, some vf, some (.int x), some vm, o3, none] ∧ Dq G' vm (dL (grow ((placesOf (n.take i)).take j) x))) (fun G5 H5 s5 => ⟨vm, o3, rfl, hm.mono s5.g⟩) ?_ ?_
        · rintro G5 H5 s5 j v a σ G6 H6 hj s6 ⟨vm, o3, rfl, hm'⟩ hq
          rw [List.getElem?_map] at hj
          obtain ⟨b, hb, rfl⟩ := Option.map_eq_some_iff.mp hj
          have hbl := places_in b (List.mem_of_getElem? hb)
          refine s_asg (G := G6) (d := dL (grow ((placesOf (n.take i)).take (j + 1)) x)) (i := 3) ?_ s6.w fun v G7 H7 s7 hv => ⟨G7, s6.trans s7, v, _, rfl, hv⟩
          have eg : dL (grow ((placesOf (n.take i)).take (j + 1)) x) = .list ((grow ((placesOf (n.take i)).take j) x).map dI ++ made (fun _ => true) (fun (q : Nat) => PyData.tuple (b.map PyData.int ++ [PyData.int (q : Int)])) (List.range x.toNat)) := by
            unfold dL grow made
            rw [take_more hb, List.flatMap_append, List.map_append]
            congr 2
            rw [List.filter_eq_self.mpr (fun _ _ => rfl), List.flatMap_cons, List.flatMap_nil, List.append_nil, List.map_map]
            refine List.map_congr_left fun q _ => ?_
            show dI (b ++ [(q : Int)]) = _
            unfold dI
            rw [List.map_append]; rfl
          rw [eg]
          have gl := grow_len ((placesOf (n.take i)).take j) x
          have h24 : ((placesOf (n.take i)).take j).length * x.toNat ≤ 24 * 24 := Nat.mul_le_mul (by rw [List.length_take]; omega) (by omega)
          refine d_op (d_var rfl hm') (d_lcR (n := x.toNat) (fun _ => true) _ (a_cons (d_var rfl (by rw [ex]; exact .int x)) a_nil) (by omega) (fun _ => rfl) (fun _ _ _ _ => b_yes) (fun q G7 e7 hq7 _ => ?_)) (opd_cat ?_)
          · refine d_op (d_var rfl (hq.mono e7)) (d_tup (a_cons (d_var rfl (.int (q : Int))) a_nil) (by show 1 ≤ sizeLine; decide)) (opd_catT ?_)
            rw [List.length_map, hbl, List.length_take, sizeLine_eq]
            have := hn.hi
            show _ + 1 ≤ _
            omega
          · have h1 := made_len (fun (_ : Nat) => true) (fun (q : Nat) => PyData.tuple (b.map PyData.int ++ [PyData.int (q : Int)])) (List.range x.toNat)
            rw [List.length_range] at h1
            rw [List.length_map, gl, sizeLine_eq]
            omega
        · rintro σ G5 H5 s5 ⟨vm, o3, rfl, hm'⟩
          rw [List.length_map, List.take_length, ← e2] at hm'
          exact s_asg (G := G5) (i := 1) (d_var rfl hm') s5.w fun v G6 H6 s6 hv => ⟨G6, ((s3.trans s4).trans s5).trans s6, v, _, _, _, rfl, hv⟩
      · rintro σ G2 H2 s2 ⟨vf, o1, o2, o3, rfl, hf⟩
        rw [List.length_map, List.take_length] at hf
        exact s_ret (G := G2) (d_var rfl hf) s2.w fun v G3 H3 s3 hv => k v G3 H3 ((s1.trans s2).trans s3) hv
end
end Mv


namespace Mv
open PySem L2 Evl
theorem lay_sub {as : List D} (h : PyData.canLayAll0 as = true) : ∀ {bs : List D}, (∀ b ∈ bs, b ∈ as) → PyData.canLayAll0 bs = true
  | [], _ => rfl
  | b :: bs, k => by
    rw [PyData.canLayAll0, PyData.canLay0_of_mem as b h (k b (List.mem_cons_self ..)), lay_sub h fun x hx => k x (List.mem_cons_of_mem _ hx)]; rfl
theorem deep_sub {as : List D} : ∀ {bs : List D}, (∀ b ∈ bs, b ∈ as) → PyData.depthAll bs ≤ PyData.depthAll as
  | [], _ => by rw [PyData.depthAll]; omega
  | b :: bs, k => by
    rw [PyData.depthAll]
    have h1 := PyData.depth_le_depthAll as b (k b (List.mem_cons_self ..))
    have h2 := deep_sub (as := as) (bs := bs) fun x hx => k x (List.mem_cons_of_mem _ hx)
    omega
theorem shaped_sub {as bs : List D} (h : SeqAt.shaped (.list as) = true) (k : ∀ b ∈ bs, b ∈ as) : SeqAt.shaped (.list bs) = true := by
  unfold SeqAt.shaped at h ⊢
  rw [Bool.and_eq_true, decide_eq_true_eq, PyData.canLay0, PyData.depth] at h
  rw [Bool.and_eq_true, decide_eq_true_eq, PyData.canLay0, PyData.depth]
  exact ⟨lay_sub h.1 k, Nat.le_trans (Nat.add_le_add_right (deep_sub k) 1) h.2⟩
theorem flat_sub {as : List D} (h : flatDs as = true) : ∀ {bs : List D}, (∀ b ∈ bs, b ∈ as) → flatDs bs = true := by
  have all : ∀ {as : List D}, flatDs as = true → ∀ x ∈ as, flatD x = true := by
    intro as
    induction as with
    | nil => intro _ x hx; cases hx
    | cons a as ih =>
      intro h x hx
      rw [flatDs, Bool.and_eq_true] at h
      rcases List.mem_cons.mp hx with e | e
      · rw [e]; exact h.1
      · exact ih h.2 x e
  intro bs
  induction bs with
  | nil => intro _; rfl
  | cons b bs ih =>
    intro k
    rw [flatDs, Bool.and_eq_true]
    exact ⟨all h b (k b (List.mem_cons_self ..)), ih fun x hx => k x (List.mem_cons_of_mem _ hx)⟩
theorem eqv_nilD (a : List D) : PyData.eqv (.list a) (.list []) = a.isEmpty := by
  rw [PyData.eqv]
  cases a <;> simp [PyData.eqvAll]
theorem opd_U {G : Hp} (n : Int) : UnD (rU fun i => .int (-i)) G (.int n) (.int (-n)) := fun x G1 H1 a b hx Q q => by
  cases hx
  exact ⟨n, rfl, q _ G1 H1 (.refl b) (.int _)⟩
theorem ne_nilD {K : PySem.W.Frag} {G H : Hp} {a : Addr} {xs : List V} {ds : List D} {σ : L2.St} {Q : VK} (h : H a = some (.lst xs)) (w : Ex G H) (hx : DqA G xs ds) (fl : flatDs ds = true) (sh : SeqAt.shaped (.list ds) = true) (q : ∀ p, H p = none → Q (.bl (!ds.isEmpty)) (upd H p (.lst []))) :
    tLst tNil σ H fun y H2 => rNeD K (.ref a) y H2 Q := ⟨Nat.zero_le _, fun p hp => ⟨.list ds, .list [], .lst (SqL.of (by rw [upd_ne (ne_of_none h hp)]; exact h)) (dpAll_of (w.trans (.new hp)) hx fl), .lst (SqL.of upd_same) .nil, sh, by decide +kernel, by
  rw [eqv_nilD]; exact q p hp⟩⟩
/-- a write to what is new and not known -/
theorem StS.mut {S : List Addr} {G H G' H' : Hp} {p : Addr} {o : HO} (a : StS S G H G' H') (hp : H p = none) (gp : G' p = none) : StS S G H G' (upd H' p o) := by
  have np : ∀ {b : Addr} {u : HO}, H b = some u → b ≠ p := fun e z => by rw [z, hp] at e; cases e
  refine ⟨a.g, fun b u hb q => by rw [upd_ne (np q)]; exact a.h b u hb q, fun b hb q => ?_, fun b u q => ?_, a.n⟩
  · by_cases e : b = p
    · rw [e, upd_same]; intro z; cases z
    · rw [upd_ne e]; exact a.k b hb q
  · have e : b ≠ p := fun z => by rw [z, gp] at q; cases q
    rw [upd_ne e]; exact a.w b u q
theorem Wd.mut {G H : Hp} {s l c p : Addr} {T : Int} {o : HO} (a : Wd G H s l c T) (gp : G p = none) (e1 : p ≠ s) (e2 : p ≠ l) (e3 : p ≠ c) : Wd G (upd H p o) s l c T := by
  obtain ⟨⟨⟨lg, cs, left, turn, h1, h2, h3, h⟩, q⟩, _⟩ := id (And.intro a.st trivial)
  refine ⟨fun b u q => ?_, ⟨⟨lg, cs, left, turn, by rw [upd_ne e1.symm]; exact h1, by rw [upd_ne e2.symm]; exact h2, by rw [upd_ne e3.symm]; exact h3, h⟩, q⟩, a.gs, a.gl, a.gc⟩
  have e : b ≠ p := fun z => by rw [z, gp] at q; cases q
  rw [upd_ne e]; exact a.w b u q
def SpMix : Sp := fun vs H Q _ => ∃ (G : Hp) (s l c : Addr) (T : Int) (v1 : V) (as : List D), vs = [.ref s, v1] ∧ Dq G v1 (.list as) ∧ SeqAt.shaped (.list as) = true ∧ flatDs as = true ∧ as.length < 1000000 ∧ Wd G H s l c T ∧ T + (as.length : Int) < 1000000000000 ∧
  ∀ v bs G' H', (∀ b ∈ bs, b ∈ as) → bs.length = as.length → Wd G' H' s l c (T + (as.length : Int)) → StS [s, l, c] G H G' H' → Dq G' v (.list bs) → Q v H'
section
variable {P : Program} {w : World} {mg : Str → Option Value} {base : Heap} {K : PySem.W.Frag}
/-- what is picked is no dials -/
def SpBad : Sp := fun vs H Q _ => ∃ (G : Hp) (s l c : Addr) (T : Int), vs = [.ref s] ∧ Wd G H s l c T ∧ T < 1000000000000 ∧
  ∀ v d G' H', isDials d = false → Wd G' H' s l c (T + 1) → StS [s, l, c] G H G' H' → Dq G' v d → Q v H'
def badD : List D := [.none, .tuple [], .list [.int 2, .int 3], .tuple [.int 1, .int 3], .tuple [.int 0], .tuple [.int 25], .tuple [.int 5, .int 5], .tuple [.int 2, .int 2, .int 2, .int 2, .int 2], .tuple [.bool true, .int 3], .str ("23" : Str), .int 6, .tuple [.int (-2)], .dict []]
theorem ok__law_bad_dials {f : Addr} {fd : FuncData} (C__law_pick : Cal P w K mg base CX0 2 "_law_pick" ["state", "several"] SpPick) (F : Fun K "_law_bad_dials" "_law_bad_dials" s__law_bad_dials f fd) : FnOk P w K mg base CX0 3 f fd ["state"] SpBad := by
  have sc : FnScope ["state"] ["state"] (defScope s__law_bad_dials) := ⟨rfl, rfl, rfl, by decide +kernel, rfl, by decide +kernel, by decide +kernel⟩
  refine F.ok sc (fun vs H Q E h => ?_) (fun cdv A outer s0 H vs Q E hr h => ?_)
  · obtain ⟨G, s, l, c, T, rfl, _⟩ := h
    rfl
  · obtain ⟨G, s, l, c, T, rfl, wd, hT, k⟩ := h
    refine ⟨_, (pss_one (ps_ret (pe_cal C__law_pick (hr.mono (by decide)) pass0 (pa_cons (pv 0) (pa_cons (pe_lst (pa_cons pe_non (pa_cons (pe_tup pa_nil) (pa_cons (pe_lst (pa_cons pe_int (pa_cons pe_int pa_nil))) (pa_cons (pe_tup (pa_cons pe_int (pa_cons pe_int pa_nil))) (pa_cons (pe_tup (pa_cons pe_int pa_nil)) (pa_cons (pe_tup (pa_cons pe_int pa_nil)) (pa_cons (pe_tup (pa_cons pe_int (pa_cons pe_int pa_nil))) (pa_cons (pe_tup (pa_cons pe_int (pa_cons pe_int (pa_cons pe_int (pa_cons pe_int (pa_cons pe_int pa_nil)))))) (pa_cons (pe_tup (pa_cons pe_bl (pa_cons pe_int pa_nil))) (pa_cons pe_str (pa_cons pe_int (pa_cons (pe_tup (pa_cons (pe_un un_neg pe_int) pa_nil)) (pa_cons pe_dnewK pa_nil)))))))))))))) pa_nil))))), ?_⟩
    refine ⟨.ref s, rfl, ?_⟩
    have i (n : Int) (σ : L2.St) : EvD (tC (.int n)) σ G (.int n) := d_c (.int n)
    have ev : EvD (tLst (tCons (tC .non) (tCons (tTup tNil) (tCons (tLst (tCons (tC (.int 2)) (tCons (tC (.int 3)) tNil))) (tCons (tTup (tCons (tC (.int 1)) (tCons (tC (.int 3)) tNil))) (tCons (tTup (tCons (tC (.int 0)) tNil)) (tCons (tTup (tCons (tC (.int 25)) tNil)) (tCons (tTup (tCons (tC (.int 5)) (tCons (tC (.int 5)) tNil))) (tCons (tTup (tCons (tC (.int 2)) (tCons (tC (.int 2)) (tCons (tC (.int 2)) (tCons (tC (.int 2)) (tCons (tC (.int 2)) tNil)))))) (tCons (tTup (tCons (tC (.bl true)) (tCons (tC (.int 3)) tNil))) (tCons (tC (.str ("23" : Str))) (tCons (tC (.int 6)) (tCons (tTup (tCons (tUn (rU fun i => .int (-i)) (tC (.int 2))) tNil)) (tCons tDNewK tNil)))))))))))))) [some (.ref s)] G (.list badD) :=
      d_lst (a_cons (d_c .non) (a_cons (d_tup a_nil (by decide)) (a_cons (d_lst (a_cons (i 2 _) (a_cons (i 3 _) a_nil)) (by show 2 ≤ sizeLine; decide)) (a_cons (d_tup (a_cons (i 1 _) (a_cons (i 3 _) a_nil)) (by show 2 ≤ sizeLine; decide)) (a_cons (d_tup (a_cons (i 0 _) a_nil) (by show 1 ≤ sizeLine; decide)) (a_cons (d_tup (a_cons (i 25 _) a_nil) (by show 1 ≤ sizeLine; decide)) (a_cons (d_tup (a_cons (i 5 _) (a_cons (i 5 _) a_nil)) (by show 2 ≤ sizeLine; decide))
        (a_cons (d_tup (a_cons (i 2 _) (a_cons (i 2 _) (a_cons (i 2 _) (a_cons (i 2 _) (a_cons (i 2 _) a_nil))))) (by show 5 ≤ sizeLine; decide)) (a_cons (d_tup (a_cons (d_c (.bl true)) (a_cons (i 3 _) a_nil)) (by show 2 ≤ sizeLine; decide)) (a_cons (d_c (.str _)) (a_cons (i 6 _) (a_cons (d_tup (a_cons (d_un (d := .int 2) (i 2 _) (opd_U 2)) a_nil) (by show 1 ≤ sizeLine; decide)) (a_cons d_emp a_nil))))))))))))) (by show 13 ≤ sizeLine; decide)
    refine ev G H (.refl G) wd.w _ fun v G1 H1 s1 hv => ?_
    refine ⟨G1, s, l, c, T, v, badD, rfl, hv, List.cons_ne_nil _ _, by show 13 < 1000000; decide, wd.stp s1, hT, fun u d H2 hd hq wd2 ss2 => ?_⟩
    refine k u d G1 H2 ?_ wd2 (s1.toS.trans ss2) hq
    have hall : badD.all (fun d => !isDials d) = true := by decide +kernel
    have := List.all_eq_true.mp hall d hd
    simpa using this
end
end Mv


namespace Mv
open PySem PySem.Spec L2 PyProof.Rows

/-! ### an exception that was caught and is kept -/
/-- at a stands an exception of the class cls, with the dict d -/
def CauO (cls : Value) (d : Option Addr) (a : Addr) : HO := .ext fun h => ∃ (oe : Obj) (vs : Array Value), h.get? a = some oe ∧ Zc cls d oe ∧ oe.data = .fields vs
section
variable {X : Cx} {pins : List (Addr × Obj)} {σ : L2.St} {H : Hp} {s : Shared} {a : Addr} {oe : Obj}
theorem suite_pins (J : Inv (X.suite a ((a, oe) :: (X.pn ++ pins))) [] σ H s) (ok : X.Ok) : Inv X ((a, oe) :: pins) σ H s := by
  refine ⟨ok, J.os, J.bare, J.base, J.loc, J.cell, J.free, J.freeC, fun q hq => J.pin q ?_, J.hok, J.len⟩
  show q ∈ ((a, oe) :: (X.pn ++ pins)) ++ []
  rw [List.append_nil]
  rcases List.mem_append.mp hq with z | z
  · exact List.mem_cons_of_mem _ (List.mem_append_left _ z)
  · rcases (List.mem_cons.mp z) with z | z
    · rw [z]; exact List.mem_cons_self ..
    · exact List.mem_cons_of_mem _ (List.mem_append_right _ z)
/-- from now on it is tracked -/
theorem keep_exc {cls : Value} {d : Option Addr} (J : Inv X ((a, oe) :: pins) σ H s) (z : Zc cls d oe) (hd : ∃ vs, oe.data = .fields vs) (newAt : X.s_0.heap.get? a = none) (np : ∀ q ∈ X.pn ++ pins, q.1 ≠ a) : Inv X pins σ (upd H a (CauO cls d a)) s := by
  obtain ⟨vs, hv⟩ := hd
  obtain ⟨ga, na, nl, nfs, ncell⟩ := J.pin (a, oe) (List.mem_append_right _ (List.mem_cons_self ..))
  have stay : ∀ {b : Addr}, b ≠ a → upd H a (CauO cls d a) b = H b := fun e => upd_ne e
  have old : ∀ {b : Addr} {u : HO}, H b = some u → upd H a (CauO cls d a) b = some u := fun e => (upd_ne (ne_of_none e na)).trans e
  refine ⟨J.ok, J.os, J.bare, ⟨J.base.keep, J.base.slot, fun b o q n x => ?_, J.base.there, fun b xs q => old (J.base.tups b xs q), fun b o u q => old (J.base.frzs b o u q), fun b ps q => ?_⟩, J.loc, J.cell, ?_, fun x c q => ?_, fun q hq => ?_, ?_, J.len⟩
  · rw [stay (fun z => by rw [z, newAt] at q; cases q)]
    exact J.base.free b o q n x
  · obtain ⟨m, r⟩ := J.base.tbls b ps q
    exact ⟨m, old r⟩
  · rw [stay (fun z => nl z.symm)]; exact J.free
  · rw [stay ?_]
    · exact J.freeC x c q
    · intro e
      obtain ⟨w', o, r1, r2⟩ := J.cell x c q
      rw [e, ga] at r1
      cases r1
      exact ncell _ r2
  · obtain ⟨r1, r2, r3⟩ := J.pin q (by
      rcases List.mem_append.mp hq with z | z
      · exact (List.mem_append_left _ z)
      · exact List.mem_append_right _ (List.mem_cons_of_mem _ z))
    exact ⟨r1, by rw [stay (np q hq)]; exact r2, r3⟩
  · exact J.hok.laidN (fun _ _ q => q) na ⟨⟨oe, vs, ga, z, hv⟩, ⟨oe, ga⟩, fun _ _ ⟨o, v, q, r⟩ k => ⟨o, v, k o q, r⟩⟩
end
/-- what 'except x as n' wants of the body's exception, where it stays tracked behind the clause -/
def wKeep (K : PySem.W.Frag) (c : Value) (i : Nat) (ts : Addr → Value → Option Addr → TS) (Wo : WX) (D : Ends) : WX := fun cls d σ H => ∃ b, PySem.W.exmOne K cls c = some b ∧
  (b = true → ∀ a, H a = none → ts a cls d { nx := fun τ H' => D.nx (τ.set i none) (upd H' a (CauO cls d a)), rt := fun v H' => D.rt v (upd H' a (CauO cls d a)), bk := fun τ H' => D.bk (τ.set i none) (upd H' a (CauO cls d a)), ct := fun τ H' => D.ct (τ.set i none) (upd H' a (CauO cls d a)) } (σ.set i (some (.ref a))) H) ∧
  (b = false → Wo cls d σ H)
section
variable {X : Cx} {x n : Str} {c : Value} {i : Nat} {body suite : List Stmt} {b₀ : Stmt} {pa pb pc : Pos} {tb : WX → TS} {ts : Addr → Value → Option Addr → TS} {Wo : WX}
theorem ps_try_keep (hst : X.stack = X.env :: X.outer) (hfr : X.env.frame = some X.env.locals) (hex : X.ex = []) (nd : X.N.Nodup) (ix : X.N[i]? = some n) (own : X.env.kindOf n = some .local) (nm : Names X x c) (tk : Takes X Wo)
    (bodyR : ∀ (W : WX) (pn : List (Addr × Obj)) (xe : Value → Shared → Prop), Takes (X.tr pn xe) W → PassesOwn (model X.prog X.w) X.A X.env xe → PSs (X.tr pn xe) body (tb W))
    (hu : ∀ (a : Addr) (oe : Obj) (cls : Value) (d : Option Addr) (pn : List (Addr × Obj)), Zc cls d oe → (∃ vs, oe.data = .fields vs) → PSs (X.suite a ((a, oe) :: pn)) (b₀ :: suite) (ts a cls d)) :
    PS X (.Try body [.ExceptHandler (some (.Name x pa)) (some n) (b₀ :: suite) pb] [] [] pc) (fun D σ H => tb (wKeep X.K c i ts Wo D) D σ H) := by
  refine ⟨fun pins s σ H D I h => wpAny_Try_except ?_⟩
  have good := I.ok
  have frm : X.A.frames = some (X.env :: X.outer) := by rw [good.frames, hst]
  refine wpAny_mono ((bodyR (wKeep X.K c i ts Wo D) (X.pn ++ pins) _ (fun u s' xx => ?_) PassesOwn.looking).run [] s σ H D (I.toTry _) h) (fun f s1 hsp => ?_) (fun e s1 he => he)
  · obtain ⟨a, B, sI, pins', τ, Hc, cls, d, rfl, Jt, ground, up, sky, na, os, ag, b, hb1, yes, no⟩ := xx
    have J : Inv X pins τ Hc sI := Jt.ofTry good
    have sky2 : Sky B (X.env :: X.outer) a (Zc cls d) X.env.locals s'.heap := by rw [← hst]; exact sky
    show (wpAny (model X.prog X.w) X.A (noteFrame (.ref a) X.env) _ _ _)
    refine Sky.land Zc.steady frm hfr sky2 fun g fl up2 => ?_
    have J2 : Inv X pins τ Hc { s' with heap := g } := J.landed ground fl.1 (up.trans up2) os ag
    obtain ⟨oe, vs, ge, ze, de⟩ := fl.there
    have out : a ∉ frs (X.env :: X.outer) := fun hm => by
      obtain ⟨_, o', e', hnf⟩ := fl.2.2.1.mem hm
      rw [ge] at e'
      cases e'
      exact hnf _ de
    have nL : a ≠ X.env.locals := fun z => out (List.mem_filterMap.mpr ⟨X.env, List.mem_cons_self, by rw [hfr, z]⟩)
    have nFs : a ∉ X.fs := fun hm => by
      obtain ⟨e, he, q⟩ := (List.mem_filterMap.mp hm)
      exact out (List.mem_filterMap.mpr ⟨e, List.mem_cons_of_mem _ he, q⟩)
    -- it is new since the entry, and no pin
    have nI : sI.heap.get? a = none := by
      cases e : sI.heap.get? a with
      | none => rfl
      | some o =>
        have z := ground a o e (by rw [hst]; exact out)
        rw [fl.2.1] at z
        cases z
    have newAt : X.s_0.heap.get? a = none := by
      cases e : (X.s_0.heap.get? a) with
      | none => rfl
      | some o =>
        obtain ⟨o', z⟩ := J.base.there a o e (by rw [hex]; exact List.not_mem_nil)
        rw [nI] at z
        cases z
    have np : ∀ q ∈ X.pn ++ pins, q.1 ≠ a := fun q hq e => by
      have z := (J.pin q hq).1
      rw [e, nI] at z
      cases z
    have U := J2.suite ge de na nL nFs
    refine (wpAny_handleBy_cons (codeAny_handlers_test ?_) (by intro q; cases q))
    have TT : PySem.W.Looks (model X.prog X.w) g (typeOf (.ref a)) cls := fun A Q E s k q => wpAny_typeOf_ref (k _ _ ge) (by rw [ze.1]; exact q)
    have MM := PySem.W.exm_one (M := model X.prog X.w) (J2.kIn) TT hb1
    have named : ∀ {Q : Value → Shared → Prop} {E : Value → Shared → Prop}, Q c { s' with heap := g } → wpAny (model X.prog X.w) (X.A.mark (some (.ref a))) (eval (.Name x pa) X.env) Q E { s' with heap := g } := fun {Q E} q => by
      obtain ⟨hg, hdbg, m | ⟨m, v, nn⟩⟩ := nm
      · exact ld_glob (X := X.suite a ((a, oe) :: (X.pn ++ pins))) U hg m q hdbg
      · exact ld_blt (X := X.suite a ((a, oe) :: (X.pn ++ pins))) U hg m v q nn hdbg
    refine named (MM.here ?_)
    cases b with
    | false =>
      show (wpAny _ X.A (handleBy (.ref a) X.env []) _ _ _)
      refine wpAny_handleBy_nil ?_
      obtain ⟨_, _, _, oo, us, T, oT, tt, ho, hz, hd, h1, _⟩ := id fl
      unfold PySem.passOn
      refine wpAny_bind (wpAny_field ho hd h1 ?_)
      (rw [if_neg (show ¬ ((Value.ref T == Value.none) = true) from by simp)])
      have away : wpAny (model X.prog X.w) X.A (setFlight (.ref a) X.env.frame) (fun _ s4 => wpAny (model X.prog X.w) X.A (throw (.ref a) : Sem Flow) (SP X pins D) X.xe s4) X.xe { s' with heap := g } := by
        rw [hfr]
        refine HandSPX.setFlight_upZ fl fun g4 held up4 => wpAny_throw (tk _ _ ?_)
        exact ⟨a, B, sI, pins, τ, Hc, cls, d, rfl, J, ground, (up.trans up2).trans up4, .inr (.inr (by rw [hst]; exact held)), na, os, ag, no rfl⟩
      first
        | exact wpAny_bind (wpAny_pure (wpAny_bind away))
        | exact wpAny_bind away
    | true =>
      refine codeAny_handlers_suite_as ?_
      refine HandSPX.lands_againZ fl fun g4 fl4 up4 => ?_
      have J4 : Inv X pins τ Hc { s' with heap := g4 } := J.landed ground fl4.1 ((up.trans up2).trans up4) os ag
      obtain ⟨o4, vs4, ge4, ze4, de4⟩ := fl4.there
      refine store_ok (X := X.suite a ((a, o4) :: (X.pn ++ pins))) (v := .ref a) (J4.suite ge4 de4 na nL nFs) nd ix (.inl own) rfl (fun s5 U5 => ?_) (.inr own)
      refine wpAny_mono ((hu a o4 cls d (X.pn ++ pins) ze4 ⟨_, de4⟩).run [] s5 _ Hc _ U5 (yes rfl a na)) (fun f s6 hsp => ?_) (fun _ _ z => False.elim z)
      have last : ∀ {τ6 : L2.St} {H6 : Hp} {Q : Shared → Prop}, Inv (X.suite a ((a, o4) :: (X.pn ++ pins))) [] τ6 H6 s6 → (∀ s7, Inv X pins (τ6.set i none) (upd H6 a (CauO cls d a)) s7 → Q s7) →
          wpAny (model X.prog X.w) X.A (do bindName X.env n .none; unbindBehindTheSuite X.env n pb) (fun _ s7 => Q s7) X.xe s6 := fun U6 hq => gone_ok (pins := (a, o4) :: pins) (suite_pins U6 good) nd ix own fun s7 J7 => hq s7 (keep_exc J7 ze4 ⟨_, de4⟩ newAt np)
      cases f with
      | next =>
        obtain ⟨τ6, H6, U6, q6⟩ := hsp
        exact last U6 fun s7 J7 => ⟨_, _, J7, q6⟩
      | brk =>
        obtain ⟨τ6, H6, U6, q6⟩ := hsp
        exact last U6 fun s7 J7 => ⟨_, _, J7, q6⟩
      | cont =>
        obtain ⟨τ6, H6, U6, q6⟩ := hsp
        exact last U6 fun s7 J7 => ⟨_, _, J7, q6⟩
      | ret u =>
        obtain ⟨v6, τ6, H6, U6, r6, q6⟩ := hsp
        exact last U6 fun s7 J7 => ⟨_, _, _, J7, r6, q6⟩
  cases f with
  | next => exact wpAny_execs_nil (hsp.elim fun τ h => h.elim fun H' h => ⟨τ, H', h.1.ofTry good, h.2⟩)
  | brk => exact hsp.elim fun τ h => h.elim fun H' h => ⟨τ, H', h.1.ofTry good, h.2⟩
  | cont => exact hsp.elim fun τ h => h.elim fun H' h => ⟨τ, H', h.1.ofTry good, h.2⟩
  | ret u => exact hsp.elim fun v h => h.elim fun τ h => h.elim fun H' h => ⟨v, τ, H', h.1.ofTry good, h.2⟩
end
/-- isinstance(e, c) of an exception that is kept -/
def rIsK (K : PySem.W.Frag) (C : Addr) : List V → Hp → VK → Prop := fun xs H Q => ∃ (a : Addr) (cv : Value) (c : V) (b : Bool), xs = [.ref a, c] ∧ H a = some (CauO (.ref C) none a) ∧ ClsV c cv ∧ PySem.W.kitOne K (.ref C) cv = some b ∧ Q (.bl b) H
theorem call_isK {X : Cx} {C : Addr} (B : L2.ExcC X.K C) : CallR X (.builtin "isinstance") (rIsK X.K C) := by
  intro pins; intro s σ H xs us Q I r h
  obtain ⟨a, cv, c, b, rfl, ha, hc, e, q⟩ := h
  obtain ⟨ua, ub, rfl, r1, r2⟩ := vals2 r
  obtain rfl : ua = Value.ref a := r1
  have e2 := hc.eq r2
  subst e2
  obtain ⟨⟨oe, vs, hg, hz, hv⟩, _, _⟩ := I.hok a _ ha
  have J : PySem.W.InstAt s.heap a oe C none := by
    obtain ⟨oc, od, o3, o4⟩ := oe
    obtain ⟨h1, h2⟩ := hz
    dsimp only at h1 h2 hv
    subst h1 h2 hv
    exact ⟨hg, rfl, rfl, trivial⟩
  exact PySem.W.kia_one (PySem.W.handS_kitx_exc B.hg B.hk B.hs B.hd B.ha B.hn B.ht B.hm) I.kIn J e (fun z => nomatch z) fun tk => ⟨.bl b, H, I.kept (t' := tk) fun _ _ z => z, rfl, q⟩
end Mv


namespace Mv
open PySem L2 LamX
theorem takes_len {X : Cx} {W : WX} (t : Takes X W) : Takes X (fun cls d σ H => σ.length = X.N.length → W cls d σ H) := fun u s' ⟨a, B, sI, pins, σ, H, cls, d, e, I, nb, up, sky, na, os, ag, w⟩ =>
  t u s' ⟨a, B, sI, pins, σ, H, cls, d, e, I, nb, up, sky, na, os, ag, w I.len⟩
abbrev s__law_caught : Stmt := top 37
/-- caught: try: work() / except x as error: caught = error -/
def TTc (K : PySem.W.Frag) (CS : Addr) : (XK → Hp → VK → Prop) → Hp → VK → Prop := fun tl H Q =>
  tl (fun cls d H' => ∃ b, PySem.W.exmOne K cls (.ref CS) = some b ∧ (b = true → ∀ a, H' a = none → Q (.ref a) (upd H' a (CauO cls d a))) ∧ (b = false → False)) H fun _ H' => Q .non H'
theorem caught_gives {X : Cx} {g CS : Addr} {cdg : Value} {q : Str} (hm : X.mg "MoveError" = some (.ref CS)) : GivesTo X ["work", "caught", "error"] "_law_caught" (defScope s__law_caught) g cdg (defBody s__law_caught) "work" q (TTc X.K CS) := by
  intro f c' s H Q tl act hc h
  have nd : (["work", "caught", "error"] : List Str).Nodup := by decide +kernel
  refine ⟨_, pss_cons (ps_set (i := 1) nd rfl (Or.inl rfl) pe_non) (pss_cons (ps_try_keep (i := 2) (X := (cxOf C8.CX0 X.prog X.w X.K X.mg X.base ["work", "caught", "error"] "_law_caught" (defScope s__law_caught) g cdg X.A X.stack s H C8.E0).nox) (c := .ref CS)
      (tb := fun W D σ H => ∃ Ech : XK, (∀ cls d σ' H', Ech cls d H' → σ'.length = 3 → W cls d σ' H') ∧ σ[0]? = some (some (.ref f)) ∧ H c' = some (CodeO c' q) ∧ tl Ech H fun _ H1 => D.nx σ H1)
      (ts := fun _ _ _ => tAsg (tVar 2) (gName 1)) rfl rfl rfl nd rfl rfl ⟨rfl, rfl, .inl hm⟩ LamX.takes0 (fun W pn xe tk _ => ?_) (fun a oe cls d pn _ _ => pss_one (ps_set (i := 1) nd rfl (Or.inl rfl) (pv 2)))) (pss_one (ps_ret (pv 1)))), ?_⟩
  · refine (⟨fun pins s' σ H' D I h' => ?_⟩)
    obtain ⟨Ech, hW, h1, h2, h3⟩ := (h')
    have hp := fun p1 p2 => act _ pn xe Ech p1 p2 (takes_len tk) (fun cls d σ' H' h hl => hW cls d σ' H' h hl)
    exact (pss_one (ps_expr (hp _ _))).run pins s' σ H' D I ⟨h1, h2, h3⟩
  · refine ⟨fun cls d H' => ∃ b, PySem.W.exmOne X.K cls (.ref CS) = some b ∧ (b = true → ∀ a, H' a = none → Q (.ref a) (upd H' a (CauO cls d a))) ∧ (b = false → False), fun cls d σ' H' ⟨b, e1, e2, e3⟩ hl => ⟨b, e1, fun hb a ha => ?_, fun hb => e3 hb⟩, rfl, hc, ?_⟩
    · match σ', hl with
      | [x, y, z], _ => exact ⟨.ref a, rfl, .ref a, rfl, e2 hb a ha⟩
    · have e : ∀ (Ech : XK), tl Ech H (fun _ H' => Q .non H') → tl Ech H (fun _ H1 => ∃ v, ([some (.ref f), some .non, none] : L2.St)[1]? = some (some v) ∧ Q v H1) := fun Ech h => by
        have e : (fun (_ : V) (H1 : Hp) => ∃ v, ([some (.ref f), some .non, none] : L2.St)[1]? = some (some v) ∧ Q v H1) = fun _ H' => Q .non H' := by
          funext _ H1
          exact propext ⟨fun ⟨v, h1, h2⟩ => by cases h1; exact h2, fun h => ⟨_, rfl, h⟩⟩
        rw [e]; exact h
      exact e _ h
end Mv


namespace Mv
open PySem PySem.Spec L2 LamX PyProof.Rows

/-! ### a lambda as a value -/
/-- at f stands a lambda of this frame, its code at c'; t: what its body does -/
def LamO (X : Cx) (k : Nat) (f c' : Addr) (t : XK → TE) : HO := .ext fun h => ∃ (params : Arguments) (body : Expr) (scope : Scope) (pm ctv : Value),
  h.get? f = some (PySem.W.kla_obj "<lambda>" (X.env.qual ++ "<lambda>") params body scope (cloFrom X.env.cells scope.names []) pm c' ctv) ∧ LamS X.env.scope scope ∧
  bindArgs (PySem.W.kla_fn "<lambda>" (X.env.qual ++ "<lambda>") params body scope (cloFrom X.env.cells scope.names []) pm (.ref c') ctv) ⟨[], []⟩ = pure [] ∧
  ∀ (A : Around) (outer : List Env) (s : Shared) (H : Hp) (E : XK), Room k (A.deeper (lamEnv X scope s.heap.objs.size f c')) → PE (lamCx X A outer s H E scope f c') body (t E)
section
variable {X : Cx} {pins : List (Addr × Obj)} {σ : L2.St} {H : Hp} {s : Shared} {f : Addr} {o : HO}
/-- what is new and no record of ours is tracked from now on -/
theorem track_new {ob : Obj} (J : Inv X pins σ H s) (hf : H f = none) (n0 : X.s_0.heap.get? f = none) (np : ∀ q ∈ X.pn ++ pins, q.1 ≠ f) (nl : f ≠ X.env.locals) (nc : ∀ x c, X.env.cells.lookup x = some c → c ≠ f) (hget : s.heap.get? f = some ob) (hp : ObjOk X.prog X.w (upd H f o) s.heap f o) : Inv X pins σ (upd H f o) s := by
  have away : ∀ {b : Addr}, b ≠ f → upd H f o b = H b := fun e => upd_ne e
  have old : ∀ {b : Addr} {u : HO}, H b = some u → upd H f o b = some u := fun e => (upd_ne (ne_of_none e hf)).trans e
  refine ⟨J.ok, J.os, J.bare, ⟨J.base.keep, J.base.slot, fun b u q n x => ?_, J.base.there, fun b xs q => old (J.base.tups b xs q), fun b u v q => old (J.base.frzs b u v q), fun b ps q => (J.base.tbls b ps q).imp fun m r => old r⟩, J.loc, J.cell, ?_, fun x c q => ?_, fun q hq => ?_, J.hok.laidN (fun _ _ q => q) hf hp, J.len⟩
  · rw [away (fun z => by rw [z, n0] at q; cases q)]
    exact J.base.free b u q n x
  · rw [away nl.symm]
    exact J.free
  · rw [away (nc x c q)]
    exact J.freeC x c q
  · obtain ⟨r1, r2, r3⟩ := J.pin q hq
    exact ⟨r1, by rw [away (np q hq)]; exact r2, r3⟩
/-- what was tracked by a word of its own alone is not any more; it stands there still -/
theorem forget {φ : Heap → Prop} (J : Inv X pins σ H s) (hf : H f = some (.ext φ)) : Inv X pins σ (delH H f) s := by
  have away : ∀ {b : Addr}, b ≠ f → delH H f b = H b := fun e => delH_ne e
  have ne : ∀ {b : Addr} {u : HO}, H b = some u → (∀ ψ, u ≠ .ext ψ) → b ≠ f := fun e n z => by
    rw [z, hf] at e
    exact (n φ (Option.some.inj e).symm)
  have none_ : ∀ {b : Addr}, H b = none → delH H f b = none := fun {b} e => by
    by_cases z : b = f
    · rw [z]; exact delH_same
    · rw [away z]; exact e
  refine ⟨J.ok, J.os, J.bare, ⟨J.base.keep, J.base.slot, fun b u q n x => none_ (J.base.free b u q n x), J.base.there, fun b xs q => ?_, fun b u v q => ?_, fun b ps q => ?_⟩, J.loc, J.cell, none_ J.free, fun x c q => none_ (J.freeC x c q), fun q hq => ?_, fun b u e => ?_, J.len⟩
  · have e := J.base.tups b xs q
    rw [away (ne e fun _ z => by cases z)]; exact e
  · have e := J.base.frzs b u v q
    rw [away (ne e fun _ z => by cases z)]; exact e
  · obtain ⟨m, e⟩ := J.base.tbls b ps q
    exact ⟨m, by rw [away (ne e fun _ z => by cases z)]; exact e⟩
  · obtain ⟨r1, r2, r3⟩ := J.pin q hq
    exact ⟨r1, none_ r2, r3⟩
  · have nb : b ≠ f := fun z => by rw [z, delH_same] at e; cases e
    rw [away nb] at e
    exact (J.hok b u e).stay (fun _ _ _ q => q) (fun c q => by rw [away (ne q fun _ z => by cases z)]; exact q) fun c xs q => by rw [away (ne q fun _ z => by cases z)]; exact q
end
def tLamV (X : Cx) (k : Nat) (T : List (Addr × Str)) (t : XK → TE) : TE := fun σ H Q => Tabs T H ∧ ∀ (f c' : Addr) (H1 : Hp), ExtN H H1 → Tabs T H1 → H1 f = none → H1 c' = some (CodeO c' (X.env.qual ++ "<lambda>")) → Q (.ref f) (upd H1 f (LamO X k f c' t))
section
variable {X : Cx}
theorem pe_lam {T : List (Addr × Str)} {c P : Addr} {k : Nat} {params : Arguments} {body : Expr} {scope : Scope} {t : XK → TE} {at_ : Pos} (TB : TabB X.base X.mg c P) (hcode : X.env.code = .ref c) (hmT : (P, X.env.qual ++ "<lambda>") ∈ T) (hu : ∀ p ∈ T, p.1 = P → p.2 = X.env.qual ++ "<lambda>")
    (L : LamS X.env.scope scope) (hdef : defaultsOf params X.env = ([], [])) (hbind : ∀ (q : Str) (cl : List (Str × Addr)) (pm cv ctv : Value), bindArgs (PySem.W.kla_fn "<lambda>" q params body scope cl pm cv ctv) ⟨[], []⟩ = pure [])
    (hbody : ∀ (A : Around) (outer : List Env) (s : Shared) (H : Hp) (E : XK) (f c' : Addr), Room k (A.deeper (lamEnv X scope s.heap.objs.size f c')) → PE (lamCx X A outer s H E scope f c') body (t E)) (hex : X.ex = []) : PE X (.Lambda params body scope at_) (tLamV X k T t) := by
  refine ⟨fun pins s σ H Q I ⟨hT, h⟩ => PySem.W.kla_eval hdef ?_⟩
  obtain ⟨ps, hP, ht, ha⟩ := hT _ hmT
  have tabAt : s.heap.get? P = some { cls := .none, data := .fields ps } := I.hok P _ hP
  have bltAt : s.heap.BuiltinsAt X.mg P := TB.bm.keeps I.bk
  -- the lambda's object, whatever its code
  have fin : ∀ (h' : Heap) (tk : Nat) (c' : Addr) (pm ctv : Value) (H1 : Hp), s.heap.objs.size ≤ h'.objs.size → ExtN H H1 → Tabs T H1 → H1 h'.objs.size = none → H1 c' = some (CodeO c' (X.env.qual ++ "<lambda>")) →
      Inv X pins σ H1 { s with heap := h'.push (PySem.W.kla_obj "<lambda>" (X.env.qual ++ "<lambda>") params body scope (cloFrom X.env.cells scope.names []) pm c' ctv), toks := tk } →
      EP X pins σ Q (.ref h'.objs.size) { s with heap := h'.push (PySem.W.kla_obj "<lambda>" (X.env.qual ++ "<lambda>") params body scope (cloFrom X.env.cells scope.names []) pm c' ctv), toks := tk } := fun h' tk c' pm ctv H1 sz eN T1 n1 hco J => by
    have new_ : ∀ {b : Addr} {u : Obj}, s.heap.get? b = some u → b ≠ h'.objs.size := fun e => Nat.ne_of_lt (Nat.lt_of_lt_of_le (Heap.lt_size e) sz)
    have got := Heap.get?_push_size h' (o := PySem.W.kla_obj "<lambda>" (X.env.qual ++ "<lambda>") params body scope (cloFrom X.env.cells scope.names []) pm c' ctv) rfl
    refine ⟨.ref h'.objs.size, _, track_new (o := LamO X k h'.objs.size c' t) J n1 ?_ (fun q hq => new_ (I.pin q hq).1) ?_ (fun x c q => ?_) got ⟨⟨params, body, scope, pm, ctv, got, L, hbind _ _ _ _ _, fun A outer s H E r => hbody A outer s H E _ c' r⟩, ⟨_, got⟩, fun _ _ ⟨p1, p2, p3, p4, p5, q, r⟩ keep => ⟨p1, p2, p3, p4, p5, keep _ q, r⟩⟩, rfl, h _ c' H1 eN T1 n1 hco⟩
    · cases e : X.s_0.heap.get? h'.objs.size with
      | none => rfl
      | some u =>
        obtain ⟨u', q⟩ := I.base.there _ u e (by rw [hex]; exact List.not_mem_nil)
        exact (new_ q rfl).elim
    · intro z
      obtain ⟨m, ⟨ob, es, ep, e, r⟩, _⟩ := I.loc
      exact new_ e z.symm
    · obtain ⟨w', u, e, r⟩ := I.cell x c q
      exact new_ e
  cases hc : codeAmong at_ ps.toList with
  | some cv =>
    obtain ⟨c', rfl, hco⟩ := ha at_ cv hc
    exact PySem.W.kla_makeFunctionHit (mg := X.mg) (c := c) (P := P) (ps := ps) (closure_ok (L.has I.ok)) I.ok.glob (I.mod.glob.keeps I.bk) hcode (TB.code.keeps I.bk) tabAt ht hc bltAt fun ctv h' tk hx hsz =>
      fin h' tk c' _ ctv H hsz (ExtN.refl H) hT (I.hok.fresh hsz) hco (I.kept fun b u e => Heap.get?_push_of_some _ (hx b u e))
  | none =>
    refine PySem.W.kla_makeFunction (mg := X.mg) (c := c) (P := P) (ps := ps) (closure_ok (L.has I.ok)) I.ok.glob (I.mod.glob.keeps I.bk) hcode (TB.code.keeps I.bk) tabAt ht hc TB.gP bltAt fun c' ctv h' tk hx hge hlt hrec htb => ?_
    obtain ⟨c2, oc, us, tt, e2, hoc, hd, hv⟩ := hrec
    cases e2
    have big : s.heap.objs.size ≤ h'.objs.size := Nat.le_trans hge (Nat.le_of_lt hlt)
    have freeC : H c' = none := I.hok.fresh hge
    have J := inv_table (t' := tk) (more := #[rawInt at_.line, rawInt at_.col, .ref c']) (h' := h'.push (PySem.W.kla_obj "<lambda>" (X.env.qual ++ "<lambda>") params body scope (cloFrom X.env.cells scope.names []) ((X.mg "__name__").getD .none) c' ctv)) I hP
      (fun b u hb e => Heap.get?_push_of_some _ (hx b u hb e)) (Heap.get?_push_of_some _ htb) hge ⟨oc, us, tt, Heap.get?_push_of_some _ hoc, hd, hv⟩
    have grown : ExtN H (upd (upd H P (.tbl (ps ++ #[rawInt at_.line, rawInt at_.col, .ref c']))) c' (CodeO c' (X.env.qual ++ "<lambda>"))) := fun b u e n => by
      rw [upd_ne (ne_of_none e freeC), upd_ne (fun z => n ps (Option.some.inj (e.symm.trans (by rw [z]; exact hP))))]
      exact e
    have list_ : (ps ++ #[rawInt at_.line, rawInt at_.col, .ref c']).toList = ps.toList ++ [rawInt at_.line, rawInt at_.col, .ref c'] := by simp
    refine fin h' tk c' _ ctv _ big grown (fun p hp => ?_) ?_ upd_same J
    · by_cases hb : p.1 = P
      · rw [hu p hp hb, hb]
        refine ⟨_, by rw [upd_ne (ne_of_none hP freeC), upd_same], by rw [list_]; exact PySem.TriplesOk_snoc _ _ _ _ ht, fun p' cv hcv => ?_⟩
        rw [list_] at hcv
        rcases (among_app _ ht hcv) with z | z
        · obtain ⟨c0, e1, e2⟩ := (ha p' cv z)
          exact ⟨c0, e1, grown _ _ e2 codeO_ne⟩
        · exact ⟨c', z, upd_same⟩
      · obtain ⟨ps', a1, a2, a3⟩ := (hT p hp)
        refine ⟨ps', by rw [upd_ne (ne_of_none a1 freeC), upd_ne hb]; exact a1, a2, fun p' cv hcv => ?_⟩
        obtain ⟨c0, e1, e2⟩ := (a3 p' cv hcv)
        exact ⟨c0, e1, grown _ _ e2 codeO_ne⟩
    · rw [upd_ne (Nat.ne_of_gt hlt), upd_ne (Nat.ne_of_gt (Nat.lt_of_lt_of_le (Heap.lt_size tabAt) big))]
      exact I.hok.fresh big
/-- x(w), w a slot that holds a lambda -/
theorem pe_lamvar {TT : (XK → Hp → VK → Prop) → Hp → VK → Prop} {x a wn : Str} {g : Addr} {k i : Nat} {pg : Arguments} {bg : List Stmt} {sg : Scope} {dV kV doc pm cdv ct oc : Value} {an od : Option Addr} {osl : Array (Option Value)} {Ng : List Str}
    {p pw pos : Pos} (hg : Gl X x) (hm : X.mg x = some (.ref g)) (hk : PySem.W.keepIn X.K (.ref g) = true) (lk : X.K.lookup g = some ⟨oc, od, .func (PySem.W.fnOf x x pg bg sg dV kV doc pm an cdv ct), osl⟩) (hcg : PySem.W.codeIn X.K cdv x = true) (hb : L2.Binds X.K (PySem.W.fnOf x x pg bg sg dV kV doc pm an cdv ct) [a] [])
    (Sg : FnScope Ng [a] sg) (hNg : Ng[0]? = some a) (hva : Vis sg a) (hG : GivesTo X Ng x sg g cdv bg a (X.env.qual ++ "<lambda>") TT) (hr : Room (k + 2) X.A) (hex : X.ex = []) (hw : PE X (.Name wn pw) (tVar i))
    (hdb : (x == ("__debug__" : Str)) = false := by decide) (hd : (a == ("__debug__" : Str)) = false := by decide) (hcd : (a == ("__classdict__" : Str)) = false := by decide) :
    PE X (.Call (.Name x p) [.Name wn pw] [] pos) (fun σ H Q => ∃ (f c' : Addr) (t : XK → TE), σ[i]? = some (some (.ref f)) ∧ H f = some (LamO X k f c' t) ∧ H c' = some (CodeO c' (X.env.qual ++ "<lambda>")) ∧ TT (fun E H' Q' => t E σ H' Q') (delH H f) Q) := by
  refine ⟨fun pins s σ H Q I ⟨f, c', t, hs, hf, hc, ht⟩ => wpAny_Call_Name_kw (ld_glob I hg hm ?_ hdb)⟩
  refine PySem.W.callWith_K (h₀ := X.base) I.ok.mod.kin hk (thn ((pa_cons hw pa_nil).run pos pins s σ H (fun vs H1 => vs = [.ref f] ∧ H1 = H) I ⟨.ref f, hs, rfl, rfl⟩) fun us s1 ⟨vs, H1, I1, rv, ev, eH⟩ => ⟨I1.kIn, ?_⟩) (by rfl) (by rfl)
  subst ev eH
  cases rv with
  | cons r1 rn =>
    cases rn
    obtain rfl := r1
    obtain ⟨⟨params, body, scope, pm', ctv, hget, L, hbind, hbody⟩, _, _⟩ := I1.hok f _ hf
    have J : Inv X pins σ (delH H1 f) s1 := forget I1 hf
    have hc2 : delH H1 f c' = some (CodeO c' (X.env.qual ++ "<lambda>")) := by
      by_cases z : c' = f
      · -- an object of code is no lambda
        exfalso
        obtain ⟨⟨o1, v1, t1, e1, d1, _⟩, _, _⟩ := I1.hok c' _ hc
        rw [z, hget] at e1
        cases e1
        cases d1
      · rw [delH_ne z]; exact hc
    have off : f ∉ frs X.stack := fun z => by
      have := I1.stkFree f z
      rw [hf] at this
      cases this
    have run : codeAny (model X.prog X.w) X.A (.call (.ref g) ⟨[.ref f], []⟩) (CR C8.CX0 X.stack X.prog X.w (delH H1 f) s1 Q C8.E0) s1 := by
      refine run_ofS (N := Ng) (ps := [a]) (us := [.ref f]) (vs := [.ref f]) lk hcg Sg hr J.env0 (hb s1 [.ref f] J.kIn rfl) (.cons rfl .nil) rfl fun hr2 => ?_
      obtain ⟨t', h1, h2⟩ := hG f c' s1 (delH H1 f) Q (fun E H' Q' => t E σ H' Q') (fun W pn xe E p1 p2 tk hW => pe_act (i := 0) J L hget delH_same off hbind tk hW hr2 (fun A outer s H r => hbody A outer s H E r) hNg hva hd hcd) hc2 ht
      exact ⟨t', h1.nox, h2⟩
    refine wpAny_call (codeAny_mono run fun r s2 hq => ?_)
    cases r with
    | error e => exact (show False from hq).elim
    | ok fl =>
      cases fl with
      | ret u => exact J.after hq
      | next => exact False.elim hq
      | brk => exact False.elim hq
      | cont => exact False.elim hq
end
end Mv


namespace Mv
open PySem L2 Evl

/-! ### repr of a list or a tuple -/
/-- repr(x), x data without dicts -/
def rReprD (K : PySem.W.Frag) : List V → Hp → VK → Prop := fun xs H Q => ∃ (p : Addr) (d : D), xs = [.ref p] ∧ Dp K H (.ref p) d ∧ d.showable = true ∧ d.hasDict = false ∧ d.depth ≤ 64 ∧ d.shown.length ≤ sizeLine ∧ Q (.str d.shown) H
theorem call_reprD {X : Cx} (hg : X.A.guards = some []) (hu : X.A.units + 66 < cLine) : CallR X (.builtin "repr") (rReprD X.K) := by
  intro pins; intro s σ H xs us Q I r h
  obtain ⟨p, d, rfl, hd, h1, h2, h3, h4, q⟩ := h
  cases r with
  | cons rx rr =>
    cases rr
    obtain rfl := rx
    obtain ⟨as, hr⟩ := Dp.reads I d (.ref p) (.ref p) hd rfl
    exact repr_of_reads' hr h1 (fun z => by rw [h2] at z; cases z) hg (by omega) (fun _ _ e => e) (fun h' u tk hk => ⟨.str d.shown, H, I.kept (t' := tk) hk, ⟨u, rfl⟩, q⟩) h4

/-! ### calls: no arguments, keywords alone -/
theorem passF {P : Program} {w : World} {X : Cx} : Passes (L2.CX P w) X (fun _ _ _ => False) := fun _ _ _ _ _ _ _ ⟨_, _, _, _, _, _, _, _, _, _, _, _, z⟩ => z.elim
theorem pe_cal0 {X : Cx} {CX : CXT} {k : Nat} {x : Str} {sp : Sp} {E : XK} {p pos : Pos} (C : Cal X.prog X.w X.K X.mg X.base CX k x [] sp) (hr : Room k X.A) (hx : Passes CX X E) (hg : Gl X x := by rfl) (hdb : (x == ("__debug__" : Str)) = false := by decide) :
    PE X (.Call (.Name x p) [] [] pos) (tCall sp [] E tNil) := by
  obtain ⟨f, fd, F, hm, hk, hb⟩ := C.ex
  exact pe_call0 F hr hg hm hk hb .nil hx hdb
/-- a def that may be called by keywords, all of them -/
structure CalK (P : Program) (w : World) (K : PySem.W.Frag) (mg : Str → Option Value) (base : Heap) (CX : CXT) (k : Nat) (x : Str) (ps : List Str) (sp : Sp) : Prop where
  ex : ∃ (f : Addr) (fd : FuncData), FnOk P w K mg base CX k f fd ps sp ∧ mg x = some (.ref f) ∧ PySem.W.keepIn K (.ref f) = true ∧ ∀ ws : List Value, ws.length = ps.length → bindArgs fd ⟨[], ps.zip ws⟩ = pure (ps.zip ws)
theorem pe_calk0 {X : Cx} {CX : CXT} {k : Nat} {x : Str} {ps : List Str} {sp : Sp} {E : XK} {p pos : Pos} {kws : List Keyword} {t : TA} (C : CalK X.prog X.w X.K X.mg X.base CX k x ps sp) (hr : Room k X.A) (hx : Passes CX X E) (ha : PK X kws t)
    (hg : Gl X x := by rfl) (hall : (backToKw pos (keywordEach kws X.env)).all (·.1.isSome) = true := by rfl) (hks : (backToKw pos (keywordEach kws X.env)).filterMap (·.1) = ps := by rfl) (hdb : (x == ("__debug__" : Str)) = false := by decide)
    (hpl : ((backTo pos (starEach [] X.env)).any (·.1) || (backToKw pos (keywordEach kws X.env)).any (·.1.isNone)) = false := by rfl) : PE X (.Call (.Name x p) [] kws pos) (tCall sp [] E t) := by
  obtain ⟨f, fd, F, hm, hk, hb⟩ := C.ex
  refine ⟨fun pins s σ H Q I h => wpAny_Call_Name_kw (ld_glob I hg hm ?_ hdb)⟩
  refine PySem.W.callWith_KW0 (h₀ := X.base) I.ok.mod.kin hk hall (thn (ha.run pos pins s σ H _ I h) fun ws s2 ⟨zs, H2, I2, rz, q2⟩ => ⟨I2.kIn, ?_⟩) hpl
  rw [hks]
  have q2 : sp zs H2 Q E := by
    have z : sp (zs ++ []) H2 Q E := q2
    rwa [List.append_nil] at z
  have hl : ws.length = ps.length := by rw [← rz.length]; exact F.len _ _ _ _ q2
  refine wpAny_call (codeAny_mono (F.run X.A X.stack s2 H2 ⟨[], ps.zip ws⟩ ws zs Q E hr I2.env0 (.of_eq (hb ws hl)) rz q2) fun r s' hq => ?_)
  cases r with
  | error e => exact hx pins σ H2 s2 e s' I2 hq
  | ok fl =>
    cases fl with
    | ret u => exact I2.after hq
    | next => exact False.elim hq
    | brk => exact False.elim hq
    | cont => exact False.elim hq
section
variable {K : PySem.W.Frag} {σ : L2.St} {G G' H H' : Hp} {ta tb te tx : TE} {t u : TT} {d e z : D} {ds es : List D} {D' : Ends} {tu tz : TS}
theorem cad_repr (f : flatD d = true) (h1 : d.showable = true) (h2 : d.hasDict = false) (h3 : d.depth ≤ 64) (h4 : d.shown.length ≤ sizeLine) (hr : ∃ xs, d = .list xs) : CaD (rReprD K) G [d] (.str d.shown) := fun vs G1 H1 x w h Q q => by
  cases h with
  | cons h k =>
    cases k
    obtain ⟨xs, rfl⟩ := hr
    cases h with
    | lst hp hx => exact ⟨_, _, rfl, dp_of w (.lst hp hx) f, h1, h2, h3, h4, q _ G1 H1 (.refl w) (.str _)⟩
theorem opd_eqN (i j : Int) : OpD rEq G (.int i) (.int j) (.bool (decide (i = j))) := fun x y G1 H1 a b hx hy Q q => by
  cases hx
  cases hy
  refine ⟨rfl, ?_⟩
  have e : decide (V.int i = V.int j) = decide (i = j) := by rw [dec_int, Bool.eq_iff_iff]; simp
  rw [e]
  exact q _ G1 H1 (.refl b) (.bl _)
theorem opd_neB (i j : Bool) : OpD rNe G (.bool i) (.bool j) (.bool (!(i == j))) := fun x y G1 H1 a b hx hy Q q => by
  cases hx
  cases hy
  refine ⟨rfl, ?_⟩
  rw [dec_bl]
  exact q _ G1 H1 (.refl b) (.bl _)
theorem opd_neS (i : Str) : OpD rNe G (.str i) (.str i) (.bool false) := fun x y G1 H1 a b hx hy Q q => by
  cases hx
  cases hy
  refine ⟨rfl, ?_⟩
  have e : (!decide (V.str i = V.str i)) = false := by simp
  rw [e]
  exact q _ G1 H1 (.refl b) (.bl _)
theorem d_lenS {i : Nat} {a : Addr} {xs : List V} (h : σ[i]? = some (some (.ref a))) (hS : ∀ H, Ex G H → SqL K H a xs) : EvD (tCB (rLenA K) (tCons (tVar i) tNil)) σ G (.int (xs.length : Nat)) := fun G1 H1 x w Q q =>
  ⟨.ref a, h, a, xs, rfl, .inl (hS H1 (x.trans w)), q _ G1 H1 (.refl w) (.int _)⟩
/-- a for over a list that comes of steps of any kind -/
theorem q_forLR {g : TG} {tl : TE} (Pv : V → Hp → Prop) (hl : ∀ Q : VK, (∀ v H1, Pv v H1 → Q v H1) → tl σ H Q) (hk : ∀ v H1, Pv v H1 → tSeq (tFor (iList K (tC v)) g tu) tz D' σ H1) : tSeq (tFor (iList K tl) g tu) tz D' σ H := hl _ hk
/-- what is known, without tables of code -/
def noT (G : Hp) : Hp := fun b => match G b with
  | some (.tbl _) => none
  | x => x
theorem noT_at {G : Hp} {b : Addr} {o : HO} (h : G b = some o) (n : ∀ ps, o ≠ .tbl ps) : noT G b = some o := by
  unfold noT
  rw [h]
  cases o with
  | tbl ps => exact (n ps rfl).elim
  | _ => rfl
theorem of_noT {G : Hp} {b : Addr} {o : HO} (h : noT G b = some o) : G b = some o ∧ ∀ ps, o ≠ .tbl ps := by
  unfold noT at h
  cases e : G b with
  | none => rw [e] at h; cases h
  | some u =>
    rw [e] at h
    cases u with
    | tbl ps => cases h
    | _ => cases h; exact ⟨rfl, fun _ z => by cases z⟩
mutual
theorem Dq.noT {G : Hp} : ∀ {v : V} {d : D}, Dq G v d → Dq (noT G) v d
  | _, _, .non => .non
  | _, _, .bl b => .bl b
  | _, _, .int i => .int i
  | _, _, .str x => .str x
  | _, _, .lst h k => .lst (noT_at h fun _ z => by cases z) (DqA.noT k)
  | _, _, .tup h k => .tup (noT_at h fun _ z => by cases z) (DqA.noT k)
  | _, _, .emp h => .emp (noT_at h fun _ z => by cases z)
theorem DqA.noT {G : Hp} : ∀ {vs : List V} {ds : List D}, DqA G vs ds → DqA (noT G) vs ds
  | _, _, .nil => .nil
  | _, _, .cons h k => .cons (Dq.noT h) (DqA.noT k)
end
end

/-! ### the law's mathematics: all rows of one to four sizes with at most 24 places, one by one -/
def wholeF (n : List Int) : List Int := addUp n (placesOf n)
def evens (n : List Int) : Nat := (n.filter fun s => decide (s % 2 = 0)).length
theorem few_shown : (fewD.all fun n => decide ((PyData.shown (.list [dI (wholeF n), dI (wholeF n)])).length ≤ sizeLine) && PyData.showable (.list [dI (wholeF n), dI (wholeF n)])) = true := by decide +kernel
theorem few_math : (fewD.all fun n => (if (halvesOf n).length = 1 then decide ((halvesOf n)[0]? = some (wholeF n)) else decide (wholeF n = zeros n)) && (decide ((halvesOf n).length = 1) == decide (evens n = 1)) && decide ((halvesOf n).length ≤ 24) && decide ((placesOf n).length ≤ 24) && (placesOf n).all fun p => decide (p.length = n.length)) = true := by decide +kernel
end Mv


namespace Mv
open PySem L2 Evl
/-- p is a place of dials with these sizes -/
inductive InP : List Int → List Int → Prop
  | nil : InP [] []
  | cons {x s : Int} {p n : List Int} : 0 ≤ x → x < s → InP p n → InP (x :: p) (s :: n)
theorem InP.snoc {p n : List Int} {x s : Int} (h : InP p n) (h1 : 0 ≤ x) (h2 : x < s) : InP (p ++ [x]) (n ++ [s]) := by
  induction h with
  | nil => exact .cons h1 h2 .nil
  | cons a b _ ih => exact .cons a b ih
theorem InP.len {p n : List Int} (h : InP p n) : p.length = n.length := by
  induction h with
  | nil => rfl
  | cons _ _ _ ih => rw [List.length_cons, List.length_cons, ih]
theorem InP.grown {p n : List Int} (h : InP p n) : ∀ {found : List (List Int)} {b : List Int}, b ∈ found → b ++ p ∈ n.foldl grow found := by
  induction h with
  | nil => intro found b hb; rw [List.append_nil]; exact hb
  | @cons x s p n h1 h2 _ ih =>
    intro found b hb
    have : b ++ [x] ∈ grow found s := by
      unfold grow
      refine List.mem_flatMap.mpr ⟨b, hb, List.mem_map.mpr ⟨x.toNat, List.mem_range.mpr (by omega), ?_⟩⟩
      rw [Int.toNat_of_nonneg h1]
    have := ih this
    rw [List.append_assoc] at this
    exact this
theorem InP.mem {p n : List Int} (h : InP p n) : p ∈ placesOf n := h.grown (List.mem_singleton.mpr rfl)
theorem t_yes {σ : L2.St} {H : Hp} {k : Bool → Hp → Prop} (h : k true H) : tYes σ H k := h
/-- place(state, dials): a drawn place -/
def SpPlace : Sp := fun vs H Q _ => ∃ (G : Hp) (s l c : Addr) (T : Int) (v1 : V) (n : List Int), vs = [.ref s, v1] ∧ Dq G v1 (dI n) ∧ (∀ x ∈ n, 0 < x ∧ x ≤ 1000) ∧ n.length ≤ 1000 ∧ Wd G H s l c T ∧ T < 100000000000 ∧
  ∀ v p G' H', InP p n → Wd G' H' s l c (T + 1000) → StS [s, l, c] G H G' H' → Dq G' v (dI p) → Q v H'
abbrev s__law_place : Stmt := top 45
section
variable {P : Program} {w : World} {mg : Str → Option Value} {base : Heap} {K : PySem.W.Frag}
theorem ok__law_place {f : Addr} {fd : FuncData} (Z : Zs mg) (C__law_draw : Cal P w K mg base CX0 1 "_law_draw" ["state", "size_here"] SpDraw) (F : Fun K "_law_place" "_law_place" s__law_place f fd) : FnOk P w K mg base CX0 2 f fd ["state", "dials_here"] SpPlace := by
  have sc : FnScope ["state", "dials_here", "size_here"] ["state", "dials_here"] (defScope s__law_place) := ⟨rfl, rfl, rfl, by decide +kernel, rfl, by decide +kernel, by decide +kernel⟩
  refine F.ok sc (fun vs H Q E h => ?_) (fun cdv A outer s0 H vs Q E hr h => ?_)
  · obtain ⟨G, s, l, c, T, v1, n, rfl, _⟩ := h
    rfl
  · obtain ⟨G, s, l, c, T, v1, n, rfl, hv, hn, hl, wd, hT, k⟩ := h
    refine ⟨_, (pss_one (ps_ret (pe_callTy (r := rTupOf K) call_tuple_of (by rfl) Z.tuple (by decide +kernel) (pa_cons (pe_lc (own := [("size_here", 2)]) (g := gName 2) (tt := tYes) (by rfl) sc.nd (pi_tup (pv 1)) (blkOk_by (N := ["state", "dials_here", "size_here"]) (sc := defScope s__law_place) (by decide +kernel)) (fun _ _ _ _ _ => (pg_name (i := 2) sc.nd rfl (Or.inl rfl))) (fun _ _ _ _ _ => pts_nil) (fun _ _ _ _ _ => (pe_cal C__law_draw (hr.mono (by decide)) pass0 (pa_cons (pv 0) (pa_cons (pv 2) pa_nil))))) pa_nil)))), ?_⟩
    cases hv with
    | @tup a xs _ ha hxs =>
      have exs := hxs.ints
      subst exs
      refine ⟨.ref a, rfl, a, rfl, ⟨_, SqT.of (wd.w _ _ ha)⟩, fun q hq => ?_⟩
      have gq : G q = none := fresh_back wd.w hq
      obtain ⟨⟨o1, e1⟩, ⟨o2, e2⟩, o3, e3⟩ := wd.st.at
      have qs : q ≠ s ∧ q ≠ l ∧ q ≠ c := ⟨(ne_of_none e1 hq).symm, (ne_of_none e2 hq).symm, (ne_of_none e3 hq).symm⟩
      refine lc_tup (xs := n.map V.int) (fun i H' => StS [s, l, c] G H G H' ∧ Wd G H' s l c (T + (i : Int)) ∧ ∃ p : List Int, InP p (n.take i) ∧ H' q = some (.lst (p.map V.int))) ?_ (fun i H' _ m => SqT.of (m.2.1.w _ _ ha)) (fun i v H' hi m => ⟨rfl, ?_⟩) (fun H' m => ?_)
      · refine ⟨(StS.refl wd.w).mut hq gq, ?_, [], .nil, upd_same⟩
        have := wd.mut (o := .lst []) gq qs.1 qs.2.1 qs.2.2
        simpa using this
      · obtain ⟨ss, wd1, p, hp, hq1⟩ := m
        rw [List.getElem?_map] at hi
        obtain ⟨x, hx, rfl⟩ := Option.map_eq_some_iff.mp hi
        obtain ⟨x1, x2⟩ := hn x (List.mem_of_getElem? hx)
        have il : i < n.length := (List.getElem?_eq_some_iff.mp hx).1
        refine t_yes ?_
        rw [if_pos rfl]
        refine ⟨.ref s, rfl, .int x, rfl, G, s, l, c, _, x, rfl, wd1, x1, by omega, by omega, fun r H3 r1 r2 wd3 ss3 => ?_⟩
        have hq3 := ss3.h q _ (by simp [qs.1, qs.2.1, qs.2.2]) hq1
        have pl := hp.len
        rw [List.length_take] at pl
        refine ⟨_, hq3, by rw [List.length_map, sizeLine_eq]; omega, (ss.trans ss3).mut hq gq, ?_, p ++ [r], ?_, ?_⟩
        · have := wd3.mut (o := .lst (p.map V.int ++ [V.int r])) gq qs.1 qs.2.1 qs.2.2
          have e : T + ((i + 1 : Nat) : Int) = T + (i : Int) + 1 := by omega
          rw [e]; exact this
        · rw [take_more hx]; exact hp.snoc r1 r2
        · rw [upd_same, List.map_append]; rfl
      · obtain ⟨ss, wd1, p, hp, hq1⟩ := m
        rw [List.length_map, List.take_length] at hp
        rw [List.length_map] at wd1
        refine ⟨q, p.map V.int, rfl, .inl ⟨SqL.of hq1, fun t ht => ?_⟩⟩
        have s4 : Stp G H' (upd G t (.tup (p.map V.int))) (upd H' t (.tup (p.map V.int))) := Stp.new wd1.w ht
        refine k _ p _ _ hp ?_ (ss.trans s4.toS) (.tup upd_same (DqA.ofInts p))
        have w5 := wd1.stp s4
        exact ⟨w5.w, w5.st.ge (by omega), w5.gs, w5.gl, w5.gc⟩
end
end Mv


namespace Mv
open PySem L2 Evl
/-! ### places judged, places so many times -/
def mulP : List Int → List Int → Int → List Int
  | s :: n, x :: a, k => ((x * k) % s) :: mulP n a k
  | _, _, _ => []
def isTup (d : D) (m : Int) : Bool := match d with
  | .tuple xs => decide ((xs.length : Int) = m)
  | _ => false
def isPlace (n : List Int) (d : D) : Bool := match d with
  | .tuple xs => decide (xs.length = n.length) && (xs.zip n).all fun q => btw 0 (q.2 - 1) q.1
  | _ => false
/-- the least number of times from 1 on -/
def turnF (n p : List Int) : Nat := ((List.range 24).find? fun (i : Nat) => decide (mulP n p ((i : Int) + 1) = zeros n)).getD 0 + 1
theorem few_turn : (fewD.all fun n => (placesOf n).all fun p => ((List.range 24).find? fun (i : Nat) => decide (mulP n p ((i : Int) + 1) = zeros n)).isSome && isPlace n (dI p)) = true := by decide +kernel
theorem mul_D : ∀ (n a : List Int) (k : Int), made (fun _ => true) (fun q : D × D => match q with | (.int x, .int s) => PyData.int ((x * k) % s) | _ => .none) ((a.map PyData.int).zip (n.map PyData.int)) = (mulP n a k).map PyData.int
  | [], [], _ => rfl
  | [], _ :: _, _ => rfl
  | _ :: _, [], _ => rfl
  | s :: n, x :: a, k => by
    have ih := mul_D n a k
    unfold made at ih ⊢
    rw [List.filter_eq_self.mpr (fun _ _ => rfl)] at ih ⊢
    rw [List.map_cons, List.map_cons, List.zip_cons_cons, List.map_cons, ih]
    rfl
theorem zip_in (n a : List Int) {d e : D} (h : (d, e) ∈ (a.map PyData.int).zip (n.map PyData.int)) : ∃ x s : Int, d = .int x ∧ e = .int s ∧ s ∈ n := by
  obtain ⟨h1, h2⟩ := List.of_mem_zip h
  obtain ⟨x, _, rfl⟩ := List.mem_map.mp h1
  obtain ⟨s, hs, rfl⟩ := List.mem_map.mp h2
  exact ⟨x, s, rfl, rfl, hs⟩
theorem place_D : ∀ (xs : List D) (n : List Int), made (fun _ => true) (fun q : D × D => match q with | (d, .int s) => PyData.bool (btw 0 (s - 1) d) | _ => .none) (xs.zip (n.map PyData.int)) = ((xs.zip n).map fun q => btw 0 (q.2 - 1) q.1).map PyData.bool
  | [], _ => by unfold made; simp
  | _ :: _, [] => by unfold made; simp
  | d :: xs, s :: n => by
    have ih := place_D xs n
    unfold made at ih ⊢
    rw [List.filter_eq_self.mpr (fun _ _ => rfl)] at ih ⊢
    rw [List.map_cons, List.zip_cons_cons, List.map_cons, ih, List.zip_cons_cons, List.map_cons, List.map_cons]
def R_multiply (ds : List D) (z : D) : Prop := ∃ (n a : List Int) (k : Int), ds = [dI n, dI a, .int k] ∧ a.length = n.length ∧ n.length ≤ 1000 ∧ (∀ s ∈ n, 0 < s) ∧ (-(2 ^ 64) < k ∧ k < 2 ^ 64) ∧ z = dI (mulP n a k)
def R_is_tuple_of (ds : List D) (z : D) : Prop := ∃ (d : D) (m : Int), ds = [d, .int m] ∧ z = .bool (isTup d m)
def R_is_place (ds : List D) (z : D) : Prop := ∃ (n : List Int) (d : D), ds = [dI n, d] ∧ n.length ≤ 1000 ∧ z = .bool (isPlace n d)
def R_check_place (C : Addr) (ds : List D) (r : Except Addr D) : Prop := ∃ (n : List Int) (d : D), ds = [dI n, d] ∧ n.length ≤ 1000 ∧ r = if isPlace n d then .ok .none else .error C
def R_turn_of (C C' : Addr) (ds : List D) (r : Except Addr D) : Prop := ∃ d e : D, ds = [d, e] ∧ ((∃ n p, d = dI n ∧ e = dI p ∧ n ∈ fewD ∧ p ∈ placesOf n ∧ r = .ok (.int (turnF n p : Nat))) ∨ (isDials d = false ∧ r = .error C) ∨ (∃ n, d = dI n ∧ n ∈ fewD ∧ isPlace n e = false ∧ r = .error C'))
section
variable {K : PySem.W.Frag} {σ : L2.St} {G G' H H' : Hp} {te : TE} {D' : Ends} {tz : TS} {ds : List D}
/-- a call as a statement, which may raise -/
theorem q_callE {R : List D → Except Addr D → Prop} {E : XK} {tr : TA} {r : Except Addr D} (h : EvS tr σ G ds) (w : Ex G H) (hR : R ds r) (h1 : ∀ C, r = .error C → ∀ G1 H1, Stp G H G1 H1 → E (.ref C) none H1) (h2 : ∀ z, r = .ok z → ∀ G1 H1, Stp G H G1 H1 → tz D' σ H1) :
    tSeq (tDrop (tCall (SpE R) [] E tr)) tz D' σ H := h G H (.refl G) w _ fun vs G1 H1 s hv => by
  show SpE R (vs ++ []) H1 (fun _ H1 => tz D' σ H1) E
  rw [List.append_nil]
  exact ⟨G1, ds, r, s.w, hv, hR, fun z hz v G2 H2 s2 _ => h2 z hz G2 H2 (s.trans s2), fun C hC G2 H2 s2 => h1 C hC G2 H2 (s.trans s2)⟩
end
abbrev s_multiply : Stmt := top 7
abbrev s_is_tuple_of : Stmt := top 18
abbrev s_is_place : Stmt := top 21
abbrev s_check_place : Stmt := top 24
section
variable {P : Program} {w : World} {mg : Str → Option Value} {base : Heap} {K : PySem.W.Frag}
theorem ok_multiply {f : Addr} {fd : FuncData} (Z : Zs mg) (F : Fun K "multiply" "multiply" s_multiply f fd) : FnOk P w K mg base CX0 1 f fd ["dials", "place", "number"] (SpR R_multiply) := by
  have sc : FnScope ["dials", "place", "number", "at", "size"] ["dials", "place", "number"] (defScope s_multiply) := ⟨rfl, rfl, rfl, by decide +kernel, rfl, by decide +kernel, by decide +kernel⟩
  refine F.ok sc (fun vs H Q E h => ?_) (fun cdv A outer s H vs Q E hr h => ?_)
  · obtain ⟨G, ds, z, _, hv, ⟨n, a, k, rfl, _⟩, _⟩ := h
    exact hv.len
  · obtain ⟨G, ds, z, wf, hv, ⟨n, a, m, rfl, h1, h2, h3, h4, rfl⟩, k⟩ := h
    refine ⟨_, (pss_one (ps_ret (pe_callTy (r := rTupOf K) call_tuple_of (by rfl) Z.tuple (by decide +kernel) (pa_cons (pe_lc (own := [("at", 3), ("size", 4)]) (g := gTup K 2 (gCons (gName 3) (gCons (gName 4) gNil))) (tt := tYes) (by rfl) sc.nd (pi_zip2 false false (by rfl) Z.zip (pa_cons (pv 1) (pa_cons (pv 0) pa_nil))) (blkOk_by (N := ["dials", "place", "number", "at", "size"]) (sc := defScope s_multiply) (by decide +kernel)) (fun _ _ _ _ _ => (pg_tup rfl (pgs_cons (pg_name (i := 3) sc.nd rfl (Or.inl rfl)) (pgs_cons (pg_name (i := 4) sc.nd rfl (Or.inl rfl)) pgs_nil)))) (fun _ _ _ _ _ => pts_nil) (fun _ _ _ _ _ => (pe_op op_mod (pe_op op_mul (pv 3) (pv 2)) (pv 4)))) pa_nil)))), ?_⟩
    cases hv with
    | @cons v0 vs d ds hv0 hn =>
      cases hn with
      | @cons v1 vs d ds hv1 hn =>
        cases hn with
        | @cons v2 vs d ds hv2 hn =>
          cases hn
          refine s_ret (G := G) (d := dI (mulP n a m)) ?_ wf fun v G3 H3 s3 hv => k v G3 H3 s3 hv
          refine d_cb (a_cons ?_ a_nil) cad_tuple
          rw [← mul_D n a m]
          refine d_lcZ2 (k1 := false) (k2 := false) (as := a.map PyData.int) (bs := n.map PyData.int) (fun _ => true) _ (a_cons (d_var rfl hv1) (a_cons (d_var rfl hv0) a_nil)) (by rw [List.length_map]; omega) (by simp only [List.length_map]; omega) (fun _ _ => rfl) (fun _ _ _ _ _ _ _ _ _ => b_yes) ?_
          rintro x y da db G1 e1 hm hx hy _
          obtain ⟨i, s, rfl, rfl, hs⟩ := zip_in n a hm
          exact d_op (d_op (d_var rfl hx) (d_var rfl (hv2.mono e1)) (opd_I (.inr h4) fun _ => .int (i * m))) (d_var rfl hy) (opd_I (h3 s hs) fun _ => .int _)
theorem ok_is_tuple_of {f : Addr} {fd : FuncData} (Z : Zs mg) (F : Fun K "is_tuple_of" "is_tuple_of" s_is_tuple_of f fd) : FnOk P w K mg base CX0 1 f fd ["thing", "many"] (SpR R_is_tuple_of) := by
  have sc : FnScope ["thing", "many"] ["thing", "many"] (defScope s_is_tuple_of) := ⟨rfl, rfl, rfl, by decide +kernel, rfl, by decide +kernel, by decide +kernel⟩
  refine F.ok sc (fun vs H Q E h => ?_) (fun cdv A outer s H vs Q E hr h => ?_)
  · obtain ⟨G, ds, z, _, hv, ⟨d, m, rfl, _⟩, _⟩ := h
    exact hv.len
  · obtain ⟨G, ds, z, wf, hv, ⟨d, m, rfl, rfl⟩, k⟩ := h
    refine ⟨_, (pss_one (ps_ret (pe_and (pe_callB (r := rIsi K) call_isi (by rfl) Z.isinstance (by decide +kernel) (pa_cons (pv 0) (pa_cons (pe_bltn (v := .ty "tuple") (u := .type "tuple") (by rfl) Z.tuple (by decide +kernel) rfl) pa_nil))) (pe_one (pe_cmpR op_eq (pe_callB (r := rLenA K) call_len_seq (by rfl) Z.len PySem.boot_len (pa_cons (pv 0) pa_nil)) (pv 1) (nomark _)))))), ?_⟩
    cases hv with
    | @cons v0 vs d0 ds hv0 hn =>
      cases hn with
      | @cons v1 vs d1 ds hv1 hn =>
        cases hn
        refine s_ret (G := G) (d := .bool (isTup d m)) ?_ wf fun v G3 H3 s3 hv => k v G3 H3 s3 hv
        cases d with
        | tuple xs => exact (d_and (a := true) (d_isi (c := "tuple") (by decide) (d_var rfl hv0)) fun _ => d_op (d_cb (a_cons (d_var rfl hv0) a_nil) cad_lenT) (d_var rfl hv1) (opd_eqN _ _)).is rfl
        | _ => exact (d_and (a := false) (b := true) (d_isi (c := "tuple") (by decide) (d_var rfl hv0)) fun z => nomatch z).is rfl
theorem ok_is_place {f : Addr} {fd : FuncData} (Z : Zs mg) (C_is_tuple_of : Cal P w K mg base CX0 1 "is_tuple_of" ["thing", "many"] (SpR R_is_tuple_of)) (C_is_between : Cal P w K mg base CX0 2 "is_between" ["thing", "low", "high"] (SpR R_is_between)) (F : Fun K "is_place" "is_place" s_is_place f fd) : FnOk P w K mg base CX0 3 f fd ["dials", "thing"] (SpR R_is_place) := by
  have sc : FnScope ["dials", "thing", "at", "size"] ["dials", "thing"] (defScope s_is_place) := ⟨rfl, rfl, rfl, by decide +kernel, rfl, by decide +kernel, by decide +kernel⟩
  refine F.ok sc (fun vs H Q E h => ?_) (fun cdv A outer s H vs Q E hr h => ?_)
  · obtain ⟨G, ds, z, _, hv, ⟨n, d, rfl, _⟩, _⟩ := h
    exact hv.len
  · obtain ⟨G, ds, z, wf, hv, ⟨n, d, rfl, hl, rfl⟩, k⟩ := h
    refine ⟨_, (pss_cons (ps_if (pt_not (pt_val (pe_cal C_is_tuple_of (hr.mono (by decide)) pass0 (pa_cons (pv 1) (pa_cons (pe_callB (r := rLenA K) call_len_seq (by rfl) Z.len PySem.boot_len (pa_cons (pv 0) pa_nil)) pa_nil))))) (pss_one (ps_ret pe_bl)) pss_nil) (pss_one (ps_ret (pe_callB (r := rAll K) (cr_all (by rfl)) (by rfl) Z.all (by decide +kernel) (pa_cons (pe_lc (own := [("at", 2), ("size", 3)]) (g := gTup K 2 (gCons (gName 2) (gCons (gName 3) gNil))) (tt := tYes) (by rfl) sc.nd (pi_zip2 false false (by rfl) Z.zip (pa_cons (pv 1) (pa_cons (pv 0) pa_nil))) (blkOk_by (N := ["dials", "thing", "at", "size"]) (sc := defScope s_is_place) (by decide +kernel)) (fun _ _ _ _ _ => (pg_tup rfl (pgs_cons (pg_name (i := 2) sc.nd rfl (Or.inl rfl)) (pgs_cons (pg_name (i := 3) sc.nd rfl (Or.inl rfl)) pgs_nil)))) (fun _ _ _ _ _ => pts_nil) (fun _ _ _ _ _ => (pe_cal C_is_between (hr.mono (by decide)) pass0 (pa_cons (pv 2) (pa_cons pe_int (pa_cons (pe_op op_sub (pv 3) pe_int) pa_nil)))))) pa_nil))))), ?_⟩
    cases hv with
    | @cons v0 vs d0 ds hv0 hn =>
      cases hn with
      | @cons v1 vs d1 ds hv1 hn =>
        cases hn
        refine q_when (G := G) (b := !isTup d (n.length : Nat)) (b_not (b_B (d_cal (a_cons (d_var rfl hv1) (a_cons ((d_cb (a_cons (d_var rfl hv0) a_nil) cad_lenT).is (by rw [List.length_map])) a_nil)) ⟨d, _, rfl, rfl⟩))) wf (fun hb G1 H1 s1 => ?_) fun hb G1 H1 s1 => ?_
        · have e : isPlace n d = false := by
            cases d with
            | tuple xs =>
              have hb2 : decide ((xs.length : Int) = (n.length : Nat)) = false := by simpa [isTup] using hb
              have : decide (xs.length = n.length) = false := by
                have := of_decide_eq_false hb2
                exact (decide_eq_false (by omega))
              show (decide (xs.length = n.length) && _) = false
              rw [this]; rfl
            | _ => rfl
          refine s_ret (G := G1) (D' := { nx := _, rt := Q }) (d := .bool false) (d_c (.bl false)) s1.w fun v G3 H3 s3 hv => k v G3 H3 (s1.trans s3) (by rw [e]; exact hv)
        · have hb2 : isTup d (n.length : Nat) = true := by simpa using hb
          cases d with
          | tuple xs =>
            have hx : xs.length = n.length := by have := of_decide_eq_true hb2; omega
            have e : isPlace n (.tuple xs) = ((xs.zip n).map fun q => btw 0 (q.2 - 1) q.1).all id := by
              show (decide (xs.length = n.length) && (xs.zip n).all fun q => btw 0 (q.2 - 1) q.1) = _
              rw [decide_eq_true hx, List.all_map]
              rfl
            rw [e] at k
            have hv0' := hv0.mono s1.g
            have hv1' := hv1.mono s1.g
            refine s_ret (G := G1) (d := .bool _) (d_cb (a_cons ?_ a_nil) cad_all) s1.w fun v G3 H3 s3 hv => k v G3 H3 (s1.trans s3) hv
            rw [← place_D xs n]
            refine d_lcZ2 (k1 := false) (k2 := false) (as := xs) (bs := n.map PyData.int) (fun _ => true) _ (a_cons (d_var rfl hv1') (a_cons (d_var rfl hv0') a_nil)) (by omega) (by rw [List.length_map]; omega) (fun _ _ => rfl) (fun _ _ _ _ _ _ _ _ _ => b_yes) ?_
            rintro x y da db G2 e1 hm hx hy _
            obtain ⟨s, hs, rfl⟩ := List.mem_map.mp (List.of_mem_zip hm).2
            exact d_cal (a_cons (d_var rfl hx) (a_cons (d_c (.int 0)) (a_cons (d_op (d_var rfl hy) (d_c (.int 1)) (opd_I0 fun _ => .int (s - 1))) a_nil))) ⟨da, 0, s - 1, rfl, rfl⟩
          | _ => simp [isTup] at hb2
theorem ok_check_place {f C : Addr} {fd : FuncData} (B : ExcC K mg "BadPlace" C) (C_is_place : Cal P w K mg base CX0 3 "is_place" ["dials", "thing"] (SpR R_is_place)) (F : Fun K "check_place" "check_place" s_check_place f fd) : FnOk P w K mg base (L2.CX P w) 4 f fd ["dials", "place"] (SpE (R_check_place C)) := by
  have sc : FnScope ["dials", "place"] ["dials", "place"] (defScope s_check_place) := ⟨rfl, rfl, rfl, by decide +kernel, rfl, by decide +kernel, by decide +kernel⟩
  refine F.okX sc (fun vs H Q E h => ?_) (fun cdv A outer s H vs Q E hr h => ?_)
  · obtain ⟨G, ds, z, _, hv, ⟨n, d, rfl, _⟩, _⟩ := h
    exact hv.len
  · obtain ⟨G, ds, r, wf, hv, ⟨n, d, rfl, hl, rfl⟩, k, ke⟩ := h
    refine ⟨_, (pss_one (ps_if (pt_not (pt_val (pe_cal C_is_place (hr.mono (by decide)) pass0 (pa_cons (pv 0) (pa_cons (pv 1) pa_nil))))) (pss_one (ps_raise rfl (takes_of rfl rfl rfl rfl) (pmk_own PySem.F.excBase_ValueError B.ex B.g B.k (raises_own B.b B.t) rfl))) pss_nil)), ?_⟩
    cases hv with
    | @cons v0 vs d0 ds hv0 hn =>
      cases hn with
      | @cons v1 vs d1 ds hv1 hn =>
        cases hn
        refine s_if (G := G) (b := !isPlace n d) (b_not (b_B (d_cal (a_cons (d_var rfl hv0) (a_cons (d_var rfl hv1) a_nil)) ⟨n, d, rfl, hl, rfl⟩))) wf (fun hb G1 H1 s1 => ?_) fun hb G1 H1 s1 => ?_
        · exact ke C (by rw [if_neg (by simpa using hb)]) G1 H1 s1
        · exact k .none (by rw [if_pos (by simpa using hb)]) .non G1 H1 s1 .non
end
end Mv


namespace Mv
open PySem L2 Evl
/-! ### slices of tuples -/
def EvO (to : TO) (σ : L2.St) (G : Hp) (o : Option Int) : Prop := ∀ G1 H1, Ex G G1 → Ex G1 H1 → ∀ Q : Option Int → Hp → Prop, (∀ G2 H2, Stp G1 H1 G2 H2 → Q o H2) → to σ H1 Q
def cutD (ds : List D) (lo hi : Option Int) : List D := (ds.drop (HT.sIx ds.length 0 lo)).take (HT.sIx ds.length ds.length hi - HT.sIx ds.length 0 lo)
section
variable {K : PySem.W.Frag} {σ : L2.St} {G G' H H' : Hp} {te : TE} {tl th : TO} {ds : List D}
theorem o_none : EvO tNoPart σ G none := fun G1 H1 x w Q q => q G1 H1 (.refl w)
theorem o_some {i : Int} (h : EvD te σ G (.int i)) : EvO (tPart te) σ G (some i) := fun G1 H1 x w Q q => h G1 H1 x w _ fun v G2 H2 s hv => by
  cases hv
  exact ⟨i, rfl, q G2 H2 s⟩
theorem d_slT {lo hi : Option Int} (h : EvD te σ G (.tuple ds)) (hl : EvO tl σ G lo) (hh : EvO th σ G hi) : EvD (tSl (rSlA K) te tl th) σ G (.tuple (cutD ds lo hi)) := fun G1 H1 x w Q q =>
  h G1 H1 x w _ fun v G2 H2 s2 hv => hl G2 H2 (x.trans s2.g) s2.w _ fun G3 H3 s3 => hh G3 H3 ((x.trans s2.g).trans s3.g) s3.w _ fun G4 H4 s4 => by
    have hv4 := hv.mono (s3.g.trans s4.g)
    have s := (s2.trans s3).trans s4
    cases hv4 with
    | @tup a xs _ ha hxs =>
      have e := hxs.len
      refine ⟨a, xs, rfl, SqT.of (s4.w _ _ ha), fun ⟨c1, c2⟩ => ?_, fun _ p hp => ?_⟩
      · have z : cutD ds lo hi = ds := by
          unfold cutD
          rw [← e, c1, c2, Nat.sub_zero, List.drop_zero, e, List.take_length]
        rw [z] at q
        exact q _ G4 H4 s (.tup ha hxs)
      · have s5 := Stp.new (o := .tup (cutV xs lo hi)) s4.w hp
        have key : DqA G4 (cutV xs lo hi) (cutD ds lo hi) := by
          unfold cutV cutD
          rw [e]
          exact (hxs.drop _).take _
        exact q _ _ _ (s.trans s5) (.tup upd_same (key.mono s5.g))
end
theorem cut_lo {ds : List D} (i : Nat) (h : i ≤ ds.length) : cutD ds none (some (i : Int)) = ds.take i := by
  unfold cutD
  rw [HT.sIx_none, HT.sIx_nat, Nat.min_eq_left h, Nat.sub_zero, List.drop_zero]
theorem cut_hi {ds : List D} (i : Nat) (h : i ≤ ds.length) : cutD ds (some (i : Int)) none = ds.drop i := by
  unfold cutD
  rw [HT.sIx_none, HT.sIx_nat, Nat.min_eq_left h, List.take_of_length_le (by rw [List.length_drop]; exact Nat.le_refl _)]
theorem cut_last {ds : List D} (h : 1 ≤ ds.length) : (cutD ds none (some (-1))).length = ds.length - 1 := by
  unfold cutD
  rw [HT.sIx_none]
  have e : HT.sIx ds.length ds.length (some (-1)) = ds.length - 1 := by
    unfold HT.sIx
    simp only []
    rw [if_pos (by decide)]
    omega
  rw [e, Nat.sub_zero, List.drop_zero, List.length_take]
  omega
theorem noPlace_len {n : List Int} {ds : List D} (h : ds.length ≠ n.length) : isPlace n (.tuple ds) = false := by
  show (decide (ds.length = n.length) && _) = false
  rw [decide_eq_false h]; rfl
theorem noPlace_at {n : List Int} {ds : List D} {i : Nat} {d : D} {s : Int} (h1 : ds[i]? = some d) (h2 : n[i]? = some s) (h3 : btw 0 (s - 1) d = false) : isPlace n (.tuple ds) = false := by
  show (decide (ds.length = n.length) && (ds.zip n).all fun q => btw 0 (q.2 - 1) q.1) = false
  have h4 : (ds.zip n)[i]? = some (d, s) := List.getElem?_zip_eq_some.mpr ⟨h1, h2⟩
  have h5 : ((ds.zip n).all fun q => btw 0 (q.2 - 1) q.1) = false := by
    rw [List.all_eq_false]
    exact ⟨(d, s), List.mem_of_getElem? h4, by rw [h3]; exact Bool.false_ne_true⟩
  rw [h5, Bool.and_false]
/-- one item put in the place of another -/
theorem put_at {ds : List D} {i : Nat} {d : D} (h : i < ds.length) : (ds.take i ++ [d] ++ ds.drop (i + 1))[i]? = some d := by
  rw [List.append_assoc, List.getElem?_append_right (by rw [List.length_take]; omega), List.length_take]
  have e : i - min i ds.length = 0 := by omega
  rw [e]; rfl
/-! ### drawn dials -/
def menuD : List (List Int) := [[2], [3], [4], [2, 2], [5], [6], [2, 3], [7], [8], [2, 4], [2, 2, 2], [9], [3, 3], [10], [11], [12]] ++ [[2, 6], [3, 4], [13], [14], [15], [3, 5], [16], [4, 4], [2, 8], [2, 2, 4], [2, 2, 2, 2], [17], [18], [3, 6]] ++ [[19], [20], [2, 10], [21], [22], [23], [24], [2, 12], [4, 6], [2, 2, 6], [2, 2, 2, 3]]
theorem menu_few : (menuD.all fun n => fewD.contains n) = true := by decide +kernel
def cntD : D → Bool
  | .tuple xs => decide (prod (intsD xs) ≤ 24)
  | _ => false
theorem menu_ne : (made cntD id (menuD.map dI)).length = 41 := by decide +kernel
def SpDials : Sp := fun vs H Q _ => ∃ (G : Hp) (s l c : Addr) (T : Int), vs = [.ref s, .int 24] ∧ Wd G H s l c T ∧ T < 1000000000000 ∧ ∀ v n G' H', n ∈ fewD → Wd G' H' s l c (T + 1) → StS [s, l, c] G H G' H' → Dq G' v (dI n) → Q v H'
def R_law_halves (ds : List D) (z : D) : Prop := R_all_halves ds z
def SpBool : Sp := fun vs H Q _ => ∃ (G : Hp) (s l c : Addr) (T : Int) (v1 : V) (p n : List Int), vs = [.ref s, v1] ∧ Dq G v1 (dI p) ∧ InP p n ∧ 1 ≤ n.length ∧ n.length ≤ 1000 ∧ Wd G H s l c T ∧ T < 1000000000000 ∧
  ∀ v d G' H', isPlace n d = false → Wd G' H' s l c (T + 1) → StS [s, l, c] G H G' H' → Dq G' v d → Q v H'
abbrev s__law_dials : Stmt := top 39
abbrev s__law_bool_place : Stmt := top 46
abbrev s__law_bad_place : Stmt := top 47
section
variable {P : Program} {w : World} {mg : Str → Option Value} {base : Heap} {K : PySem.W.Frag}
theorem ok__law_dials {f : Addr} {fd : FuncData} (C__law_count : Cal P w K mg base CX0 1 "_law_count" ["dials_here"] (SpR R_place_count)) (C__law_pick : Cal P w K mg base CX0 2 "_law_pick" ["state", "several"] SpPick) (F : Fun K "_law_dials" "_law_dials" s__law_dials f fd) : FnOk P w K mg base CX0 3 f fd ["state", "most"] SpDials := by
  have sc : FnScope ["state", "most", "some", "dials_here"] ["state", "most"] (defScope s__law_dials) := ⟨rfl, rfl, rfl, by decide +kernel, rfl, by decide +kernel, by decide +kernel⟩
  refine F.ok sc (fun vs H Q E h => ?_) (fun cdv A outer s0 H vs Q E hr h => ?_)
  · obtain ⟨G, s, l, c, T, rfl, _⟩ := h
    rfl
  · obtain ⟨G, s, l, c, T, rfl, wd, hT, k⟩ := h
    refine ⟨_, (pss_cons (ps_set (i := 2) sc.nd rfl (Or.inl rfl) (pe_lst (pa_cons (pe_tup (pa_cons pe_int pa_nil)) (pa_cons (pe_tup (pa_cons pe_int pa_nil)) (pa_cons (pe_tup (pa_cons pe_int pa_nil)) (pa_cons (pe_tup (pa_cons pe_int (pa_cons pe_int pa_nil))) (pa_cons (pe_tup (pa_cons pe_int pa_nil)) (pa_cons (pe_tup (pa_cons pe_int pa_nil)) (pa_cons (pe_tup (pa_cons pe_int (pa_cons pe_int pa_nil))) (pa_cons (pe_tup (pa_cons pe_int pa_nil)) (pa_cons (pe_tup (pa_cons pe_int pa_nil)) (pa_cons (pe_tup (pa_cons pe_int (pa_cons pe_int pa_nil))) (pa_cons (pe_tup (pa_cons pe_int (pa_cons pe_int (pa_cons pe_int pa_nil)))) (pa_cons (pe_tup (pa_cons pe_int pa_nil)) (pa_cons (pe_tup (pa_cons pe_int (pa_cons pe_int pa_nil))) (pa_cons (pe_tup (pa_cons pe_int pa_nil)) (pa_cons (pe_tup (pa_cons pe_int pa_nil)) (pa_cons (pe_tup (pa_cons pe_int pa_nil)) pa_nil)))))))))))))))))) (pss_cons (ps_set (i := 2) sc.nd rfl (Or.inl rfl) (pe_op op_cat (pv 2) (pe_lst (pa_cons (pe_tup (pa_cons pe_int (pa_cons pe_int pa_nil))) (pa_cons (pe_tup (pa_cons pe_int (pa_cons pe_int pa_nil))) (pa_cons (pe_tup (pa_cons pe_int pa_nil)) (pa_cons (pe_tup (pa_cons pe_int pa_nil)) (pa_cons (pe_tup (pa_cons pe_int pa_nil)) (pa_cons (pe_tup (pa_cons pe_int (pa_cons pe_int pa_nil))) (pa_cons (pe_tup (pa_cons pe_int pa_nil)) (pa_cons (pe_tup (pa_cons pe_int (pa_cons pe_int pa_nil))) (pa_cons (pe_tup (pa_cons pe_int (pa_cons pe_int pa_nil))) (pa_cons (pe_tup (pa_cons pe_int (pa_cons pe_int (pa_cons pe_int pa_nil)))) (pa_cons (pe_tup (pa_cons pe_int (pa_cons pe_int (pa_cons pe_int (pa_cons pe_int pa_nil))))) (pa_cons (pe_tup (pa_cons pe_int pa_nil)) (pa_cons (pe_tup (pa_cons pe_int pa_nil)) (pa_cons (pe_tup (pa_cons pe_int (pa_cons pe_int pa_nil))) pa_nil))))))))))))))))) (pss_cons (ps_set (i := 2) sc.nd rfl (Or.inl rfl) (pe_op op_cat (pv 2) (pe_lst (pa_cons (pe_tup (pa_cons pe_int pa_nil)) (pa_cons (pe_tup (pa_cons pe_int pa_nil)) (pa_cons (pe_tup (pa_cons pe_int (pa_cons pe_int pa_nil))) (pa_cons (pe_tup (pa_cons pe_int pa_nil)) (pa_cons (pe_tup (pa_cons pe_int pa_nil)) (pa_cons (pe_tup (pa_cons pe_int pa_nil)) (pa_cons (pe_tup (pa_cons pe_int pa_nil)) (pa_cons (pe_tup (pa_cons pe_int (pa_cons pe_int pa_nil))) (pa_cons (pe_tup (pa_cons pe_int (pa_cons pe_int pa_nil))) (pa_cons (pe_tup (pa_cons pe_int (pa_cons pe_int (pa_cons pe_int pa_nil)))) (pa_cons (pe_tup (pa_cons pe_int (pa_cons pe_int (pa_cons pe_int (pa_cons pe_int pa_nil))))) pa_nil)))))))))))))) (pss_one (ps_ret (pe_cal C__law_pick (hr.mono (by decide)) pass0 (pa_cons (pv 0) (pa_cons (pe_lc (own := [("dials_here", 3)]) (g := gName 3) (tt := _) (by rfl) sc.nd (pi_list (pv 2)) (blkOk_by (N := ["state", "most", "some", "dials_here"]) (sc := defScope s__law_dials) (by decide +kernel)) (fun _ _ _ _ _ => (pg_name (i := 3) sc.nd rfl (Or.inl rfl))) (fun _ _ _ _ _ => (pts_one (pt_cmpR op_le (pe_cal C__law_count (hr.mono (by decide)) pass0 (pa_cons (pv 3) pa_nil)) (pv 1) (nomark _)))) (fun _ _ _ _ _ => (pv 3))) pa_nil)))))))), ?_⟩
    refine q_asg (G := G) (d := dL [[2], [3], [4], [2, 2], [5], [6], [2, 3], [7], [8], [2, 4], [2, 2, 2], [9], [3, 3], [10], [11], [12]]) (d_lst (a_cons (d_tup (a_cons (d_c (.int 2)) a_nil) (by show 1 ≤ sizeLine; decide)) (a_cons (d_tup (a_cons (d_c (.int 3)) a_nil) (by show 1 ≤ sizeLine; decide)) (a_cons (d_tup (a_cons (d_c (.int 4)) a_nil) (by show 1 ≤ sizeLine; decide)) (a_cons (d_tup (a_cons (d_c (.int 2)) (a_cons (d_c (.int 2)) a_nil)) (by show 2 ≤ sizeLine; decide)) (a_cons (d_tup (a_cons (d_c (.int 5)) a_nil) (by show 1 ≤ sizeLine; decide)) (a_cons (d_tup (a_cons (d_c (.int 6)) a_nil) (by show 1 ≤ sizeLine; decide)) (a_cons (d_tup (a_cons (d_c (.int 2)) (a_cons (d_c (.int 3)) a_nil)) (by show 2 ≤ sizeLine; decide)) (a_cons (d_tup (a_cons (d_c (.int 7)) a_nil) (by show 1 ≤ sizeLine; decide)) (a_cons (d_tup (a_cons (d_c (.int 8)) a_nil) (by show 1 ≤ sizeLine; decide)) (a_cons (d_tup (a_cons (d_c (.int 2)) (a_cons (d_c (.int 4)) a_nil)) (by show 2 ≤ sizeLine; decide)) (a_cons (d_tup (a_cons (d_c (.int 2)) (a_cons (d_c (.int 2)) (a_cons (d_c (.int 2)) a_nil))) (by show 3 ≤ sizeLine; decide)) (a_cons (d_tup (a_cons (d_c (.int 9)) a_nil) (by show 1 ≤ sizeLine; decide)) (a_cons (d_tup (a_cons (d_c (.int 3)) (a_cons (d_c (.int 3)) a_nil)) (by show 2 ≤ sizeLine; decide)) (a_cons (d_tup (a_cons (d_c (.int 10)) a_nil) (by show 1 ≤ sizeLine; decide)) (a_cons (d_tup (a_cons (d_c (.int 11)) a_nil) (by show 1 ≤ sizeLine; decide)) (a_cons (d_tup (a_cons (d_c (.int 12)) a_nil) (by show 1 ≤ sizeLine; decide)) a_nil)))))))))))))))) (by show 16 ≤ sizeLine; decide)) wd.w fun v2 G1 H1 s1 h1 => ?_
    refine q_asg (G := G1) (d := dL ([[2], [3], [4], [2, 2], [5], [6], [2, 3], [7], [8], [2, 4], [2, 2, 2], [9], [3, 3], [10], [11], [12]] ++ [[2, 6], [3, 4], [13], [14], [15], [3, 5], [16], [4, 4], [2, 8], [2, 2, 4], [2, 2, 2, 2], [17], [18], [3, 6]])) (d_op (d_var rfl h1) (d_lst (a_cons (d_tup (a_cons (d_c (.int 2)) (a_cons (d_c (.int 6)) a_nil)) (by show 2 ≤ sizeLine; decide)) (a_cons (d_tup (a_cons (d_c (.int 3)) (a_cons (d_c (.int 4)) a_nil)) (by show 2 ≤ sizeLine; decide)) (a_cons (d_tup (a_cons (d_c (.int 13)) a_nil) (by show 1 ≤ sizeLine; decide)) (a_cons (d_tup (a_cons (d_c (.int 14)) a_nil) (by show 1 ≤ sizeLine; decide)) (a_cons (d_tup (a_cons (d_c (.int 15)) a_nil) (by show 1 ≤ sizeLine; decide)) (a_cons (d_tup (a_cons (d_c (.int 3)) (a_cons (d_c (.int 5)) a_nil)) (by show 2 ≤ sizeLine; decide)) (a_cons (d_tup (a_cons (d_c (.int 16)) a_nil) (by show 1 ≤ sizeLine; decide)) (a_cons (d_tup (a_cons (d_c (.int 4)) (a_cons (d_c (.int 4)) a_nil)) (by show 2 ≤ sizeLine; decide)) (a_cons (d_tup (a_cons (d_c (.int 2)) (a_cons (d_c (.int 8)) a_nil)) (by show 2 ≤ sizeLine; decide)) (a_cons (d_tup (a_cons (d_c (.int 2)) (a_cons (d_c (.int 2)) (a_cons (d_c (.int 4)) a_nil))) (by show 3 ≤ sizeLine; decide)) (a_cons (d_tup (a_cons (d_c (.int 2)) (a_cons (d_c (.int 2)) (a_cons (d_c (.int 2)) (a_cons (d_c (.int 2)) a_nil)))) (by show 4 ≤ sizeLine; decide)) (a_cons (d_tup (a_cons (d_c (.int 17)) a_nil) (by show 1 ≤ sizeLine; decide)) (a_cons (d_tup (a_cons (d_c (.int 18)) a_nil) (by show 1 ≤ sizeLine; decide)) (a_cons (d_tup (a_cons (d_c (.int 3)) (a_cons (d_c (.int 6)) a_nil)) (by show 2 ≤ sizeLine; decide)) a_nil)))))))))))))) (by show 14 ≤ sizeLine; decide)) (opd_cat (by show 16 + 14 ≤ sizeLine; decide))) s1.w fun v3 G2 H2 s2 h2 => ?_
    refine q_asg (G := G2) (d := dL menuD) (d_op (d_var rfl h2) (d_lst (a_cons (d_tup (a_cons (d_c (.int 19)) a_nil) (by show 1 ≤ sizeLine; decide)) (a_cons (d_tup (a_cons (d_c (.int 20)) a_nil) (by show 1 ≤ sizeLine; decide)) (a_cons (d_tup (a_cons (d_c (.int 2)) (a_cons (d_c (.int 10)) a_nil)) (by show 2 ≤ sizeLine; decide)) (a_cons (d_tup (a_cons (d_c (.int 21)) a_nil) (by show 1 ≤ sizeLine; decide)) (a_cons (d_tup (a_cons (d_c (.int 22)) a_nil) (by show 1 ≤ sizeLine; decide)) (a_cons (d_tup (a_cons (d_c (.int 23)) a_nil) (by show 1 ≤ sizeLine; decide)) (a_cons (d_tup (a_cons (d_c (.int 24)) a_nil) (by show 1 ≤ sizeLine; decide)) (a_cons (d_tup (a_cons (d_c (.int 2)) (a_cons (d_c (.int 12)) a_nil)) (by show 2 ≤ sizeLine; decide)) (a_cons (d_tup (a_cons (d_c (.int 4)) (a_cons (d_c (.int 6)) a_nil)) (by show 2 ≤ sizeLine; decide)) (a_cons (d_tup (a_cons (d_c (.int 2)) (a_cons (d_c (.int 2)) (a_cons (d_c (.int 6)) a_nil))) (by show 3 ≤ sizeLine; decide)) (a_cons (d_tup (a_cons (d_c (.int 2)) (a_cons (d_c (.int 2)) (a_cons (d_c (.int 2)) (a_cons (d_c (.int 3)) a_nil)))) (by show 4 ≤ sizeLine; decide)) a_nil))))))))))) (by show 11 ≤ sizeLine; decide)) (opd_cat (by show 30 + 11 ≤ sizeLine; decide))) s2.w fun v4 G3 H3 s3 h3 => ?_
    refine ⟨.ref s, rfl, ?_⟩
    have ev : EvD (tLc (iList K (tVar 2)) (gName 3) (tTest (tOp (rI0 fun i j => .bl (decide (i ≤ j))) (tCall (SpR R_place_count) [] E0 (tCons (tVar 3) tNil)) (tVar 1))) (tVar 3) [3]) [some (.ref s), some (.int 24), some v4, none] G3 (.list (made cntD id (menuD.map dI))) :=
      d_lcL cntD id (d_var rfl h3) (by show 41 ≤ 1000000; decide) (fun _ => rfl) (fun v a G4 e4 ha hq => by
        obtain ⟨n, hn, rfl⟩ := List.mem_map.mp ha
        have hf := List.all_eq_true.mp menu_few n hn
        have okd := okB_ok (List.all_eq_true.mp few_ok n (by simpa using hf))
        refine (b_test (d_op (d_cal (a_cons (d_var rfl hq) a_nil) ⟨n, rfl, fun s hs => by have := okd.sz s hs; omega, rfl⟩) (d_var rfl (.int 24)) (opd_I0 fun _ => .bl _))).is ?_
        show decide (prod n ≤ 24) = decide (prod (intsD (n.map PyData.int)) ≤ 24)
        rw [intsD_map]) (fun v a G4 e4 ha hq _ => d_var rfl hq)
    refine ev G3 H3 (.refl G3) s3.w _ fun v G4 H4 s4 hv => ?_
    have sAll := ((s1.trans s2).trans s3).trans s4
    have ne : made cntD id (menuD.map dI) ≠ [] := fun z => by
      have := menu_ne
      rw [z] at this
      cases this
    refine ⟨G4, s, l, c, T, v, _, rfl, hv, ne, by rw [menu_ne]; decide, wd.stp sAll, hT, fun u d H5 hd hq wd5 ss5 => ?_⟩
    have hd2 : d ∈ menuD.map dI := by
      unfold made at hd
      rw [List.map_id] at hd
      exact (List.mem_filter.mp hd).1
    obtain ⟨n, hn, rfl⟩ := List.mem_map.mp hd2
    exact k u n G4 H5 (by have := List.all_eq_true.mp menu_few n hn; simpa using this) wd5 (sAll.toS.trans ss5) hq
end
end Mv


namespace Mv
open PySem L2 Evl
section
variable {K : PySem.W.Frag} {σ : L2.St} {G G' H H' : Hp} {ta te : TE} {tr : TA} {ds : List D} {d : D}
theorem ev_cons {Q : List V → Hp → Prop} (h : EvD ta σ G d) (w : Ex G H) (k : ∀ v G1 H1, Stp G H G1 H1 → Dq G1 v d → tr σ H1 fun vs H2 => Q (v :: vs) H2) : tCons ta tr σ H Q := h G H (.refl G) w _ k
theorem cad_listT : CaD (rListOf K) G [.tuple ds] (.list ds) := fun vs G1 H1 x w h Q q => by
  cases h with
  | cons h k =>
    cases k
    cases h with
    | @tup p xs _ hp hx =>
      refine ⟨_, _, rfl, .inr (SqT.of (w _ _ hp)), fun l hl => ?_⟩
      have s2 := Stp.new (o := .lst xs) w hl
      exact q _ _ _ s2 (.lst upd_same (hx.mono s2.g))
end
def lowE : Nat × D → Bool := fun q => match q.2 with
  | .int x => decide (x < 2)
  | _ => false
def idxF (p : List Int) : List Int := (((List.range p.length).zip (p.map PyData.int)).filter lowE).map fun q => (q.1 : Int)
theorem idx_D (p : List Int) : made lowE (fun q => PyData.int (q.1 : Int)) ((List.range (p.map PyData.int).length).zip (p.map PyData.int)) = (idxF p).map PyData.int := by
  unfold made idxF
  rw [List.map_map, List.length_map]
  rfl
theorem idx_in {p : List Int} {i : Int} (h : i ∈ idxF p) : ∃ j : Nat, i = (j : Int) ∧ ∃ x : Int, p[j]? = some x := by
  obtain ⟨q, hq, rfl⟩ := List.mem_map.mp h
  have h1 := (List.mem_filter.mp hq).1
  obtain ⟨j, d⟩ := q
  obtain ⟨m, hm⟩ := List.mem_iff_getElem?.mp h1
  obtain ⟨h2, h3⟩ := List.getElem?_zip_eq_some.mp hm
  have e : m = j := by
    have lt : m < p.length := by have := (List.getElem?_eq_some_iff.mp h2).1; simpa using this
    rw [List.getElem?_range lt] at h2
    exact Option.some.inj h2
  subst e
  rw [List.getElem?_map] at h3
  obtain ⟨x, hx, _⟩ := Option.map_eq_some_iff.mp h3
  exact ⟨m, rfl, x, hx⟩
theorem flat_lI (a : List Int) : flatD (.list (a.map PyData.int)) = true := by
  have h := flat_dI a
  unfold dI at h
  simpa [flatD] using h
theorem shaped_int (x : Int) : SeqAt.shaped (.int x) = true := by simp [SeqAt.shaped, PyData.canLay0, PyData.depth]
def SpBadPlace : Sp := fun vs H Q _ => ∃ (G : Hp) (s l c : Addr) (T : Int) (v1 : V) (n : List Int), vs = [.ref s, v1] ∧ Dq G v1 (dI n) ∧ n ∈ fewD ∧ Wd G H s l c T ∧ T < 100000000000 - 2000 ∧
  ∀ v d G' H', isPlace n d = false → Wd G' H' s l c (T + 2000) → StS [s, l, c] G H G' H' → Dq G' v d → Q v H'
section
variable {P : Program} {w : World} {mg : Str → Option Value} {base : Heap} {K : PySem.W.Frag}
theorem ok__law_bool_place {f : Addr} {fd : FuncData} (Z_enumerate : mg "enumerate" = none) (C__law_pick : Cal P w K mg base CX0 2 "_law_pick" ["state", "several"] SpPick) (F : Fun K "_law_bool_place" "_law_bool_place" s__law_bool_place f fd) : FnOk P w K mg base CX0 3 f fd ["state", "place_here"] SpBool := by
  have sc : FnScope ["state", "place_here", "spots_here", "spot", "item"] ["state", "place_here"] (defScope s__law_bool_place) := ⟨rfl, rfl, rfl, by decide +kernel, rfl, by decide +kernel, by decide +kernel⟩
  refine F.ok sc (fun vs H Q E h => ?_) (fun cdv A outer s0 H vs Q E hr h => ?_)
  · obtain ⟨G, s, l, c, T, v1, p, n, rfl, _⟩ := h
    rfl
  · obtain ⟨G, s, l, c, T, v1, p, n, rfl, hv, inp, l1, l2, wd, hT, k⟩ := h
    refine ⟨_, (pss_cons (ps_setLc (i := 2) (own := [("spot", 3), ("item", 4)]) (g := gTup K 2 (gCons (gName 3) (gCons (gName 4) gNil))) (tt := _) (by rfl) sc.nd rfl rfl (sw_true rfl rfl rfl (by decide +kernel)) (pi_enumk false (by rfl) Z_enumerate (pa_cons (pv 1) pa_nil)) (blkOk_by (N := ["state", "place_here", "spots_here", "spot", "item"]) (sc := defScope s__law_bool_place) (by decide +kernel)) (fun _ _ _ _ _ => (pg_tup rfl (pgs_cons (pg_name (i := 3) sc.nd rfl (Or.inl rfl)) (pgs_cons (pg_name (i := 4) sc.nd rfl (Or.inl rfl)) pgs_nil)))) (fun _ _ _ _ _ => (pts_one (pt_cmpR op_lt (pv 4) pe_int (nomark _)))) (fun _ _ _ _ _ => (pv 3))) (pss_cons (ps_if (pt_cmpR (r := rEqD K) (op_eqD hr.units) (pv 2) (pe_lst pa_nil) (nomark _)) (pss_one (ps_ret (pe_slice (r := rSlA K) sl_tupA (pv 1) po_none (po_some (pe_un un_neg pe_int))))) pss_nil) (pss_cons (ps_set (i := 3) sc.nd rfl (Or.inl rfl) (pe_cal C__law_pick (hr.mono (by decide)) pass0 (pa_cons (pv 0) (pa_cons (pv 2) pa_nil)))) (pss_one (ps_ret (pe_op (r := rCatA K) op_catA (pe_op (r := rCatA K) op_catA (pe_slice (r := rSlA K) sl_tupA (pv 1) po_none (po_some (pv 3))) (pe_tup (pa_cons (pe_cmpR (r := rEqD K) (op_eqD hr.units) (pe_ix (r := rIxT K) ix_tup (pv 1) (pv 3) (fun _ _ => rfl)) pe_int (nomark _)) pa_nil))) (pe_slice (r := rSlA K) sl_tupA (pv 1) (po_some (pe_op op_add (pv 3) pe_int)) po_none))))))), ?_⟩
    have pl := inp.len
    refine q_asg (G := G) (d := .list ((idxF p).map PyData.int)) ?_ wd.w fun v2 G1 H1 s1 h2 => ?_
    · rw [← idx_D p]
      refine d_lcE (k1 := false) lowE _ (a_cons (d_var rfl hv) a_nil) (by rw [List.length_map]; omega) (fun _ _ => rfl) (fun y m b G1 e1 hb hy => ?_) (fun y m b G1 e1 hb hy _ => d_var rfl (.int _))
      rw [List.getElem?_map] at hb
      obtain ⟨x, hx, rfl⟩ := Option.map_eq_some_iff.mp hb
      exact b_test (d_op (d_var rfl hy) (d_c (.int 2)) (opd_I0 fun _ => .bl _))
    have hv1 := hv.mono s1.g
    have wd1 := wd.stp s1
    have hlen : (p.map PyData.int).length = n.length := by rw [List.length_map, pl]
    refine q_when (G := G1) (b := (idxF p).isEmpty) ((b_test (d_op (d_var rfl h2) (d_lst a_nil (by decide)) (opd_eq (flat_lI _) rfl (shaped_lI _) (by decide +kernel)))).is (eqv_nil _)) wd1.w (fun hb G2 H2 s2 => ?_) fun hb G2 H2 s2 => ?_
    · refine s_ret (G := G2) (D' := { nx := _, rt := Q }) (d := .tuple (cutD (p.map PyData.int) none (some (-1)))) (d_slT (d_var rfl (hv1.mono s2.g)) o_none (o_some (d_un (d := .int 1) (d_c (.int 1)) (opd_U 1)))) (wd1.stp s2).w fun v G3 H3 s3 h3 => ?_
      have wd3 := (wd1.stp s2).stp s3
      exact k v _ G3 H3 (noPlace_len (by rw [cut_last (by omega)]; omega)) ⟨wd3.w, wd3.st.ge (by omega), wd3.gs, wd3.gl, wd3.gc⟩ ((s1.trans s2).trans s3).toS h3
    · have wd2 := wd1.stp s2
      have ne : (idxF p).map PyData.int ≠ [] := fun z => by
        rw [List.map_eq_nil_iff] at z
        rw [z] at hb
        cases hb
      have il : ((idxF p).map PyData.int).length < 1000000 := by
        rw [← idx_D p]
        have h1 := made_len lowE (fun q => PyData.int (q.1 : Int)) ((List.range (p.map PyData.int).length).zip (p.map PyData.int))
        rw [List.length_zip, List.length_range] at h1
        omega
      refine ⟨.ref s, rfl, v2, rfl, G2, s, l, c, T, v2, _, rfl, h2.mono s2.g, ne, il, wd2, hT, fun u d H5 hd hq wd5 ss5 => ?_⟩
      obtain ⟨iz, hiz, rfl⟩ := List.mem_map.mp hd
      obtain ⟨i, rfl, x, hx⟩ := idx_in hiz
      cases hq
      have ilt : i < p.length := (List.getElem?_eq_some_iff.mp hx).1
      have hv2 := hv1.mono s2.g
      dsimp only [gName]
      refine s_ret (G := G2) (d := .tuple ((p.map PyData.int).take i ++ [.bool (PyData.eqv (.int x) (.int 1))] ++ (p.map PyData.int).drop (i + 1))) ?_ wd5.w fun v G3 H3 s3 h3 => ?_
      · have e1 := cut_lo (ds := p.map PyData.int) i (by rw [List.length_map]; omega)
        have e2 := cut_hi (ds := p.map PyData.int) (i + 1) (by rw [List.length_map]; omega)
        rw [← e1, ← e2]
        refine d_op (d_op (d_slT (d_var rfl hv2) o_none (o_some (d_var rfl (.int _)))) (d_tup (a_cons (d_op (d_op (d_var rfl hv2) (d_var rfl (.int _)) (opd_ixT (j := i) (by rw [List.getElem?_map, hx]; rfl))) (d_c (.int 1)) (opd_eq rfl rfl (shaped_int _) (shaped_int _))) a_nil) (by show 1 ≤ sizeLine; decide)) (opd_catT ?_)) (d_slT (d_var rfl hv2) (o_some ((d_op (d_var rfl (.int _)) (d_c (.int 1)) (opd_I0 fun _ => .int _)).is ?_)) o_none) (opd_catT ?_)
        · rw [e1, List.length_take, sizeLine_eq]; show _ + 1 ≤ _; rw [List.length_map]; omega
        · rfl
        · rw [e1, e2, List.length_append, List.length_take, List.length_drop, sizeLine_eq, List.length_map]; show _ + 1 + _ ≤ _; omega
      · have il2 : i < n.length := by omega
        have hs : n[i]? = some n[i] := List.getElem?_eq_getElem il2
        exact k v _ G3 H3 (noPlace_at (put_at (by rw [List.length_map]; exact ilt)) hs rfl) (wd5.stp s3) ((s1.trans s2).toS.trans (ss5.trans s3.toS)) h3
end
end Mv


namespace Mv
open PySem L2 Evl
section
variable {P : Program} {w : World} {mg : Str → Option Value} {base : Heap} {K : PySem.W.Frag}
theorem ok__law_bad_place {f : Addr} {fd : FuncData} (Z : Zs mg) (C__law_place : Cal P w K mg base CX0 2 "_law_place" ["state", "dials_here"] SpPlace) (C__law_draw : Cal P w K mg base CX0 1 "_law_draw" ["state", "size_here"] SpDraw) (C__law_bool_place : Cal P w K mg base CX0 3 "_law_bool_place" ["state", "place_here"] SpBool) (C__law_pick : Cal P w K mg base CX0 2 "_law_pick" ["state", "several"] SpPick) (F : Fun K "_law_bad_place" "_law_bad_place" s__law_bad_place f fd) : FnOk P w K mg base CX0 4 f fd ["state", "dials_here"] SpBadPlace := by
  have sc : FnScope ["state", "dials_here", "place_here", "spot", "some", "item"] ["state", "dials_here"] (defScope s__law_bad_place) := ⟨rfl, rfl, rfl, by decide +kernel, rfl, by decide +kernel, by decide +kernel⟩
  refine F.ok sc (fun vs H Q E h => ?_) (fun cdv A outer s0 H vs Q E hr h => ?_)
  · obtain ⟨G, s, l, c, T, v1, n, rfl, _⟩ := h
    rfl
  · obtain ⟨G, s, l, c, T, v1, n, rfl, hv, hn, wd, hT, k⟩ := h
    refine ⟨_, (pss_cons (ps_asg (pe_tup (pa_cons (pe_cal C__law_place (hr.mono (by decide)) pass0 (pa_cons (pv 0) (pa_cons (pv 1) pa_nil))) (pa_cons (pe_cal C__law_draw (hr.mono (by decide)) pass0 (pa_cons (pv 0) (pa_cons (pe_callB (r := rLenA K) call_len_seq (by rfl) Z.len PySem.boot_len (pa_cons (pv 1) pa_nil)) pa_nil))) pa_nil))) (pg_tup rfl (pgs_cons (pg_name (i := 2) sc.nd rfl (Or.inr rfl)) (pgs_cons (pg_name (i := 3) sc.nd rfl (Or.inr rfl)) pgs_nil)))) (pss_cons (ps_setLc (i := 4) (own := [("item", 5)]) (g := gName 5) (tt := tYes) (by rfl) sc.nd rfl rfl (sw_true rfl rfl rfl (by decide +kernel)) (pi_list (pe_lst (pa_cons (pe_un un_neg pe_int) (pa_cons (pe_ix (r := rIxT K) ix_tup (pv 1) (pv 3) (fun _ _ => rfl)) (pa_cons pe_non (pa_cons pe_str pa_nil)))))) (blkOk_by (N := ["state", "dials_here", "place_here", "spot", "some", "item"]) (sc := defScope s__law_bad_place) (by decide +kernel)) (fun _ _ _ _ _ => (pg_name (i := 5) sc.nd rfl (Or.inl rfl))) (fun _ _ _ _ _ => pts_nil) (fun _ _ _ _ _ => (pe_op (r := rCatA K) op_catA (pe_op (r := rCatA K) op_catA (pe_slice (r := rSlA K) sl_tupA (pv 2) po_none (po_some (pv 3))) (pe_tup (pa_cons (pv 5) pa_nil))) (pe_slice (r := rSlA K) sl_tupA (pv 2) (po_some (pe_op op_add (pv 3) pe_int)) po_none)))) (pss_one (ps_ret (pe_cal C__law_pick (hr.mono (by decide)) pass0 (pa_cons (pv 0) (pa_cons (pe_op op_cat (pv 4) (pe_lst (pa_cons (pe_callTy (r := rListOf K) call_list_of (by rfl) Z.list (by decide +kernel) (pa_cons (pv 2) pa_nil)) (pa_cons (pe_slice (r := rSlA K) sl_tupA (pv 2) po_none (po_some (pe_un un_neg pe_int))) (pa_cons (pe_op (r := rCatA K) op_catA (pv 2) (pe_tup (pa_cons pe_int pa_nil))) (pa_cons pe_non (pa_cons pe_int (pa_cons (pe_cal C__law_bool_place (hr.mono (by decide)) pass0 (pa_cons (pv 0) (pa_cons (pv 2) pa_nil))) pa_nil)))))))) pa_nil))))))), ?_⟩
    have okd := okB_ok (List.all_eq_true.mp few_ok n hn)
    have l1 := okd.lo
    have l2 := okd.hi
    cases id hv with
    | @tup a xs _ ha hxs =>
      have exs := hxs.ints
      subst exs
      refine ⟨.ref s, rfl, .ref a, rfl, G, s, l, c, T, .ref a, n, rfl, hv, fun x hx => by have := okd.sz x hx; omega, by omega, wd, by omega, fun vp p G1 H1 inp wd1 ss1 hp => ?_⟩
      have ha1 := ss1.g _ _ ha
      refine ⟨.ref s, rfl, .ref a, rfl, a, _, rfl, .inr (SqT.of (wd1.w _ _ ha1)), G1, s, l, c, T + 1000, ((n.map V.int).length : Nat), rfl, wd1, by rw [List.length_map]; omega, by rw [List.length_map]; omega, by omega, fun r H2' r1 r2 wd2' ss2' => ⟨by show 2 ≤ sizeLine; decide, fun t ht => ⟨t, _, rfl, SqT.of upd_same, rfl, _, _, rfl, _, _, rfl, rfl, ?_⟩⟩⟩
      obtain ⟨H2, eH2⟩ : ∃ H2, H2 = upd H2' t (.tup [vp, .int r]) := ⟨_, rfl⟩
      have oldS := Stp.old wd2'.w (show Ex H2' (upd H2' t (.tup [vp, .int r])) from .new ht)
      have wd2 := wd2'.stp oldS
      have ss2 := ss2'.trans oldS.toS
      rw [← eH2] at wd2 ss2 ⊢
      rw [List.length_map] at r2
      obtain ⟨i, rfl⟩ := Int.eq_ofNat_of_zero_le r1
      have il : i < n.length := by omega
      have pl := inp.len
      have hs : n[i]? = some n[i] := List.getElem?_eq_getElem il
      have hvG := hv.mono ss1.g
      obtain ⟨P, hP⟩ : ∃ P : List D, P = p.map PyData.int := ⟨_, rfl⟩
      have lP : P.length = n.length := by rw [hP, List.length_map, pl]
      have hpP : Dq G1 vp (.tuple P) := by rw [hP]; exact hp
      have e1 := cut_lo (ds := P) i (by omega)
      have e2 := cut_hi (ds := P) (i + 1) (by omega)
      dsimp only
      refine q_asg (G := G1) (d := .list (made (fun _ => true) (fun d => .tuple (P.take i ++ [d] ++ P.drop (i + 1))) [.int (-1), .int n[i], .none, .str ("0" : Str)])) ?_ wd2.w fun v4 G3 H3 s3 h4 => ?_
      · refine d_lcL (as := [.int (-1), .int n[i], .none, .str ("0" : Str)]) (fun _ => true) _ (d_lst (a_cons (d_un (d := .int 1) (d_c (.int 1)) (opd_U 1)) (a_cons (d_op (d_var rfl hvG) (d_var rfl (.int _)) (opd_ixT (j := i) (by rw [List.getElem?_map, hs]; rfl))) (a_cons (d_c .non) (a_cons (d_c (.str _)) a_nil)))) (by show 4 ≤ sizeLine; decide)) (by show 4 ≤ 1000000; decide) (fun _ => rfl) (fun _ _ _ _ _ _ => b_yes) (fun v d G4 e4 hd hq _ => ?_)
        have hpG := hpP.mono e4
        rw [← e1, ← e2]
        refine d_op (d_op (d_slT (d_var rfl hpG) o_none (o_some (d_var rfl (.int _)))) (d_tup (a_cons (d_var rfl hq) a_nil) (by show 1 ≤ sizeLine; decide)) (opd_catT ?_)) (d_slT (d_var rfl hpG) (o_some ((d_op (d_var rfl (.int _)) (d_c (.int 1)) (opd_I0 fun _ => .int _)).is rfl)) o_none) (opd_catT ?_)
        · rw [e1, List.length_take, sizeLine_eq]; show _ + 1 ≤ _; omega
        · rw [e1, e2, List.length_append, List.length_take, List.length_drop, sizeLine_eq]; show _ + 1 + _ ≤ _; omega
      have wd3 := wd2.stp s3
      have hp3 := hpP.mono s3.g
      have hv3 := hvG.mono s3.g
      refine ⟨.ref s, rfl, v4, rfl, ?_⟩
      refine ev_cons (G := G3) (d := .list P) (d_cb (a_cons (d_var rfl hp3) a_nil) cad_listT) wd3.w fun w1 G4 H4 s4 k1 => ?_
      refine ev_cons (G := G4) (d := .tuple (cutD P none (some (-1)))) (d_slT (d_var rfl (hp3.mono s4.g)) o_none (o_some (d_un (d := .int 1) (d_c (.int 1)) (opd_U 1)))) s4.w fun w2 G5 H5 s5 k2 => ?_
      refine ev_cons (G := G5) (d := .tuple (P ++ [.int 0])) (d_op (d_var rfl ((hp3.mono s4.g).mono s5.g)) (d_tup (a_cons (d_c (.int 0)) a_nil) (by show 1 ≤ sizeLine; decide)) (opd_catT (by rw [sizeLine_eq]; show _ + 1 ≤ _; omega))) s5.w fun w3 G6 H6 s6 k3 => ?_
      refine ev_cons (G := G6) (d := .none) (d_c .non) s6.w fun w4 G7 H7 s7 k4 => ?_
      refine ev_cons (G := G7) (d := .int 5) (d_c (.int 5)) s7.w fun w5 G8 H8 s8 k5 => ?_
      have sA := (((s4.trans s5).trans s6).trans s7).trans s8
      have wd8 := wd3.stp sA
      refine ⟨.ref s, rfl, vp, rfl, G8, s, l, c, _, vp, p, n, rfl, hp.mono (s3.g.trans sA.g), inp, l1, by omega, wd8, by omega, fun w6 d6 G9 H9 bad6 wd9 ss9 k6 => ?_⟩
      have g9 := ss9.g
      have m4 : DqA G9 [w1, w2, w3, w4, w5, w6] [.list P, .tuple (cutD P none (some (-1))), .tuple (P ++ [.int 0]), .none, .int 5, d6] :=
        .cons (k1.mono ((((s5.g.trans s6.g).trans s7.g).trans s8.g).trans g9)) (.cons (k2.mono (((s6.g.trans s7.g).trans s8.g).trans g9)) (.cons (k3.mono ((s7.g.trans s8.g).trans g9)) (.cons (k4.mono (s8.g.trans g9)) (.cons (k5.mono g9) (.cons k6 .nil)))))
      refine ⟨by show 6 ≤ sizeLine; decide, fun q hq => ?_⟩
      have sL := Stp.new (o := .lst [w1, w2, w3, w4, w5, w6]) wd9.w hq
      have h4' := h4.mono ((sA.g.trans g9).trans sL.g)
      refine opd_cat (G := upd G9 q (.lst [w1, w2, w3, w4, w5, w6])) (by rw [sizeLine_eq]; show 4 + 6 ≤ _; decide) v4 (.ref q) _ _ (.refl _) sL.w h4' (.lst upd_same (m4.mono sL.g)) _ fun u G10 H10 s10 hu => ?_
      have wd10 := (wd9.stp sL).stp s10
      refine ⟨G10, s, l, c, _, u, _, rfl, hu, List.cons_ne_nil _ _, by show 10 < 1000000; decide, wd10, by omega, fun x d H11 hd hq2 wd11 ss11 => ?_⟩
      refine k x d G10 H11 ?_ ⟨wd11.w, wd11.st.ge (by omega), wd11.gs, wd11.gl, wd11.gc⟩ ((((((ss1.trans ss2).trans s3.toS).trans sA.toS).trans ss9).trans (sL.trans s10).toS).trans ss11) hq2
      have putBad : ∀ d : D, btw 0 (n[i] - 1) d = false → isPlace n (.tuple (P.take i ++ [d] ++ P.drop (i + 1))) = false := fun d h => noPlace_at (put_at (by omega)) hs h
      have hd2 : d = .tuple (P.take i ++ [.int (-1)] ++ P.drop (i + 1)) ∨ d = .tuple (P.take i ++ [.int n[i]] ++ P.drop (i + 1)) ∨ d = .tuple (P.take i ++ [.none] ++ P.drop (i + 1)) ∨ d = .tuple (P.take i ++ [.str ("0" : Str)] ++ P.drop (i + 1)) ∨ d = .list P ∨ d = .tuple (cutD P none (some (-1))) ∨ d = .tuple (P ++ [.int 0]) ∨ d = .none ∨ d = .int 5 ∨ d = d6 := by
        simpa [made] using hd
      rcases hd2 with rfl | rfl | rfl | rfl | rfl | rfl | rfl | rfl | rfl | rfl
      · exact putBad _ (by simp [btw])
      · exact putBad _ (by simp [btw]; omega)
      · exact putBad _ rfl
      · exact putBad _ rfl
      · rfl
      · exact noPlace_len (by rw [cut_last (by omega)]; omega)
      · exact noPlace_len (by rw [List.length_append]; show _ + 1 ≠ _; omega)
      · rfl
      · rfl
      · exact bad6
end
end Mv


namespace Mv
open PySem L2 Evl
def takeP : List Int → List Int → List Int → List Int
  | s :: n, x :: a, y :: b => ((x - y) % s) :: takeP n a b
  | _, _, _ => []
theorem takeP_D : ∀ (n a b : List Int), a.length = n.length → b.length = n.length →
    made (fun _ => true) (fun (x : D × D × D) => match x with | (.int x, .int y, .int s) => .int ((x - y) % s) | _ => .none) (zip3 (a.map PyData.int) (b.map PyData.int) (n.map PyData.int)) = (takeP n a b).map PyData.int
  | [], [], [], _, _ => rfl
  | s :: n, x :: a, y :: b, h1, h2 => by
    have ih := takeP_D n a b (by simpa using h1) (by simpa using h2)
    unfold made at ih ⊢
    rw [List.filter_eq_self.mpr (fun _ _ => rfl)] at ih ⊢
    show PyData.int ((x - y) % s) :: _ = PyData.int ((x - y) % s) :: (takeP n a b).map PyData.int
    rw [← ih]
  | s :: n, [], _, h, _ => by simp at h
  | s :: n, x :: a, [], _, h => by simp at h
  | [], x :: a, _, h, _ => by simp at h
  | [], [], y :: b, _, h => by simp at h
def R_take (ds : List D) (z : D) : Prop := ∃ n a b : List Int, ds = [dI n, dI a, dI b] ∧ a.length = n.length ∧ b.length = n.length ∧ n.length ≤ 1000 ∧ (∀ s ∈ n, 0 < s) ∧ z = dI (takeP n a b)
def isLst (d : D) : Bool := match d with
  | .list _ => true
  | .tuple _ => true
  | _ => false
def R_is_listed (ds : List D) (z : D) : Prop := ∃ d, ds = [d] ∧ z = .bool (isLst d)
def R_places (C : Addr) (ds : List D) (r : Except Addr D) : Prop := ∃ d, ds = [d] ∧ ((∃ n, d = dI n ∧ OkD n ∧ r = .ok (dL (placesOf n))) ∨ (isDials d = false ∧ r = .error C))
/-- two places put together by o -/
def R_two (o : List Int → List Int → List Int → List Int) (C C' : Addr) (ds : List D) (r : Except Addr D) : Prop := ∃ d e g : D, ds = [d, e, g] ∧ ((∃ n p q, d = dI n ∧ e = dI p ∧ g = dI q ∧ n ∈ fewD ∧ p ∈ placesOf n ∧ q ∈ placesOf n ∧ r = .ok (dI (o n p q))) ∨ (isDials d = false ∧ r = .error C) ∨
  (∃ n, d = dI n ∧ n ∈ fewD ∧ isPlace n e = false ∧ r = .error C') ∨ ∃ n p, d = dI n ∧ n ∈ fewD ∧ e = dI p ∧ p ∈ placesOf n ∧ isPlace n g = false ∧ r = .error C')
def R_times (C C' C3 : Addr) (ds : List D) (r : Except Addr D) : Prop := ∃ d e g : D, ds = [d, e, g] ∧ ((∃ n p k, d = dI n ∧ e = dI p ∧ g = .int k ∧ n ∈ fewD ∧ p ∈ placesOf n ∧ btw (-999999999) 999999999 g = true ∧ r = .ok (dI (mulP n p k))) ∨ (isDials d = false ∧ r = .error C) ∨
  (∃ n, d = dI n ∧ n ∈ fewD ∧ isPlace n e = false ∧ r = .error C') ∨ ∃ n p, d = dI n ∧ n ∈ fewD ∧ e = dI p ∧ p ∈ placesOf n ∧ btw (-999999999) 999999999 g = false ∧ r = .error C3)
abbrev s_take_off : Stmt := top 5
abbrev s_is_listed : Stmt := top 17
abbrev s_places : Stmt := top 28
abbrev s_plus : Stmt := top 29
abbrev s_less : Stmt := top 30
abbrev s_times : Stmt := top 32
abbrev s__law_less : Stmt := top 42
section
variable {K : PySem.W.Frag} {σ : L2.St} {G G' H H' : Hp} {ta : TE} {d : D}
/-- isinstance(x, (list, tuple)) -/
theorem d_isLst (h : EvD ta σ G d) : EvD (tCB (rIsiT K) (tCons ta (tCons (tTup (tCons (tC (.ty "list")) (tCons (tC (.ty "tuple")) tNil))) tNil))) σ G (.bool (isLst d)) := fun G1 H1 x w Q q =>
  h G1 H1 x w _ fun v G2 H2 s hv => ⟨by show 2 ≤ sizeLine; decide, fun p hp => by
    have s2 := Stp.new (o := .tup [.ty "list", .ty "tuple"]) s.w hp
    have e1 := kit_ty (K := K) (kit_of_D d (c := "list") (by decide))
    have e2 := kit_ty (K := K) (kit_of_D d (c := "tuple") (by decide))
    have e : PySem.W.kitAny K (.type (tyD d)) [.type "list", .type "tuple"] = some (isLst d) := by
      unfold PySem.W.kitAny
      rw [e1]
      cases d <;> first | rfl | (simp only [tyD]; unfold PySem.W.kitAny; rw [kit_ty (by decide +kernel)] <;> rfl)
    exact ⟨v, p, _, .type (tyD d), _, isLst d, rfl, upd_same, .cons (.ty _) (.cons (.ty _) .nil), tyX_of s2.w (hv.mono s2.g), e, q _ _ _ (s.trans s2) (.bl _)⟩⟩
end
section
variable {P : Program} {w : World} {mg : Str → Option Value} {base : Heap} {K : PySem.W.Frag}
theorem ok_take_off {f : Addr} {fd : FuncData} (Z : Zs mg) (F : Fun K "take_off" "take_off" s_take_off f fd) : FnOk P w K mg base CX0 1 f fd ["dials", "one", "other"] (SpR R_take) := by
  have sc : FnScope ["dials", "one", "other", "here", "there", "size"] ["dials", "one", "other"] (defScope s_take_off) := ⟨rfl, rfl, rfl, by decide +kernel, rfl, by decide +kernel, by decide +kernel⟩
  refine F.ok sc (fun vs H Q E h => ?_) (fun cdv A outer s H vs Q E hr h => ?_)
  · obtain ⟨G, ds, z, _, hv, ⟨n, a, b, rfl, _⟩, _⟩ := h
    exact hv.len
  · obtain ⟨G, ds, z, wf, hv, ⟨n, a, b, rfl, h1, h2, h3, h4, rfl⟩, k⟩ := h
    refine ⟨_, (pss_one (ps_ret (pe_callTy (r := rTupOf K) call_tuple_of (by rfl) Z.tuple (by decide +kernel) (pa_cons (pe_lc (own := [("here", 3), ("there", 4), ("size", 5)]) (g := gTup K 3 (gCons (gName 3) (gCons (gName 4) (gCons (gName 5) gNil)))) (tt := tYes) (by rfl) sc.nd (pi_zip3 false false false (by rfl) Z.zip (pa_cons (pv 1) (pa_cons (pv 2) (pa_cons (pv 0) pa_nil)))) (blkOk_by (N := ["dials", "one", "other", "here", "there", "size"]) (sc := defScope s_take_off) (by decide +kernel)) (fun _ _ _ _ _ => (pg_tup rfl (pgs_cons (pg_name (i := 3) sc.nd rfl (Or.inl rfl)) (pgs_cons (pg_name (i := 4) sc.nd rfl (Or.inl rfl)) (pgs_cons (pg_name (i := 5) sc.nd rfl (Or.inl rfl)) pgs_nil))))) (fun _ _ _ _ _ => pts_nil) (fun _ _ _ _ _ => (pe_op op_mod (pe_op op_sub (pv 3) (pv 4)) (pv 5)))) pa_nil)))), ?_⟩
    cases hv with
    | @cons v0 vs d ds hv0 hn =>
      cases hn with
      | @cons v1 vs d ds hv1 hn =>
        cases hn with
        | @cons v2 vs d ds hv2 hn =>
          cases hn
          refine s_ret (G := G) (d := dI (takeP n a b)) ?_ wf fun v G3 H3 s3 hv => k v G3 H3 s3 hv
          refine d_cb (a_cons ?_ a_nil) cad_tuple
          rw [← takeP_D n a b h1 h2]
          refine d_lcZ3 (k1 := false) (k2 := false) (k3 := false) (as := a.map PyData.int) (bs := b.map PyData.int) (cs := n.map PyData.int) (fun _ => true) _ (a_cons (d_var rfl hv1) (a_cons (d_var rfl hv2) (a_cons (d_var rfl hv0) a_nil))) (by rw [List.length_map]; omega) (by simp only [List.length_map]; omega) (fun _ _ _ => rfl)
            (fun _ _ _ _ _ _ _ _ _ _ _ _ => b_yes) ?_
          rintro x y z da db dc G1 e1 hm hx hy hz _
          obtain ⟨i, j, s, rfl, rfl, rfl, hs⟩ := zip3_ints n a b h4 hm
          exact d_op (d_op (d_var rfl hx) (d_var rfl hy) (opd_I0 fun _ => .int (i - j))) (d_var rfl hz) (opd_I hs fun _ => .int _)
theorem ok__law_less {f : Addr} {fd : FuncData} (Z : Zs mg) (F : Fun K "_law_less" "_law_less" s__law_less f fd) : FnOk P w K mg base CX0 1 f fd ["dials_here", "one", "other"] (SpR R_take) := by
  have sc : FnScope ["dials_here", "one", "other", "here", "there", "size_here"] ["dials_here", "one", "other"] (defScope s__law_less) := ⟨rfl, rfl, rfl, by decide +kernel, rfl, by decide +kernel, by decide +kernel⟩
  refine F.ok sc (fun vs H Q E h => ?_) (fun cdv A outer s H vs Q E hr h => ?_)
  · obtain ⟨G, ds, z, _, hv, ⟨n, a, b, rfl, _⟩, _⟩ := h
    exact hv.len
  · obtain ⟨G, ds, z, wf, hv, ⟨n, a, b, rfl, h1, h2, h3, h4, rfl⟩, k⟩ := h
    refine ⟨_, (pss_one (ps_ret (pe_callTy (r := rTupOf K) call_tuple_of (by rfl) Z.tuple (by decide +kernel) (pa_cons (pe_lc (own := [("here", 3), ("there", 4), ("size_here", 5)]) (g := gTup K 3 (gCons (gName 3) (gCons (gName 4) (gCons (gName 5) gNil)))) (tt := tYes) (by rfl) sc.nd (pi_zip3 false false false (by rfl) Z.zip (pa_cons (pv 1) (pa_cons (pv 2) (pa_cons (pv 0) pa_nil)))) (blkOk_by (N := ["dials_here", "one", "other", "here", "there", "size_here"]) (sc := defScope s__law_less) (by decide +kernel)) (fun _ _ _ _ _ => (pg_tup rfl (pgs_cons (pg_name (i := 3) sc.nd rfl (Or.inl rfl)) (pgs_cons (pg_name (i := 4) sc.nd rfl (Or.inl rfl)) (pgs_cons (pg_name (i := 5) sc.nd rfl (Or.inl rfl)) pgs_nil))))) (fun _ _ _ _ _ => pts_nil) (fun _ _ _ _ _ => (pe_op op_mod (pe_callTy call_int1 (by rfl) Z.int (by decide +kernel) (pa_cons (pe_op op_add (pe_op op_sub (pv 3) (pv 4)) (pv 5)) pa_nil)) (pv 5)))) pa_nil)))), ?_⟩
    cases hv with
    | @cons v0 vs d ds hv0 hn =>
      cases hn with
      | @cons v1 vs d ds hv1 hn =>
        cases hn with
        | @cons v2 vs d ds hv2 hn =>
          cases hn
          refine s_ret (G := G) (d := dI (takeP n a b)) ?_ wf fun v G3 H3 s3 hv => k v G3 H3 s3 hv
          refine d_cb (a_cons ?_ a_nil) cad_tuple
          rw [← takeP_D n a b h1 h2]
          refine d_lcZ3 (k1 := false) (k2 := false) (k3 := false) (as := a.map PyData.int) (bs := b.map PyData.int) (cs := n.map PyData.int) (fun _ => true) _ (a_cons (d_var rfl hv1) (a_cons (d_var rfl hv2) (a_cons (d_var rfl hv0) a_nil))) (by rw [List.length_map]; omega) (by simp only [List.length_map]; omega) (fun _ _ _ => rfl)
            (fun _ _ _ _ _ _ _ _ _ _ _ _ => b_yes) ?_
          rintro x y z da db dc G1 e1 hm hx hy hz _
          obtain ⟨i, j, s, rfl, rfl, rfl, hs⟩ := zip3_ints n a b h4 hm
          exact EvD.is (d := .int ((i - j + s) % s)) (d_op (d_cb (a_cons (d_op (d_op (d_var rfl hx) (d_var rfl hy) (opd_I0 fun _ => .int (i - j))) (d_var rfl hz) (opd_I0 fun _ => .int (i - j + s))) a_nil) cad_int1) (d_var rfl hz) (opd_I hs fun _ => .int _)) (by show PyData.int ((i - j + s) % s) = PyData.int ((i - j) % s); rw [Int.add_emod_right])
theorem ok_is_listed {f : Addr} {fd : FuncData} (Z : Zs mg) (F : Fun K "is_listed" "is_listed" s_is_listed f fd) : FnOk P w K mg base CX0 1 f fd ["thing"] (SpR R_is_listed) := by
  have sc : FnScope ["thing"] ["thing"] (defScope s_is_listed) := ⟨rfl, rfl, rfl, by decide +kernel, rfl, by decide +kernel, by decide +kernel⟩
  refine F.ok sc (fun vs H Q E h => ?_) (fun cdv A outer s H vs Q E hr h => ?_)
  · obtain ⟨G, ds, z, _, hv, ⟨d, rfl, _⟩, _⟩ := h
    exact hv.len
  · obtain ⟨G, ds, z, wf, hv, ⟨d, rfl, rfl⟩, k⟩ := h
    refine ⟨_, (pss_one (ps_ret (pe_callB (r := rIsiT K) call_isiT (by rfl) Z.isinstance (by decide +kernel) (pa_cons (pv 0) (pa_cons (pe_tup (pa_cons (pe_bltn (v := .ty "list") (u := .type "list") (by rfl) Z.list (by decide +kernel) rfl) (pa_cons (pe_bltn (v := .ty "tuple") (u := .type "tuple") (by rfl) Z.tuple (by decide +kernel) rfl) pa_nil))) pa_nil))))), ?_⟩
    cases hv with
    | @cons v0 vs d0 ds hv0 hn =>
      cases hn
      exact s_ret (G := G) (d := .bool (isLst d)) (d_isLst (d_var rfl hv0)) wf fun v G3 H3 s3 hv => k v G3 H3 s3 hv
theorem ok_places {f C : Addr} {fd : FuncData} (C_check_dials : Cal P w K mg base (L2.CX P w) 4 "check_dials" ["dials"] (SpE (R_check_dials C))) (C_all_places : Cal P w K mg base CX0 1 "all_places" ["dials"] (SpR R_all_places)) (F : Fun K "places" "places" s_places f fd) : FnOk P w K mg base (L2.CX P w) 5 f fd ["dials"] (SpE (R_places C)) := by
  have sc : FnScope ["dials"] ["dials"] (defScope s_places) := ⟨rfl, rfl, rfl, by decide +kernel, rfl, by decide +kernel, by decide +kernel⟩
  refine F.okX sc (fun vs H Q E h => ?_) (fun cdv A outer s H vs Q E hr h => ?_)
  · obtain ⟨G, ds, z, _, hv, ⟨d, rfl, _⟩, _⟩ := h
    exact hv.len
  · obtain ⟨G, ds, r, wf, hv, ⟨d, rfl, hd⟩, k, ke⟩ := h
    refine ⟨_, (pss_cons (ps_expr (pe_cal C_check_dials (hr.mono (by decide)) (passes_call (E := E) (W := fun c d _ H => E c d H) (takes_of rfl rfl rfl rfl) (fun _ _ _ _ h => h)) (pa_cons (pv 0) pa_nil))) (pss_one (ps_ret (pe_cal C_all_places (hr.mono (by decide)) pass0 (pa_cons (pv 0) pa_nil))))), ?_⟩
    cases hv with
    | @cons v0 vs d ds hv0 hnil =>
      cases hnil
      refine q_chk (G := G) (d := d) (d_var rfl hv0) wf (fun hb => ?_) fun hb G1 H1 s1 => ?_
      · rcases hd with ⟨n, rfl, hn, rfl⟩ | ⟨_, rfl⟩
        · rw [isDials_of hn] at hb; cases hb
        · exact ke C rfl
      · rcases hd with ⟨n, rfl, hn, rfl⟩ | ⟨h0, _⟩
        · exact s_ret (G := G1) (d_cal (a_cons (d_var rfl (hv0.mono s1.g)) a_nil) ⟨n, rfl, hn, rfl⟩) s1.w fun v G3 H3 s3 hv => k _ rfl v G3 H3 (s1.trans s3) hv
        · rw [h0] at hb; cases hb
theorem ok_plus {f C C' : Addr} {fd : FuncData} (C_check_dials : Cal P w K mg base (L2.CX P w) 4 "check_dials" ["dials"] (SpE (R_check_dials C))) (C_check_place : Cal P w K mg base (L2.CX P w) 4 "check_place" ["dials", "place"] (SpE (R_check_place C'))) (C_add : Cal P w K mg base CX0 1 "add" ["dials", "one", "other"] (SpR R_add)) (F : Fun K "plus" "plus" s_plus f fd) : FnOk P w K mg base (L2.CX P w) 5 f fd ["dials", "one", "other"] (SpE (R_two addP C C')) := by
  have sc : FnScope ["dials", "one", "other"] ["dials", "one", "other"] (defScope s_plus) := ⟨rfl, rfl, rfl, by decide +kernel, rfl, by decide +kernel, by decide +kernel⟩
  refine F.okX sc (fun vs H Q E h => ?_) (fun cdv A outer s H vs Q E hr h => ?_)
  · obtain ⟨G, ds, z, _, hv, ⟨d, e, g, rfl, _⟩, _⟩ := h
    exact hv.len
  · obtain ⟨G, ds, r, wf, hv, ⟨d, e, g, rfl, hd⟩, k, ke⟩ := h
    refine ⟨_, (pss_cons (ps_expr (pe_cal C_check_dials (hr.mono (by decide)) (passes_call (E := E) (W := fun c d _ H => E c d H) (takes_of rfl rfl rfl rfl) (fun _ _ _ _ h => h)) (pa_cons (pv 0) pa_nil))) (pss_cons (ps_expr (pe_cal C_check_place (hr.mono (by decide)) (passes_call (E := E) (W := fun c d _ H => E c d H) (takes_of rfl rfl rfl rfl) (fun _ _ _ _ h => h)) (pa_cons (pv 0) (pa_cons (pv 1) pa_nil)))) (pss_cons (ps_expr (pe_cal C_check_place (hr.mono (by decide)) (passes_call (E := E) (W := fun c d _ H => E c d H) (takes_of rfl rfl rfl rfl) (fun _ _ _ _ h => h)) (pa_cons (pv 0) (pa_cons (pv 2) pa_nil)))) (pss_one (ps_ret (pe_cal C_add (hr.mono (by decide)) pass0 (pa_cons (pv 0) (pa_cons (pv 1) (pa_cons (pv 2) pa_nil))))))))), ?_⟩
    cases hv with
    | @cons v0 vs d0 ds hv0 hn =>
      cases hn with
      | @cons v1 vs d1 ds hv1 hn =>
        cases hn with
        | @cons v2 vs d2 ds hv2 hn =>
          cases hn
          have isd : ∀ {n}, n ∈ fewD → OkD n := fun hn => okB_ok (List.all_eq_true.mp few_ok _ hn)
          have isp : ∀ {n p}, n ∈ fewD → p ∈ placesOf n → isPlace n (dI p) = true := fun hn hp => by
            have ft := List.all_eq_true.mp (List.all_eq_true.mp few_turn _ hn) _ hp
            rw [Bool.and_eq_true] at ft
            exact ft.2
          refine q_chk (G := G) (d := d) (d_var rfl hv0) wf (fun hb => ?_) fun hb G1 H1 s1 => ?_
          · rcases hd with ⟨n, p, q, rfl, _, _, hn, _⟩ | ⟨_, rfl⟩ | ⟨n, rfl, hn, _⟩ | ⟨n, p, rfl, hn, _⟩
            · rw [isDials_of (isd hn)] at hb; cases hb
            · exact ke C rfl
            · rw [isDials_of (isd hn)] at hb; cases hb
            · rw [isDials_of (isd hn)] at hb; cases hb
          · obtain ⟨n, rfl, hn⟩ : ∃ n, d = dI n ∧ n ∈ fewD := by
              rcases hd with ⟨n, p, q, rfl, _, _, hn, _⟩ | ⟨h0, _⟩ | ⟨n, rfl, hn, _⟩ | ⟨n, p, rfl, hn, _⟩
              · exact ⟨n, rfl, hn⟩
              · rw [h0] at hb; cases hb
              · exact ⟨n, rfl, hn⟩
              · exact ⟨n, rfl, hn⟩
            have l2 := (isd hn).hi
            have inj : ∀ {m : List Int}, dI n = dI m → n = m := fun {m} h => by
              have h1 := eqv_dI n m
              have h2 := eqv_dI m m
              rw [h, h2] at h1
              simpa using h1.symm
            refine q_callE (G := G1) (a_cons (d_var rfl (hv0.mono s1.g)) (a_cons (d_var rfl (hv1.mono s1.g)) a_nil)) s1.w ⟨n, e, rfl, by omega, rfl⟩ (fun C2 hC G2 H2 s2 => ?_) fun z hz G2 H2 s2 => ?_
            · -- one is no place
              have hne : isPlace n e = false := by
                cases hc : isPlace n e with
                | false => rfl
                | true => rw [if_pos hc] at hC; cases hC
              rw [if_neg (by rw [hne]; exact Bool.false_ne_true)] at hC
              cases hC
              rcases hd with ⟨n', p, q, e1, rfl, _, hn', hp, _⟩ | ⟨h0, _⟩ | ⟨n', e1, hn', he, rfl⟩ | ⟨n', p, e1, hn', rfl, hp, _⟩
              · cases inj e1; rw [isp hn' hp] at hne; cases hne
              · rw [h0] at hb; cases hb
              · exact ke _ rfl G2 H2 (s1.trans s2)
              · cases inj e1; rw [isp hn' hp] at hne; cases hne
            · have hpe : isPlace n e = true := by
                cases hc : isPlace n e with
                | true => rfl
                | false => rw [if_neg (by rw [hc]; exact Bool.false_ne_true)] at hz; cases hz
              have sA := s1.trans s2
              refine q_callE (G := G2) (a_cons (d_var rfl (hv0.mono sA.g)) (a_cons (d_var rfl (hv2.mono sA.g)) a_nil)) s2.w ⟨n, g, rfl, by omega, rfl⟩ (fun C2 hC G3 H3 s3 => ?_) fun z hz G3 H3 s3 => ?_
              · have hne : isPlace n g = false := by
                  cases hc : isPlace n g with
                  | false => rfl
                  | true => rw [if_pos hc] at hC; cases hC
                rw [if_neg (by rw [hne]; exact Bool.false_ne_true)] at hC
                cases hC
                rcases hd with ⟨n', p, q, e1, _, rfl, hn', _, hq, _⟩ | ⟨h0, _⟩ | ⟨n', e1, hn', he, _⟩ | ⟨n', p, e1, hn', rfl, hp, _, rfl⟩
                · cases inj e1; rw [isp hn' hq] at hne; cases hne
                · rw [h0] at hb; cases hb
                · cases inj e1; rw [he] at hpe; cases hpe
                · exact ke _ rfl G3 H3 (sA.trans s3)
              · have hpg : isPlace n g = true := by
                  cases hc : isPlace n g with
                  | true => rfl
                  | false => rw [if_neg (by rw [hc]; exact Bool.false_ne_true)] at hz; cases hz
                have sB := sA.trans s3
                rcases hd with ⟨n', p, q, e1, rfl, rfl, hn', hp, hq, rfl⟩ | ⟨h0, _⟩ | ⟨n', e1, hn', he, _⟩ | ⟨n', p, e1, hn', _, hp, hg, _⟩
                · cases inj e1
                  exact s_ret (G := G3) (d_cal (a_cons (d_var rfl (hv0.mono sB.g)) (a_cons (d_var rfl (hv1.mono sB.g)) (a_cons (d_var rfl (hv2.mono sB.g)) a_nil))) ⟨n, p, q, rfl, places_in p hp, places_in q hq, by omega, fun s hs => by have := (isd hn).sz s hs; omega, rfl⟩) s3.w fun v G4 H4 s4 hv => k _ rfl v G4 H4 (sB.trans s4) hv
                · rw [h0] at hb; cases hb
                · cases inj e1; rw [he] at hpe; cases hpe
                · cases inj e1; rw [hg] at hpg; cases hpg
theorem ok_less {f C C' : Addr} {fd : FuncData} (C_check_dials : Cal P w K mg base (L2.CX P w) 4 "check_dials" ["dials"] (SpE (R_check_dials C))) (C_check_place : Cal P w K mg base (L2.CX P w) 4 "check_place" ["dials", "place"] (SpE (R_check_place C'))) (C_take_off : Cal P w K mg base CX0 1 "take_off" ["dials", "one", "other"] (SpR R_take)) (F : Fun K "less" "less" s_less f fd) : FnOk P w K mg base (L2.CX P w) 5 f fd ["dials", "one", "other"] (SpE (R_two takeP C C')) := by
  have sc : FnScope ["dials", "one", "other"] ["dials", "one", "other"] (defScope s_less) := ⟨rfl, rfl, rfl, by decide +kernel, rfl, by decide +kernel, by decide +kernel⟩
  refine F.okX sc (fun vs H Q E h => ?_) (fun cdv A outer s H vs Q E hr h => ?_)
  · obtain ⟨G, ds, z, _, hv, ⟨d, e, g, rfl, _⟩, _⟩ := h
    exact hv.len
  · obtain ⟨G, ds, r, wf, hv, ⟨d, e, g, rfl, hd⟩, k, ke⟩ := h
    refine ⟨_, (pss_cons (ps_expr (pe_cal C_check_dials (hr.mono (by decide)) (passes_call (E := E) (W := fun c d _ H => E c d H) (takes_of rfl rfl rfl rfl) (fun _ _ _ _ h => h)) (pa_cons (pv 0) pa_nil))) (pss_cons (ps_expr (pe_cal C_check_place (hr.mono (by decide)) (passes_call (E := E) (W := fun c d _ H => E c d H) (takes_of rfl rfl rfl rfl) (fun _ _ _ _ h => h)) (pa_cons (pv 0) (pa_cons (pv 1) pa_nil)))) (pss_cons (ps_expr (pe_cal C_check_place (hr.mono (by decide)) (passes_call (E := E) (W := fun c d _ H => E c d H) (takes_of rfl rfl rfl rfl) (fun _ _ _ _ h => h)) (pa_cons (pv 0) (pa_cons (pv 2) pa_nil)))) (pss_one (ps_ret (pe_cal C_take_off (hr.mono (by decide)) pass0 (pa_cons (pv 0) (pa_cons (pv 1) (pa_cons (pv 2) pa_nil))))))))), ?_⟩
    cases hv with
    | @cons v0 vs d0 ds hv0 hn =>
      cases hn with
      | @cons v1 vs d1 ds hv1 hn =>
        cases hn with
        | @cons v2 vs d2 ds hv2 hn =>
          cases hn
          have isd : ∀ {n}, n ∈ fewD → OkD n := fun hn => okB_ok (List.all_eq_true.mp few_ok _ hn)
          have isp : ∀ {n p}, n ∈ fewD → p ∈ placesOf n → isPlace n (dI p) = true := fun hn hp => by
            have ft := List.all_eq_true.mp (List.all_eq_true.mp few_turn _ hn) _ hp
            rw [Bool.and_eq_true] at ft
            exact ft.2
          refine q_chk (G := G) (d := d) (d_var rfl hv0) wf (fun hb => ?_) fun hb G1 H1 s1 => ?_
          · rcases hd with ⟨n, p, q, rfl, _, _, hn, _⟩ | ⟨_, rfl⟩ | ⟨n, rfl, hn, _⟩ | ⟨n, p, rfl, hn, _⟩
            · rw [isDials_of (isd hn)] at hb; cases hb
            · exact ke C rfl
            · rw [isDials_of (isd hn)] at hb; cases hb
            · rw [isDials_of (isd hn)] at hb; cases hb
          · obtain ⟨n, rfl, hn⟩ : ∃ n, d = dI n ∧ n ∈ fewD := by
              rcases hd with ⟨n, p, q, rfl, _, _, hn, _⟩ | ⟨h0, _⟩ | ⟨n, rfl, hn, _⟩ | ⟨n, p, rfl, hn, _⟩
              · exact ⟨n, rfl, hn⟩
              · rw [h0] at hb; cases hb
              · exact ⟨n, rfl, hn⟩
              · exact ⟨n, rfl, hn⟩
            have l2 := (isd hn).hi
            have inj : ∀ {m : List Int}, dI n = dI m → n = m := fun {m} h => by
              have h1 := eqv_dI n m
              have h2 := eqv_dI m m
              rw [h, h2] at h1
              simpa using h1.symm
            refine q_callE (G := G1) (a_cons (d_var rfl (hv0.mono s1.g)) (a_cons (d_var rfl (hv1.mono s1.g)) a_nil)) s1.w ⟨n, e, rfl, by omega, rfl⟩ (fun C2 hC G2 H2 s2 => ?_) fun z hz G2 H2 s2 => ?_
            · -- one is no place
              have hne : isPlace n e = false := by
                cases hc : isPlace n e with
                | false => rfl
                | true => rw [if_pos hc] at hC; cases hC
              rw [if_neg (by rw [hne]; exact Bool.false_ne_true)] at hC
              cases hC
              rcases hd with ⟨n', p, q, e1, rfl, _, hn', hp, _⟩ | ⟨h0, _⟩ | ⟨n', e1, hn', he, rfl⟩ | ⟨n', p, e1, hn', rfl, hp, _⟩
              · cases inj e1; rw [isp hn' hp] at hne; cases hne
              · rw [h0] at hb; cases hb
              · exact ke _ rfl G2 H2 (s1.trans s2)
              · cases inj e1; rw [isp hn' hp] at hne; cases hne
            · have hpe : isPlace n e = true := by
                cases hc : isPlace n e with
                | true => rfl
                | false => rw [if_neg (by rw [hc]; exact Bool.false_ne_true)] at hz; cases hz
              have sA := s1.trans s2
              refine q_callE (G := G2) (a_cons (d_var rfl (hv0.mono sA.g)) (a_cons (d_var rfl (hv2.mono sA.g)) a_nil)) s2.w ⟨n, g, rfl, by omega, rfl⟩ (fun C2 hC G3 H3 s3 => ?_) fun z hz G3 H3 s3 => ?_
              · have hne : isPlace n g = false := by
                  cases hc : isPlace n g with
                  | false => rfl
                  | true => rw [if_pos hc] at hC; cases hC
                rw [if_neg (by rw [hne]; exact Bool.false_ne_true)] at hC
                cases hC
                rcases hd with ⟨n', p, q, e1, _, rfl, hn', _, hq, _⟩ | ⟨h0, _⟩ | ⟨n', e1, hn', he, _⟩ | ⟨n', p, e1, hn', rfl, hp, _, rfl⟩
                · cases inj e1; rw [isp hn' hq] at hne; cases hne
                · rw [h0] at hb; cases hb
                · cases inj e1; rw [he] at hpe; cases hpe
                · exact ke _ rfl G3 H3 (sA.trans s3)
              · have hpg : isPlace n g = true := by
                  cases hc : isPlace n g with
                  | true => rfl
                  | false => rw [if_neg (by rw [hc]; exact Bool.false_ne_true)] at hz; cases hz
                have sB := sA.trans s3
                rcases hd with ⟨n', p, q, e1, rfl, rfl, hn', hp, hq, rfl⟩ | ⟨h0, _⟩ | ⟨n', e1, hn', he, _⟩ | ⟨n', p, e1, hn', _, hp, hg, _⟩
                · cases inj e1
                  exact s_ret (G := G3) (d_cal (a_cons (d_var rfl (hv0.mono sB.g)) (a_cons (d_var rfl (hv1.mono sB.g)) (a_cons (d_var rfl (hv2.mono sB.g)) a_nil))) ⟨n, p, q, rfl, places_in p hp, places_in q hq, by omega, fun s hs => by have := (isd hn).sz s hs; omega, rfl⟩) s3.w fun v G4 H4 s4 hv => k _ rfl v G4 H4 (sB.trans s4) hv
                · rw [h0] at hb; cases hb
                · cases inj e1; rw [he] at hpe; cases hpe
                · cases inj e1; rw [hg] at hpg; cases hpg
end
end Mv


namespace Mv
open PySem L2 Evl
def isPlaces (n : List Int) (d : D) : Bool := match d with
  | .list xs => xs.all (isPlace n)
  | .tuple xs => xs.all (isPlace n)
  | _ => false
def fewIn (d : D) : Prop := match d with
  | .list xs => xs.length ≤ 1000
  | .tuple xs => xs.length ≤ 1000
  | _ => True
def R_are_places (ds : List D) (z : D) : Prop := ∃ (n : List Int) (d : D), ds = [dI n, d] ∧ n.length ≤ 1000 ∧ fewIn d ∧ z = .bool (isPlaces n d)
def R_check_several (C : Addr) (ds : List D) (r : Except Addr D) : Prop := ∃ (n : List Int) (d : D), ds = [dI n, d] ∧ n.length ≤ 1000 ∧ fewIn d ∧ r = if isPlaces n d then .ok .none else .error C
abbrev s_are_places : Stmt := top 22
abbrev s_check_several : Stmt := top 26
theorem all_D (n : List Int) (xs : List D) : made (fun _ => true) (fun d => PyData.bool (isPlace n d)) xs = (xs.map (isPlace n)).map PyData.bool := by
  unfold made
  rw [List.filter_eq_self.mpr (fun _ _ => rfl), List.map_map]
  rfl
section
variable {P : Program} {w : World} {mg : Str → Option Value} {base : Heap} {K : PySem.W.Frag}
theorem ok_are_places {f : Addr} {fd : FuncData} (Z : Zs mg) (C_is_listed : Cal P w K mg base CX0 1 "is_listed" ["thing"] (SpR R_is_listed)) (C_is_place : Cal P w K mg base CX0 3 "is_place" ["dials", "thing"] (SpR R_is_place)) (F : Fun K "are_places" "are_places" s_are_places f fd) : FnOk P w K mg base CX0 4 f fd ["dials", "thing"] (SpR R_are_places) := by
  have sc : FnScope ["dials", "thing", "item"] ["dials", "thing"] (defScope s_are_places) := ⟨rfl, rfl, rfl, by decide +kernel, rfl, by decide +kernel, by decide +kernel⟩
  refine F.ok sc (fun vs H Q E h => ?_) (fun cdv A outer s H vs Q E hr h => ?_)
  · obtain ⟨G, ds, z, _, hv, ⟨n, d, rfl, _⟩, _⟩ := h
    exact hv.len
  · obtain ⟨G, ds, z, wf, hv, ⟨n, d, rfl, hl, hf, rfl⟩, k⟩ := h
    cases hv with
    | @cons v0 vs d0 ds hv0 hn =>
      cases hn with
      | @cons v1 vs d1 ds hv1 hn =>
        cases hn
        cases d with
        | list xs =>
          refine ⟨_, (pss_one (ps_ret (pe_and (pe_cal C_is_listed (hr.mono (by decide)) pass0 (pa_cons (pv 1) pa_nil)) (pe_one (pe_callB (r := rAll K) (cr_all (by rfl)) (by rfl) Z.all (by decide +kernel) (pa_cons (pe_lc (own := [("item", 2)]) (g := gName 2) (tt := tYes) (by rfl) sc.nd (pi_list (pv 1)) (blkOk_by (N := ["dials", "thing", "item"]) (sc := defScope s_are_places) (by decide +kernel)) (fun _ _ _ _ _ => (pg_name (i := 2) sc.nd rfl (Or.inl rfl))) (fun _ _ _ _ _ => pts_nil) (fun _ _ _ _ _ => (pe_cal C_is_place (hr.mono (by decide)) pass0 (pa_cons (pv 0) (pa_cons (pv 2) pa_nil))))) pa_nil)))))), ?_⟩
          refine s_ret (G := G) (d := .bool (isPlaces n (.list xs))) ?_ wf fun v G3 H3 s3 hv => k v G3 H3 s3 hv
          have e : isPlaces n (.list xs) = (true && (xs.map (isPlace n)).all id) := by
            show xs.all (isPlace n) = _
            rw [List.all_map, Bool.true_and]; rfl
          rw [e]
          refine d_and (a := true) (d_cal (a_cons (d_var rfl hv1) a_nil) ⟨.list xs, rfl, rfl⟩) fun _ => d_cb (a_cons ?_ a_nil) cad_all
          rw [← all_D]
          exact d_lcL (as := xs) (fun _ => true) _ (d_var rfl hv1) (by have : xs.length ≤ 1000 := hf; omega) (fun _ => rfl) (fun _ _ _ _ _ _ => b_yes) (fun v a G2 e2 _ hq _ => d_cal (a_cons (d_var rfl (hv0.mono e2)) (a_cons (d_var rfl hq) a_nil)) ⟨n, a, rfl, hl, rfl⟩)
        | tuple xs =>
          refine ⟨_, (pss_one (ps_ret (pe_and (pe_cal C_is_listed (hr.mono (by decide)) pass0 (pa_cons (pv 1) pa_nil)) (pe_one (pe_callB (r := rAll K) (cr_all (by rfl)) (by rfl) Z.all (by decide +kernel) (pa_cons (pe_lc (own := [("item", 2)]) (g := gName 2) (tt := tYes) (by rfl) sc.nd (pi_tup (pv 1)) (blkOk_by (N := ["dials", "thing", "item"]) (sc := defScope s_are_places) (by decide +kernel)) (fun _ _ _ _ _ => (pg_name (i := 2) sc.nd rfl (Or.inl rfl))) (fun _ _ _ _ _ => pts_nil) (fun _ _ _ _ _ => (pe_cal C_is_place (hr.mono (by decide)) pass0 (pa_cons (pv 0) (pa_cons (pv 2) pa_nil))))) pa_nil)))))), ?_⟩
          refine s_ret (G := G) (d := .bool (isPlaces n (.tuple xs))) ?_ wf fun v G3 H3 s3 hv => k v G3 H3 s3 hv
          have e : isPlaces n (.tuple xs) = (true && (xs.map (isPlace n)).all id) := by
            show xs.all (isPlace n) = _
            rw [List.all_map, Bool.true_and]; rfl
          rw [e]
          refine d_and (a := true) (d_cal (a_cons (d_var rfl hv1) a_nil) ⟨.tuple xs, rfl, rfl⟩) fun _ => d_cb (a_cons ?_ a_nil) cad_all
          rw [← all_D]
          exact d_lcT (as := xs) (fun _ => true) _ (d_var rfl hv1) (by have : xs.length ≤ 1000 := hf; omega) (fun _ => rfl) (fun _ _ _ _ _ _ => b_yes) (fun v a G2 e2 _ hq _ => d_cal (a_cons (d_var rfl (hv0.mono e2)) (a_cons (d_var rfl hq) a_nil)) ⟨n, a, rfl, hl, rfl⟩)
        | _ =>
          refine ⟨_, (pss_one (ps_ret (pe_and (pe_cal C_is_listed (hr.mono (by decide)) pass0 (pa_cons (pv 1) pa_nil)) (pe_one (pe_callB (r := rAll K) (cr_all (by rfl)) (by rfl) Z.all (by decide +kernel) (pa_cons (pe_lc (own := [("item", 2)]) (g := gName 2) (tt := tYes) (by rfl) sc.nd (pi_list (pv 1)) (blkOk_by (N := ["dials", "thing", "item"]) (sc := defScope s_are_places) (by decide +kernel)) (fun _ _ _ _ _ => (pg_name (i := 2) sc.nd rfl (Or.inl rfl))) (fun _ _ _ _ _ => pts_nil) (fun _ _ _ _ _ => (pe_cal C_is_place (hr.mono (by decide)) pass0 (pa_cons (pv 0) (pa_cons (pv 2) pa_nil))))) pa_nil)))))), ?_⟩
          exact s_ret (G := G) (d := .bool (false && false)) (d_and (a := false) (b := false) (d_cal (a_cons (d_var rfl hv1) a_nil) ⟨_, rfl, rfl⟩) fun z => nomatch z) wf fun v G3 H3 s3 hv => k v G3 H3 s3 hv
theorem ok_check_several {f C : Addr} {fd : FuncData} (B : ExcC K mg "BadSeveral" C) (C_are_places : Cal P w K mg base CX0 4 "are_places" ["dials", "thing"] (SpR R_are_places)) (F : Fun K "check_several" "check_several" s_check_several f fd) : FnOk P w K mg base (L2.CX P w) 5 f fd ["dials", "several"] (SpE (R_check_several C)) := by
  have sc : FnScope ["dials", "several"] ["dials", "several"] (defScope s_check_several) := ⟨rfl, rfl, rfl, by decide +kernel, rfl, by decide +kernel, by decide +kernel⟩
  refine F.okX sc (fun vs H Q E h => ?_) (fun cdv A outer s H vs Q E hr h => ?_)
  · obtain ⟨G, ds, z, _, hv, ⟨n, d, rfl, _⟩, _⟩ := h
    exact hv.len
  · obtain ⟨G, ds, r, wf, hv, ⟨n, d, rfl, hl, hf, rfl⟩, k, ke⟩ := h
    refine ⟨_, (pss_one (ps_if (pt_not (pt_val (pe_cal C_are_places (hr.mono (by decide)) pass0 (pa_cons (pv 0) (pa_cons (pv 1) pa_nil))))) (pss_one (ps_raise rfl (takes_of rfl rfl rfl rfl) (pmk_own PySem.F.excBase_ValueError B.ex B.g B.k (raises_own B.b B.t) rfl))) pss_nil)), ?_⟩
    cases hv with
    | @cons v0 vs d0 ds hv0 hn =>
      cases hn with
      | @cons v1 vs d1 ds hv1 hn =>
        cases hn
        refine s_if (G := G) (b := !isPlaces n d) (b_not (b_B (d_cal (a_cons (d_var rfl hv0) (a_cons (d_var rfl hv1) a_nil)) ⟨n, d, rfl, hl, hf, rfl⟩))) wf (fun hb G1 H1 s1 => ?_) fun hb G1 H1 s1 => ?_
        · exact ke C (by rw [if_neg (by simpa using hb)]) G1 H1 s1
        · exact k .none (by rw [if_pos (by simpa using hb)]) .non G1 H1 s1 .non
end
end Mv


namespace Mv
open PySem L2 Evl
def R_total (C C' : Addr) (ds : List D) (r : Except Addr D) : Prop := ∃ d e : D, ds = [d, e] ∧ ((∃ n l, d = dI n ∧ (e = dL l ∨ e = .tuple (l.map dI)) ∧ n ∈ fewD ∧ (∀ p ∈ l, p ∈ placesOf n) ∧ l.length ≤ 1000 ∧ r = .ok (dI (addUp n l))) ∨ (isDials d = false ∧ r = .error C) ∨ ∃ n, d = dI n ∧ n ∈ fewD ∧ fewIn e ∧ isPlaces n e = false ∧ r = .error C')
def R_check_number (C : Addr) (ds : List D) (r : Except Addr D) : Prop := ∃ g : D, ds = [g] ∧ r = if btw (-999999999) 999999999 g then .ok .none else .error C
abbrev s_check_number : Stmt := top 25
section
variable {P : Program} {w : World} {mg : Str → Option Value} {base : Heap} {K : PySem.W.Frag}
theorem ok_check_number {f C : Addr} {fd : FuncData} (B : ExcC K mg "BadNumber" C) (C_is_between : Cal P w K mg base CX0 2 "is_between" ["thing", "low", "high"] (SpR R_is_between)) (F : Fun K "check_number" "check_number" s_check_number f fd) : FnOk P w K mg base (L2.CX P w) 3 f fd ["number"] (SpE (R_check_number C)) := by
  have sc : FnScope ["number"] ["number"] (defScope s_check_number) := ⟨rfl, rfl, rfl, by decide +kernel, rfl, by decide +kernel, by decide +kernel⟩
  refine F.okX sc (fun vs H Q E h => ?_) (fun cdv A outer s H vs Q E hr h => ?_)
  · obtain ⟨G, ds, z, _, hv, ⟨g, rfl, _⟩, _⟩ := h
    exact hv.len
  · obtain ⟨G, ds, r, wf, hv, ⟨g, rfl, rfl⟩, k, ke⟩ := h
    refine ⟨_, (pss_one (ps_if (pt_not (pt_val (pe_cal C_is_between (hr.mono (by decide)) pass0 (pa_cons (pv 0) (pa_cons (pe_un un_neg pe_int) (pa_cons pe_int pa_nil)))))) (pss_one (ps_raise rfl (takes_of rfl rfl rfl rfl) (pmk_own PySem.F.excBase_ValueError B.ex B.g B.k (raises_own B.b B.t) rfl))) pss_nil)), ?_⟩
    cases hv with
    | @cons v0 vs d0 ds hv0 hn =>
      cases hn
      refine s_if (G := G) (b := !btw (-999999999) 999999999 g) (b_not (b_B (d_cal (a_cons (d_var rfl hv0) (a_cons (d_un (d := .int 999999999) (d_c (.int 999999999)) (opd_U 999999999)) (a_cons (d_c (.int 999999999)) a_nil))) ⟨g, -999999999, 999999999, rfl, rfl⟩))) wf (fun hb G1 H1 s1 => ?_) fun hb G1 H1 s1 => ?_
      · exact ke C (by rw [if_neg (by simpa using hb)]) G1 H1 s1
      · exact k .none (by rw [if_pos (by simpa using hb)]) .non G1 H1 s1 .non
theorem ok_times {f C C' C3 : Addr} {fd : FuncData} (C_check_number : Cal P w K mg base (L2.CX P w) 3 "check_number" ["number"] (SpE (R_check_number C3))) (C_check_dials : Cal P w K mg base (L2.CX P w) 4 "check_dials" ["dials"] (SpE (R_check_dials C))) (C_check_place : Cal P w K mg base (L2.CX P w) 4 "check_place" ["dials", "place"] (SpE (R_check_place C'))) (C_multiply : Cal P w K mg base CX0 1 "multiply" ["dials", "place", "number"] (SpR R_multiply)) (F : Fun K "times" "times" s_times f fd) : FnOk P w K mg base (L2.CX P w) 5 f fd ["dials", "place", "number"] (SpE (R_times C C' C3)) := by
  have sc : FnScope ["dials", "place", "number"] ["dials", "place", "number"] (defScope s_times) := ⟨rfl, rfl, rfl, by decide +kernel, rfl, by decide +kernel, by decide +kernel⟩
  refine F.okX sc (fun vs H Q E h => ?_) (fun cdv A outer s H vs Q E hr h => ?_)
  · obtain ⟨G, ds, z, _, hv, ⟨d, e, g, rfl, _⟩, _⟩ := h
    exact hv.len
  · obtain ⟨G, ds, r, wf, hv, ⟨d, e, g, rfl, hd⟩, k, ke⟩ := h
    refine ⟨_, (pss_cons (ps_expr (pe_cal C_check_dials (hr.mono (by decide)) (passes_call (E := E) (W := fun c d _ H => E c d H) (takes_of rfl rfl rfl rfl) (fun _ _ _ _ h => h)) (pa_cons (pv 0) pa_nil))) (pss_cons (ps_expr (pe_cal C_check_place (hr.mono (by decide)) (passes_call (E := E) (W := fun c d _ H => E c d H) (takes_of rfl rfl rfl rfl) (fun _ _ _ _ h => h)) (pa_cons (pv 0) (pa_cons (pv 1) pa_nil)))) (pss_cons (ps_expr (pe_cal C_check_number (hr.mono (by decide)) (passes_call (E := E) (W := fun c d _ H => E c d H) (takes_of rfl rfl rfl rfl) (fun _ _ _ _ h => h)) (pa_cons (pv 2) pa_nil))) (pss_one (ps_ret (pe_cal C_multiply (hr.mono (by decide)) pass0 (pa_cons (pv 0) (pa_cons (pv 1) (pa_cons (pv 2) pa_nil))))))))), ?_⟩
    cases hv with
    | @cons v0 vs d0 ds hv0 hn =>
      cases hn with
      | @cons v1 vs d1 ds hv1 hn =>
        cases hn with
        | @cons v2 vs d2 ds hv2 hn =>
          cases hn
          have isd : ∀ {n}, n ∈ fewD → OkD n := fun hn => okB_ok (List.all_eq_true.mp few_ok _ hn)
          have isp : ∀ {n p}, n ∈ fewD → p ∈ placesOf n → isPlace n (dI p) = true := fun hn hp => by
            have ft := List.all_eq_true.mp (List.all_eq_true.mp few_turn _ hn) _ hp
            rw [Bool.and_eq_true] at ft
            exact ft.2
          refine q_chk (G := G) (d := d) (d_var rfl hv0) wf (fun hb => ?_) fun hb G1 H1 s1 => ?_
          · rcases hd with ⟨n, p, q, rfl, _, _, hn, _⟩ | ⟨_, rfl⟩ | ⟨n, rfl, hn, _⟩ | ⟨n, p, rfl, hn, _⟩
            · rw [isDials_of (isd hn)] at hb; cases hb
            · exact ke C rfl
            · rw [isDials_of (isd hn)] at hb; cases hb
            · rw [isDials_of (isd hn)] at hb; cases hb
          · obtain ⟨n, rfl, hn⟩ : ∃ n, d = dI n ∧ n ∈ fewD := by
              rcases hd with ⟨n, p, q, rfl, _, _, hn, _⟩ | ⟨h0, _⟩ | ⟨n, rfl, hn, _⟩ | ⟨n, p, rfl, hn, _⟩
              · exact ⟨n, rfl, hn⟩
              · rw [h0] at hb; cases hb
              · exact ⟨n, rfl, hn⟩
              · exact ⟨n, rfl, hn⟩
            have l2 := (isd hn).hi
            have inj : ∀ {m : List Int}, dI n = dI m → n = m := fun {m} h => by
              have h1 := eqv_dI n m
              have h2 := eqv_dI m m
              rw [h, h2] at h1
              simpa using h1.symm
            refine q_callE (G := G1) (a_cons (d_var rfl (hv0.mono s1.g)) (a_cons (d_var rfl (hv1.mono s1.g)) a_nil)) s1.w ⟨n, e, rfl, by omega, rfl⟩ (fun C2 hC G2 H2 s2 => ?_) fun z hz G2 H2 s2 => ?_
            · have hne : isPlace n e = false := by
                cases hc : isPlace n e with
                | false => rfl
                | true => rw [if_pos hc] at hC; cases hC
              rw [if_neg (by rw [hne]; exact Bool.false_ne_true)] at hC
              cases hC
              rcases hd with ⟨n', p, q, e1, rfl, _, hn', hp, _⟩ | ⟨h0, _⟩ | ⟨n', e1, hn', he, rfl⟩ | ⟨n', p, e1, hn', rfl, hp, _⟩
              · cases inj e1; rw [isp hn' hp] at hne; cases hne
              · rw [h0] at hb; cases hb
              · exact ke _ rfl G2 H2 (s1.trans s2)
              · cases inj e1; rw [isp hn' hp] at hne; cases hne
            · have hpe : isPlace n e = true := by
                cases hc : isPlace n e with
                | true => rfl
                | false => rw [if_neg (by rw [hc]; exact Bool.false_ne_true)] at hz; cases hz
              have sA := s1.trans s2
              refine q_callE (G := G2) (a_cons (d_var rfl (hv2.mono sA.g)) a_nil) s2.w ⟨g, rfl, rfl⟩ (fun C2 hC G3 H3 s3 => ?_) fun z2 hz2 G3 H3 s3 => ?_
              · have hne : btw (-999999999) 999999999 g = false := by
                  cases hc : btw (-999999999) 999999999 g with
                  | false => rfl
                  | true => rw [if_pos hc] at hC; cases hC
                rw [if_neg (by rw [hne]; exact Bool.false_ne_true)] at hC
                cases hC
                rcases hd with ⟨n', p, q, e1, rfl, rfl, hn', _, hq, _⟩ | ⟨h0, _⟩ | ⟨n', e1, hn', he, _⟩ | ⟨n', p, e1, hn', rfl, hp, _, rfl⟩
                · rw [hq] at hne; cases hne
                · rw [h0] at hb; cases hb
                · cases inj e1; rw [he] at hpe; cases hpe
                · exact ke _ rfl G3 H3 (sA.trans s3)
              · have hpg : btw (-999999999) 999999999 g = true := by
                  cases hc : btw (-999999999) 999999999 g with
                  | true => rfl
                  | false => rw [if_neg (by rw [hc]; exact Bool.false_ne_true)] at hz2; cases hz2
                have sB := sA.trans s3
                rcases hd with ⟨n', p, q, e1, rfl, rfl, hn', hp, hq, rfl⟩ | ⟨h0, _⟩ | ⟨n', e1, hn', he, _⟩ | ⟨n', p, e1, hn', _, hp, hg2, _⟩
                · cases inj e1
                  have hq2 : -999999999 ≤ q ∧ q ≤ 999999999 := by simpa [btw] using hq
                  exact s_ret (G := G3) (d_cal (a_cons (d_var rfl (hv0.mono sB.g)) (a_cons (d_var rfl (hv1.mono sB.g)) (a_cons (d_var rfl (hv2.mono sB.g)) a_nil))) ⟨n, p, q, rfl, places_in p hp, by omega, fun s hs => by have := (isd hn).sz s hs; omega, by omega, rfl⟩) s3.w fun v G4 H4 s4 hv => k _ rfl v G4 H4 (sB.trans s4) hv
                · rw [h0] at hb; cases hb
                · cases inj e1; rw [he] at hpe; cases hpe
                · rw [hg2] at hpg; cases hpg
end
end Mv


namespace Mv
open PySem L2 Evl
def R_add_upE (ds : List D) (z : D) : Prop := ∃ (n : List Int) (l : List (List Int)) (e : D), ds = [dI n, e] ∧ (e = dL l ∨ e = .tuple (l.map dI)) ∧ 1 ≤ n.length ∧ n.length ≤ 1000 ∧ (∀ s ∈ n, 0 < s) ∧ (∀ p ∈ l, p.length = n.length) ∧ z = dI (addUp n l)
abbrev s_total : Stmt := top 31
section
variable {P : Program} {w : World} {mg : Str → Option Value} {base : Heap} {K : PySem.W.Frag}
theorem ok_add_upE {f : Addr} {fd : FuncData} (C_nothing_of : Cal P w K mg base CX0 1 "nothing_of" ["dials"] (SpR R_nothing_of)) (C_add : Cal P w K mg base CX0 1 "add" ["dials", "one", "other"] (SpR R_add)) (F : Fun K "add_up" "add_up" s_add_up f fd) : FnOk P w K mg base CX0 2 f fd ["dials", "several"] (SpR R_add_upE) := by
  have sc : FnScope ["dials", "several", "sum_so_far", "place"] ["dials", "several"] (defScope s_add_up) := ⟨rfl, rfl, rfl, by decide +kernel, rfl, by decide +kernel, by decide +kernel⟩
  refine F.ok sc (fun vs H Q E h => ?_) (fun cdv A outer s H vs Q E hr h => ?_)
  · obtain ⟨G, ds, z, _, hv, ⟨n, l, e, rfl, _⟩, _⟩ := h
    exact hv.len
  · obtain ⟨G, ds, z, wf, hv, ⟨n, l, e, rfl, he, h1, h2, h3, h4, rfl⟩, k⟩ := h
    rcases he with rfl | rfl
    · refine ⟨_, (pss_cons (ps_set (i := 2) sc.nd rfl (Or.inl rfl) (pe_cal C_nothing_of (hr.mono (by decide)) pass0 (pa_cons (pv 0) pa_nil))) (pss_cons (ps_for PassesOwn.never rfl (pi_list (pv 1)) (pg_name (i := 3) sc.nd rfl (Or.inl rfl)) (pss_one (ps_set (i := 2) sc.nd rfl (Or.inl rfl) (pe_cal C_add (hr.mono (by decide)) pass0 (pa_cons (pv 0) (pa_cons (pv 2) (pa_cons (pv 3) pa_nil))))))) (pss_one (ps_ret (pv 2))))), ?_⟩
      cases hv with
      | @cons v0 vs d ds hv0 hnil =>
        cases hnil with
        | @cons v1 vs d ds hv1 hnil =>
          cases hnil
          refine q_asg (G := G) (d := dI (zeros n)) (d_cal (a_cons (d_var rfl hv0) a_nil) ⟨n, rfl, h1, h2, rfl⟩) wf fun v2 G1 H1 s1 hz => ?_
          refine s_forL (as := l.map dI) (d_var rfl (hv1.mono s1.g)) s1.w (fun i σ G' => ∃ v o, σ = [some v0, some v1, some v, o] ∧ Dq G' v0 (dI n) ∧ Dq G' v (dI (addUp n (l.take i)))) (fun G2 H2 s2 => ⟨v2, none, rfl, hv0.mono (s1.g.trans s2.g), hz.mono s2.g⟩) ?_ ?_
          · rintro G2 H2 s2 i v a σ G3 H3 hi s3 ⟨vf, o, rfl, hv0', hf⟩ hq
            rw [List.getElem?_map] at hi
            obtain ⟨x, hx, rfl⟩ := Option.map_eq_some_iff.mp hi
            have hx2 := h4 x (List.mem_of_getElem? hx)
            refine s_asg (G := G3) (d := dI (addUp n (l.take (i + 1)))) (i := 2) ?_ s3.w fun v G4 H4 s4 hv => ⟨G4, s3.trans s4, v, _, rfl, hv0'.mono s4.g, hv⟩
            refine d_cal (a_cons (d_var rfl hv0') (a_cons (d_var rfl hf) (a_cons (d_var rfl hq) a_nil))) ⟨n, addUp n (l.take i), x, rfl, addUp_len fun p hp => h4 p (List.mem_of_mem_take hp), hx2, h2, h3, ?_⟩
            unfold addUp
            rw [foldl_take _ _ hx]
          · rintro σ G2 H2 s2 ⟨vf, o, rfl, _, hf⟩
            rw [List.length_map, List.take_length] at hf
            exact s_ret (G := G2) (d_var rfl hf) s2.w fun v G3 H3 s3 hv => k v G3 H3 ((s1.trans s2).trans s3) hv
    · refine ⟨_, (pss_cons (ps_set (i := 2) sc.nd rfl (Or.inl rfl) (pe_cal C_nothing_of (hr.mono (by decide)) pass0 (pa_cons (pv 0) pa_nil))) (pss_cons (ps_for PassesOwn.never rfl (pi_tup (pv 1)) (pg_name (i := 3) sc.nd rfl (Or.inl rfl)) (pss_one (ps_set (i := 2) sc.nd rfl (Or.inl rfl) (pe_cal C_add (hr.mono (by decide)) pass0 (pa_cons (pv 0) (pa_cons (pv 2) (pa_cons (pv 3) pa_nil))))))) (pss_one (ps_ret (pv 2))))), ?_⟩
      cases hv with
      | @cons v0 vs d ds hv0 hnil =>
        cases hnil with
        | @cons v1 vs d ds hv1 hnil =>
          cases hnil
          refine q_asg (G := G) (d := dI (zeros n)) (d_cal (a_cons (d_var rfl hv0) a_nil) ⟨n, rfl, h1, h2, rfl⟩) wf fun v2 G1 H1 s1 hz => ?_
          refine s_forT (as := l.map dI) (d_var rfl (hv1.mono s1.g)) s1.w (fun i σ G' => ∃ v o, σ = [some v0, some v1, some v, o] ∧ Dq G' v0 (dI n) ∧ Dq G' v (dI (addUp n (l.take i)))) (fun G2 H2 s2 => ⟨v2, none, rfl, hv0.mono (s1.g.trans s2.g), hz.mono s2.g⟩) ?_ ?_
          · rintro G2 H2 s2 i v a σ G3 H3 hi s3 ⟨vf, o, rfl, hv0', hf⟩ hq
            rw [List.getElem?_map] at hi
            obtain ⟨x, hx, rfl⟩ := Option.map_eq_some_iff.mp hi
            have hx2 := h4 x (List.mem_of_getElem? hx)
            refine s_asg (G := G3) (d := dI (addUp n (l.take (i + 1)))) (i := 2) ?_ s3.w fun v G4 H4 s4 hv => ⟨G4, s3.trans s4, v, _, rfl, hv0'.mono s4.g, hv⟩
            refine d_cal (a_cons (d_var rfl hv0') (a_cons (d_var rfl hf) (a_cons (d_var rfl hq) a_nil))) ⟨n, addUp n (l.take i), x, rfl, addUp_len fun p hp => h4 p (List.mem_of_mem_take hp), hx2, h2, h3, ?_⟩
            unfold addUp
            rw [foldl_take _ _ hx]
          · rintro σ G2 H2 s2 ⟨vf, o, rfl, _, hf⟩
            rw [List.length_map, List.take_length] at hf
            exact s_ret (G := G2) (d_var rfl hf) s2.w fun v G3 H3 s3 hv => k v G3 H3 ((s1.trans s2).trans s3) hv
theorem ok_total {f C C' : Addr} {fd : FuncData} (C_check_dials : Cal P w K mg base (L2.CX P w) 4 "check_dials" ["dials"] (SpE (R_check_dials C))) (C_check_several : Cal P w K mg base (L2.CX P w) 5 "check_several" ["dials", "several"] (SpE (R_check_several C'))) (C_add_up : Cal P w K mg base CX0 2 "add_up" ["dials", "several"] (SpR R_add_upE)) (F : Fun K "total" "total" s_total f fd) : FnOk P w K mg base (L2.CX P w) 6 f fd ["dials", "several"] (SpE (R_total C C')) := by
  have sc : FnScope ["dials", "several"] ["dials", "several"] (defScope s_total) := ⟨rfl, rfl, rfl, by decide +kernel, rfl, by decide +kernel, by decide +kernel⟩
  refine F.okX sc (fun vs H Q E h => ?_) (fun cdv A outer s H vs Q E hr h => ?_)
  · obtain ⟨G, ds, z, _, hv, ⟨d, e, rfl, _⟩, _⟩ := h
    exact hv.len
  · obtain ⟨G, ds, r, wf, hv, ⟨d, e, rfl, hd⟩, k, ke⟩ := h
    refine ⟨_, (pss_cons (ps_expr (pe_cal C_check_dials (hr.mono (by decide)) (passes_call (E := E) (W := fun c d _ H => E c d H) (takes_of rfl rfl rfl rfl) (fun _ _ _ _ h => h)) (pa_cons (pv 0) pa_nil))) (pss_cons (ps_expr (pe_cal C_check_several (hr.mono (by decide)) (passes_call (E := E) (W := fun c d _ H => E c d H) (takes_of rfl rfl rfl rfl) (fun _ _ _ _ h => h)) (pa_cons (pv 0) (pa_cons (pv 1) pa_nil)))) (pss_one (ps_ret (pe_cal C_add_up (hr.mono (by decide)) pass0 (pa_cons (pv 0) (pa_cons (pv 1) pa_nil))))))), ?_⟩
    cases hv with
    | @cons v0 vs d0 ds hv0 hn =>
      cases hn with
      | @cons v1 vs d1 ds hv1 hn =>
        cases hn
        have isd : ∀ {n}, n ∈ fewD → OkD n := fun hn => okB_ok (List.all_eq_true.mp few_ok _ hn)
        have allp : ∀ {n : List Int} {l : List (List Int)}, n ∈ fewD → (∀ p ∈ l, p ∈ placesOf n) → (l.map dI).all (isPlace n) = true := fun hn hl => by
          rw [List.all_map, List.all_eq_true]
          intro p hp
          have ft := List.all_eq_true.mp (List.all_eq_true.mp few_turn _ hn) _ (hl p hp)
          rw [Bool.and_eq_true] at ft
          exact ft.2
        refine q_chk (G := G) (d := d) (d_var rfl hv0) wf (fun hb => ?_) fun hb G1 H1 s1 => ?_
        · rcases hd with ⟨n, l, rfl, _, hn, _⟩ | ⟨_, rfl⟩ | ⟨n, rfl, hn, _⟩
          · rw [isDials_of (isd hn)] at hb; cases hb
          · exact ke C rfl
          · rw [isDials_of (isd hn)] at hb; cases hb
        · have hv0' := hv0.mono s1.g
          have hv1' := hv1.mono s1.g
          rcases hd with ⟨n, l, rfl, he, hn, hl, ll, rfl⟩ | ⟨h0, _⟩ | ⟨n, rfl, hn, hf, hno, rfl⟩
          · have okd := isd hn
            have l1 := okd.lo
            have l2 := okd.hi
            have yes : isPlaces n e = true := by
              rcases he with rfl | rfl
              · exact allp hn hl
              · exact allp hn hl
            have few : fewIn e := by
              rcases he with rfl | rfl
              · show (l.map dI).length ≤ 1000; rw [List.length_map]; exact ll
              · show (l.map dI).length ≤ 1000; rw [List.length_map]; exact ll
            refine q_callE (G := G1) (a_cons (d_var rfl hv0') (a_cons (d_var rfl hv1') a_nil)) s1.w ⟨n, e, rfl, by omega, few, rfl⟩ (fun C2 hC => by rw [if_pos yes] at hC; cases hC) fun z hz G2 H2 s2 => ?_
            exact s_ret (G := G2) (d_cal (a_cons (d_var rfl (hv0'.mono s2.g)) (a_cons (d_var rfl (hv1'.mono s2.g)) a_nil)) ⟨n, l, e, rfl, he, l1, by omega, fun s hs => by have := okd.sz s hs; omega, fun p hp => places_in p (hl p hp), rfl⟩) s2.w fun v G3 H3 s3 hv => k _ rfl v G3 H3 ((s1.trans s2).trans s3) hv
          · rw [h0] at hb; cases hb
          · have l2 := (isd hn).hi
            refine q_callE (G := G1) (a_cons (d_var rfl hv0') (a_cons (d_var rfl hv1') a_nil)) s1.w ⟨n, e, rfl, by omega, hf, rfl⟩ (fun C2 hC G2 H2 s2 => ?_) fun z hz G2 H2 s2 => ?_
            · rw [if_neg (by rw [hno]; exact Bool.false_ne_true)] at hC
              cases hC
              exact ke _ rfl G2 H2 (s1.trans s2)
            · rw [if_neg (by rw [hno]; exact Bool.false_ne_true)] at hz
              cases hz
end
end Mv


namespace Mv
open PySem L2 LamX Evl
/-! ### keywords in another order -/
structure CalS (P : Program) (w : World) (K : PySem.W.Frag) (mg : Str → Option Value) (base : Heap) (CX : CXT) (k : Nat) (x : Str) (p1 p2 : Str) (sp : Sp) : Prop where
  ex : ∃ (f : Addr) (fd : FuncData), FnOk P w K mg base CX k f fd [p1, p2] sp ∧ mg x = some (.ref f) ∧ PySem.W.keepIn K (.ref f) = true ∧ ∀ u v : Value, bindArgs fd ⟨[], [(p2, v), (p1, u)]⟩ = pure [(p1, u), (p2, v)]
def tCallS (sp : Sp) (E : XK) (t : TA) : TE := fun σ H Q => t σ H fun vs H1 => ∃ a b, vs = [a, b] ∧ sp [b, a] H1 Q E
theorem pe_calks {X : Cx} {CX : CXT} {k : Nat} {x p1 p2 : Str} {sp : Sp} {E : XK} {p pos : Pos} {kws : List Keyword} {t : TA} (C : CalS X.prog X.w X.K X.mg X.base CX k x p1 p2 sp) (hr : Room k X.A) (hx : Passes CX X E) (ha : PK X kws t)
    (hg : Gl X x := by rfl) (hall : (backToKw pos (keywordEach kws X.env)).all (·.1.isSome) = true := by rfl) (hks : (backToKw pos (keywordEach kws X.env)).filterMap (·.1) = [p2, p1] := by rfl) (hdb : (x == ("__debug__" : Str)) = false := by decide)
    (hpl : ((backTo pos (starEach [] X.env)).any (·.1) || (backToKw pos (keywordEach kws X.env)).any (·.1.isNone)) = false := by rfl) : PE X (.Call (.Name x p) [] kws pos) (tCallS sp E t) := by
  obtain ⟨f, fd, F, hm, hk, hb⟩ := C.ex
  refine ⟨fun pins s σ H Q I h => wpAny_Call_Name_kw (ld_glob I hg hm ?_ hdb)⟩
  refine PySem.W.callWith_KW0 (h₀ := X.base) I.ok.mod.kin hk hall (thn (ha.run pos pins s σ H _ I h) fun ws s2 ⟨zs, H2, I2, rz, a, b, ez, q2⟩ => ⟨I2.kIn, ?_⟩) hpl
  rw [hks]
  subst ez
  obtain ⟨ua, ub, rfl, ra, rb⟩ := vals2 rz
  refine wpAny_call (codeAny_mono (F.run X.A X.stack s2 H2 ⟨[], [p2, p1].zip [ua, ub]⟩ [ub, ua] [b, a] Q E hr I2.env0 (.of_eq (hb ub ua)) (.cons rb (.cons ra .nil)) q2) fun r s' hq => ?_)
  cases r with
  | error e => exact hx pins σ H2 s2 e s' I2 hq
  | ok fl =>
    cases fl with
    | ret u => exact I2.after hq
    | next => exact False.elim hq
    | brk => exact False.elim hq
    | cont => exact False.elim hq
theorem d_calS {G : Hp} {σ : L2.St} {R : List D → Except Addr D → Prop} {E : XK} {tr : TA} {d e z : D} (h : EvS tr σ G [d, e]) (hp : R [e, d] (.ok z)) : EvD (tCallS (SpE R) E tr) σ G z := fun G1 H1 x w Q q =>
  h G1 H1 x w _ fun vs G2 H2 s hvs => by
    cases hvs with
    | cons h1 hn =>
      cases hn with
      | cons h2 hn =>
        cases hn
        exact ⟨_, _, rfl, G2, [e, d], _, s.w, .cons h2 (.cons h1 .nil), hp, fun z' hz v G3 H3 s3 hv => by cases hz; exact q v G3 H3 (s.trans s3) hv, fun C hC => nomatch hC⟩
/-! ### a new list, held apart from what is known -/
/-- what the promise of a def without effect tells of a list that it returns: if nothing but one tuple was known, the list is new -/
theorem new_list {G0 H G2 H2 : Hp} {ad : Addr} {ts : List V} {a : Addr} {xs : List V} (h0 : ∀ b o, G0 b = some o → b = ad ∧ o = .tup ts) (s : Stp G0 H G2 H2) (h : G2 a = some (.lst xs)) : H a = none := by
  cases e : H a with
  | none => rfl
  | some o =>
    cases g : G0 a with
    | none =>
      have := s.n a g (by rw [e]; intro z; cases z)
      rw [this] at h; cases h
    | some u =>
      obtain ⟨rfl, rfl⟩ := h0 a u g
      have := s.g _ _ g
      rw [this] at h; cases h
/-- what is known, and what a call has laid beside, but for the list at a -/
def besides (G G2 : Hp) (a : Addr) : Hp := fun b => match G b with
  | some o => some o
  | none => if b = a then none else G2 b
theorem besides_old {G G2 : Hp} {a : Addr} : Ex G (besides G G2 a) := fun b o q => by
  unfold besides
  rw [q]
theorem besides_at {G G2 : Hp} {a b : Addr} {o : HO} (h : besides G G2 a b = some o) : G b = some o ∨ (G b = none ∧ b ≠ a ∧ G2 b = some o) := by
  unfold besides at h
  cases e : G b with
  | some u => rw [e] at h; exact .inl h
  | none =>
    rw [e] at h
    by_cases z : b = a
    · simp only [z, if_true] at h; cases h
    · simp only [if_neg z] at h; exact .inr ⟨rfl, z, h⟩
theorem besides_stp {G H G0 G2 H2 : Hp} {a : Addr} (w : Ex G H) (sub : Ex G0 G) (s : Stp G0 H G2 H2) (ha : H a = none) : Stp G H (besides G G2 a) H2 ∧ besides G G2 a a = none := by
  have ga : G a = none := fresh_back w ha
  refine ⟨⟨besides_old, s.h, fun b o q => ?_, fun b h1 h2 => ?_⟩, ?_⟩
  · rcases besides_at q with z | ⟨_, _, z⟩
    · exact s.h _ _ (w _ _ z)
    · exact s.w _ _ z
  · cases e : besides G G2 a b with
    | none => rfl
    | some o =>
      rcases besides_at e with z | ⟨_, _, z⟩
      · rw [h1] at z; cases z
      · have g0 : G0 b = none := by
          cases g : G0 b with
          | none => rfl
          | some u => have := sub _ _ g; rw [h1] at this; cases this
        rw [s.n b g0 h2] at z; cases z
  · unfold besides
    rw [ga]
    simp
/-- data of tuples alone stand there as well -/
theorem besides_rows {G H G0 G2 H2 : Hp} {a : Addr} {ys : List V} (w : Ex G H) (sub : Ex G0 G) (s : Stp G0 H G2 H2) (ha : G2 a = some (.lst ys)) {v : V} {n : List Int} (h : Dq G2 v (dI n)) : Dq (besides G G2 a) v (dI n) := by
  cases h with
  | @tup t xs _ ht hxs =>
    have e := hxs.ints
    subst e
    refine .tup ?_ (DqA.ofInts n)
    unfold besides
    cases g : G t with
    | some o =>
      have h1 := s.h _ _ (w _ _ g)
      rw [s.w _ _ ht] at h1
      exact h1.symm
    | none =>
      have : t ≠ a := fun z => by rw [z, ha] at ht; cases ht
      simp only [if_neg this]
      exact ht
def only (H : Hp) (a : Addr) : Hp := fun b => if b = a then H a else none
theorem only_ex {H : Hp} {a : Addr} : Ex (only H a) H := fun b o q => by
  unfold only at q
  by_cases hb : b = a
  · rw [if_pos hb] at q
    rw [hb]; exact q
  · rw [if_neg hb] at q; cases q
theorem only_seq {K : PySem.W.Frag} {H H' : Hp} {a : Addr} {xs : List V} (h : SqL K H a xs) (e : Ex (only H a) H') : SqL K H' a xs := by
  have g : only H a a = H a := if_pos rfl
  rcases h with (z | ⟨o, z⟩) | z
  · exact .inl (.inl (e _ _ (g.trans z)))
  · exact .inl (.inr ⟨o, e _ _ (g.trans z)⟩)
  · exact .inr z
theorem Wd.low {G G0 H : Hp} {s l c : Addr} {T T' : Int} (x : Wd G H s l c T) (e : Ex G0 G) (h : T ≤ T') : Wd G0 H s l c T' := ⟨e.trans x.w, x.st.ge h, fresh_back e x.gs, fresh_back e x.gl, fresh_back e x.gc⟩
theorem tabs_keep {T : List (Addr × Str)} {H H' : Hp} (t : Tabs T H) (k : ∀ b o, ((∃ ps, o = .tbl ps) ∨ ∃ φ, o = .ext φ) → H b = some o → H' b = some o) : Tabs T H' := fun p hp => by
  obtain ⟨ps, h1, h2, h3⟩ := t p hp
  refine ⟨ps, k _ _ (.inl ⟨ps, rfl⟩) h1, h2, fun pos cv hc => ?_⟩
  obtain ⟨c, e1, e2⟩ := (h3 pos cv hc)
  exact ⟨c, e1, k _ _ (.inr ⟨_, rfl⟩) e2⟩
theorem st_apart {H : Hp} {s l c b : Addr} {T : Int} {o : HO} (x : StAt H s l c T) (h : H b = some o) (n : (∃ ps, o = .tbl ps) ∨ ∃ φ, o = .ext φ) : b ∉ [s, l, c] := by
  obtain ⟨⟨lg, cs, left, turn, h1, h2, h3, _⟩, _⟩ := x
  simp only [List.mem_cons, List.not_mem_nil, or_false, not_or]
  rcases n with ⟨ps, rfl⟩ | ⟨φ, rfl⟩
  · exact ⟨ne_of h h1 (by intro z; cases z), ne_of h h2 (by intro z; cases z), ne_of h h3 (by intro z; cases z)⟩
  · exact ⟨ne_of h h1 (by intro z; cases z), ne_of h h2 (by intro z; cases z), ne_of h h3 (by intro z; cases z)⟩
theorem tabs_sts {T : List (Addr × Str)} {G H G' H' : Hp} {s l c : Addr} {T0 : Int} (t : Tabs T H) (x : StAt H s l c T0) (ss : StS [s, l, c] G H G' H') : Tabs T H' := tabs_keep t fun b o n h => ss.h b o (st_apart x h n) h
theorem Wd.extN {G H H1 : Hp} {s l c : Addr} {T : Int} (x : Wd (noT G) H s l c T) (e : ExtN H H1) : Wd (noT G) H1 s l c T := by
  obtain ⟨⟨⟨lg, cs, left, turn, h1, h2, h3, h⟩, q⟩, _⟩ := id (And.intro x.st trivial)
  exact ⟨fun b o z => e b o (x.w b o z) (of_noT z).2, ⟨⟨lg, cs, left, turn, e _ _ h1 (fun _ z => by cases z), e _ _ h2 (fun _ z => by cases z), e _ _ h3 (fun _ z => by cases z), h⟩, q⟩, x.gs, x.gl, x.gc⟩
theorem Wd.del {G H : Hp} {s l c f : Addr} {T : Int} {φ : Heap → Prop} (x : Wd G H s l c T) (gf : G f = none) (hf : H f = some (.ext φ)) : Wd G (delH H f) s l c T := by
  have na := st_apart x.st hf (.inr ⟨φ, rfl⟩)
  simp only [List.mem_cons, List.not_mem_nil, or_false, not_or] at na
  obtain ⟨⟨⟨lg, cs, left, turn, h1, h2, h3, h⟩, q⟩, _⟩ := id (And.intro x.st trivial)
  refine ⟨fun b o z => ?_, ⟨⟨lg, cs, left, turn, by rw [delH_ne (Ne.symm na.1)]; exact h1, by rw [delH_ne (Ne.symm na.2.1)]; exact h2, by rw [delH_ne (Ne.symm na.2.2)]; exact h3, h⟩, q⟩, x.gs, x.gl, x.gc⟩
  have nb : b ≠ f := fun e => by rw [e, gf] at z; cases z
  rw [delH_ne nb]
  exact x.w b o z
section
variable {K : PySem.W.Frag} {σ : L2.St} {G H : Hp} {D' : Ends} {tu tz : TS}
theorem q_forRW {ta : TA} {j : Nat} {n : Nat} (h : EvS ta σ G [.int (n : Int)]) (hz : n ≤ 1000000) (w : Ex G H) (Iv : Nat → L2.St → Hp → Prop) (h0 : ∀ G1 H1, Stp G H G1 H1 → Iv 0 σ H1)
    (hs : ∀ (i : Nat) σ' H2, i < n → Iv i σ' H2 → tu { D' with nx := Iv (i + 1), ct := Iv (i + 1), bk := tz D' } (σ'.set j (some (.int (i : Int)))) H2)
    (hd : ∀ σ' H2, Iv n σ' H2 → tz D' σ' H2) : tSeq (tFor (iRng1 ta) (gName j) tu) tz D' σ H := h G H (.refl G) w _ fun us G1 H1 s hv => by
  cases hv with
  | cons hv hn =>
    cases hn
    cases hv
    refine ⟨(n : Int), rfl, by omega, by omega, ?_⟩
    have hn' : ((n : Int)).toNat = n := by omega
    rw [hn']
    refine for_range (D := { D' with nx := tz D' }) (lo := 0) (n := n) (fun i σ' H' => Iv i σ' H') (h0 G1 H1 s) ?_ ?_
    · rintro i σ' H' hi p
      have e0 : ((0 : Int) + (i : Int) = (i : Int)) := Int.zero_add _
      show tu { D' with nx := Iv (i + 1), ct := Iv (i + 1), bk := tz D' } (σ'.set j (some (.int ((0 : Int) + (i : Int))))) H'
      rw [e0]
      exact hs i σ' H' hi p
    · rintro σ' H' p
      exact hd σ' H' p
end
theorem rows_besides {G H G0 G2 H2 : Hp} {a : Addr} {ys zs : List V} (w : Ex G H) (sub : Ex G0 G) (s : Stp G0 H G2 H2) (ha : G2 a = some (.lst ys)) : ∀ {l : List (List Int)}, DqA G2 zs (l.map dI) → DqA (besides G G2 a) zs (l.map dI) := by
  intro l
  induction l generalizing zs with
  | nil => intro h; cases h; exact .nil
  | cons n l ih =>
    intro h
    cases h with
    | cons h1 h2 => exact .cons (besides_rows w sub s ha h1) (ih h2)
theorem flat_L (l : List (List Int)) : flatD (dL l) = true := by
  have : ∀ l : List (List Int), flatDs (l.map dI) = true := fun l => by
    induction l with
    | nil => rfl
    | cons a l ih => rw [List.map_cons, flatDs, flat_dI, ih]; rfl
  show flatD (.list (l.map dI)) = true
  simpa [flatD] using this l
theorem noD_ints (l : List Int) : PyData.hasDictAll (l.map PyData.int) = false := by
  induction l with
  | nil => rfl
  | cons i l ih => rw [List.map_cons, PyData.hasDictAll, PyData.hasDict, ih]; rfl
theorem noD_rows (l : List (List Int)) : PyData.hasDictAll (l.map dI) = false := by
  induction l with
  | nil => rfl
  | cons i l ih =>
    have h : PyData.hasDict (dI i) = false := by unfold dI; rw [PyData.hasDict]; exact noD_ints i
    rw [List.map_cons, PyData.hasDictAll, h, ih]; rfl
theorem deep_rows (l : List (List Int)) : PyData.depthAll (l.map dI) ≤ 2 := by
  induction l with
  | nil => rw [List.map_nil, PyData.depthAll]; omega
  | cons i l ih =>
    have h : PyData.depth (dI i) ≤ 2 := by
      unfold dI
      rw [PyData.depth]
      have := depth_ints i
      omega
    (rw [List.map_cons, PyData.depthAll])
    omega
theorem lam_ne_code {X : Cx} {k : Nat} {f c' : Addr} {t : XK → TE} {q : Str} : LamO X k f c' t ≠ CodeO f q := fun z => by
  have z2 := congrFun (HO.ext.inj z) (⟨Array.replicate (f + 1) { cls := .none, data := .fields #[.none, .str q 0] }, {}⟩ : Heap)
  have got : Heap.get? (⟨Array.replicate (f + 1) { cls := .none, data := .fields #[.none, .str q 0] }, {}⟩ : Heap) f = some { cls := .none, data := .fields #[.none, .str q 0] } := by
    unfold Heap.get?
    simp
  have yes := z2.mpr ⟨_, _, 0, got, rfl, rfl⟩
  obtain ⟨_, _, _, _, _, e, _⟩ := yes
  rw [got] at e
  cases e
theorem tabs_del {T : List (Addr × Str)} {H : Hp} {X : Cx} {k : Nat} {f c' : Addr} {t : XK → TE} (x : Tabs T H) (hf : H f = some (LamO X k f c' t)) : Tabs T (delH H f) := fun p hp => by
  obtain ⟨ps, h1, h2, h3⟩ := x p hp
  refine ⟨ps, ?_, h2, fun pos cv hc => ?_⟩
  · rw [delH_ne (fun z => by rw [z, hf] at h1; cases h1)]; exact h1
  · obtain ⟨c, e1, e2⟩ := h3 pos cv hc
    refine ⟨c, e1, ?_⟩
    rw [delH_ne (fun z => by rw [z, hf] at e2; exact lam_ne_code (Option.some.inj e2))]; exact e2
def oneT (ad : Addr) (ts : List V) : Hp := fun b => if b = ad then some (.tup ts) else none
theorem oneT_in {ad b : Addr} {ts : List V} {o : HO} (h : oneT ad ts b = some o) : b = ad ∧ o = .tup ts := by
  unfold oneT at h
  by_cases z : b = ad
  · rw [if_pos z] at h; exact ⟨z, (Option.some.inj h).symm⟩
  · rw [if_neg z] at h; cases h
theorem oneT_ex {ad : Addr} {ts : List V} {G : Hp} (h : G ad = some (.tup ts)) : Ex (oneT ad ts) G := fun b o q => by
  obtain ⟨rfl, rfl⟩ := oneT_in q
  exact h
theorem noDL (l : List (List Int)) : PyData.hasDict (dL l) = false := by
  show PyData.hasDict (.list (l.map dI)) = false
  rw [PyData.hasDict]; exact noD_rows l
theorem noDL2 (l : List (List Int)) : PyData.hasDict (.list [dL l, dL l]) = false := by
  rw [PyData.hasDict, PyData.hasDictAll, PyData.hasDictAll, PyData.hasDictAll, noDL]; rfl
theorem deepL (l : List (List Int)) : PyData.depth (dL l) ≤ 3 := by
  show PyData.depth (.list (l.map dI)) ≤ 3
  rw [PyData.depth]
  have := deep_rows l
  omega
theorem deepL2 (l : List (List Int)) : PyData.depth (.list [dL l, dL l]) ≤ 64 := by
  rw [PyData.depth, PyData.depthAll, PyData.depthAll, PyData.depthAll]
  have := deepL l
  omega
theorem flatL2 (l : List (List Int)) : flatD (.list [dL l, dL l]) = true := by
  have := flat_L l
  simp [flatD, flatDs, this]
/-! ### a list of lambdas, each of which raises -/
abbrev Lams := List (Addr × Addr × (XK → TE))
def tLams (X : Cx) (k : Nat) (T : List (Addr × Str)) : List (XK → TE) → TA
  | [] => tNil
  | t :: ts => tCons (tLamV X k T t) (tLams X k T ts)
/-- the lambda's body raises an error of the class at C, from whatever knows GN -/
def RaisesL (t : XK → TE) (σ : L2.St) (GN : Hp) (C : Addr) : Prop := ∀ (H : Hp) (E : XK) (Q : VK), Ex GN H → (∀ G7 H7, Stp GN H G7 H7 → E (.ref C) none H7) → t E σ H Q
structure LamAt (X : Cx) (k : Nat) (q : Str) (H : Hp) (x : Addr × Addr × (XK → TE)) : Prop where
  l : H x.1 = some (LamO X k x.1 x.2.1 x.2.2)
  c : H x.2.1 = some (CodeO x.2.1 q)
structure LamsOk (X : Cx) (k : Nat) (q : Str) (GN H : Hp) (L : Lams) : Prop where
  at_ : ∀ x ∈ L, LamAt X k q H x
  nd : (L.map (·.1)).Nodup
  g : ∀ x ∈ L, GN x.1 = none
theorem lams_made {X : Cx} {k : Nat} {T : List (Addr × Str)} {G : Hp} {s l c : Addr} {T0 : Int} {σ : L2.St} :
    ∀ (ts : List (XK → TE)) (L : Lams) (H : Hp) (Q : List V → Hp → Prop), Tabs T H → Wd (noT G) H s l c T0 → LamsOk X k (X.env.qual ++ "<lambda>") (noT G) H L →
      (∀ (L2 : Lams) (H2 : Hp), L2.map (·.2.2) = ts → Tabs T H2 → Wd (noT G) H2 s l c T0 → LamsOk X k (X.env.qual ++ "<lambda>") (noT G) H2 (L ++ L2) → Q (L2.map fun x => V.ref x.1) H2) → tLams X k T ts σ H Q
  | [], L, H, Q, tab, wd, ok, q => q [] H rfl tab wd (by rw [List.append_nil]; exact ok)
  | t :: ts, L, H, Q, tab, wd, ok, q => by
    refine ⟨tab, fun f1 c1 A1 eN TA n1 hc1 => ?_⟩
    have wdA := wd.extN eN
    have keepA : ∀ x ∈ L, LamAt X k (X.env.qual ++ "<lambda>") (upd A1 f1 (LamO X k f1 c1 t)) x := fun x hx => by
      have h1 := eN _ _ (ok.at_ x hx).l (fun ps z => by unfold LamO at z; cases z)
      have h2 := eN _ _ (ok.at_ x hx).c codeO_ne
      exact ⟨by rw [upd_ne (ne_of_none h1 n1)]; exact h1, by rw [upd_ne (ne_of_none h2 n1)]; exact h2⟩
    have newAt : LamAt X k (X.env.qual ++ "<lambda>") (upd A1 f1 (LamO X k f1 c1 t)) (f1, c1, t) := ⟨upd_same, (upd_ne (ne_of_none hc1 n1)).trans hc1⟩
    have apart : ∀ x ∈ L, x.1 ≠ f1 := fun x hx => ne_of_none (eN _ _ (ok.at_ x hx).l (fun ps z => by unfold LamO at z; cases z)) n1
    refine lams_made (G := G) (s := s) (l := l) (c := c) (T0 := T0) ts (L ++ [(f1, c1, t)]) _ _ (tabs_keep TA fun b o _ h => by rw [upd_ne (ne_of_none h n1)]; exact h) (wdA.stp (Stp.old wdA.w (.new n1))) ⟨fun x hx => ?_, ?_, fun x hx => ?_⟩ fun L2 H2 e tab2 wd2 ok2 => ?_
    · rcases List.mem_append.mp hx with h | h
      · exact keepA x h
      · rw [List.mem_singleton.mp h]; exact newAt
    · (rw [List.map_append, List.nodup_append])
      refine ⟨ok.nd, by simp, fun a ha b hb => ?_⟩
      obtain ⟨x, hx, rfl⟩ := List.mem_map.mp ha
      simp only [List.map_cons, List.map_nil, List.mem_singleton] at hb
      rw [hb]
      exact apart x hx
    · rcases List.mem_append.mp hx with h | h
      · exact ok.g x h
      · rw [List.mem_singleton.mp h]; exact fresh_back wdA.w n1
    · exact q ((f1, c1, t) :: L2) H2 (by rw [List.map_cons, e]) tab2 wd2 (by rw [List.append_assoc] at ok2; exact ok2)
/-- for w in [lambda: .., ..]: if not isinstance(caught(w), C): return False -/
theorem q_lams {X : Cx} {K : PySem.W.Frag} {k wi : Nat} {T : List (Addr × Str)} {G H : Hp} {s l c C C0 : Addr} {T0 : Int} {σ : L2.St} {D' : Ends} {tz tu : TS} {ts : List (XK → TE)}
    (tab : Tabs T H) (wd : Wd (noT G) H s l c T0) (hn : ts.length ≤ 1000) (hw : wi < σ.length) (hex : PySem.W.exmOne K (.ref C) (.ref C0) = some true) (hki : PySem.W.kitOne K (.ref C) (.ref C) = some true) (hr : ∀ t ∈ ts, ∀ o, RaisesL t (σ.set wi o) (noT G) C)
    (hd : ∀ o H2, Tabs T H2 → Wd (noT G) H2 s l c T0 → tz D' (σ.set wi o) H2) :
    tSeq (tFor (iList K (tLst (tLams X k T ts))) (gName wi) (tIfS (tNot (tB (tCB (rIsK K C) (tCons (fun σ H Q => ∃ (f c' : Addr) (t : XK → TE), σ[wi]? = some (some (.ref f)) ∧ H f = some (LamO X k f c' t) ∧ H c' = some (CodeO c' (X.env.qual ++ "<lambda>")) ∧ TTc K C0 (fun E H' Q' => t E σ H' Q') (delH H f) Q) (tCons (tC (.ref C)) tNil))))) tu tNext)) tz D' σ H := by
  refine lams_made (G := G) (s := s) (l := l) (c := c) (T0 := T0) ts [] H _ tab wd ⟨(fun _ h => nomatch h), List.Pairwise.nil, (fun _ h => nomatch h)⟩ fun L H2 eL tab2 wd2 ok2 => ?_
  rw [List.nil_append] at ok2
  have lenL : L.length = ts.length := by rw [← eL, List.length_map]
  refine ⟨by rw [List.length_map, lenL, sizeLine_eq]; omega, fun p hp => ⟨p, rfl, ⟨_, SqL.of upd_same⟩, ?_⟩⟩
  have gp : noT G p = none := fresh_back wd2.w hp
  refine for_list (D := { D' with nx := tz D' }) (xs := L.map fun x => V.ref x.1) (fun (j : Nat) (σ' : L2.St) (H' : Hp) => (∃ o, σ' = σ.set wi o) ∧ Wd (noT G) H' s l c T0 ∧ Tabs T H' ∧ H' p = some (.lst (L.map fun x => V.ref x.1)) ∧ ∀ i x, j ≤ i → L[i]? = some x → LamAt X k (X.env.qual ++ "<lambda>") H' x)
    ⟨⟨σ[wi], by rw [List.set_getElem_self]⟩, wd2.stp (Stp.old wd2.w (.new hp)), tabs_keep tab2 fun b o _ h => (by rw [upd_ne (ne_of_none h hp)]; exact h), upd_same, fun i x _ hx => ?_⟩ (fun j σ' H' _ inv => SqL.of inv.2.2.2.1) ?_ ?_
  · have h := ok2.at_ x (List.mem_of_getElem? hx)
    exact ⟨by rw [upd_ne (ne_of_none h.l hp)]; exact h.l, by rw [upd_ne (ne_of_none h.c hp)]; exact h.c⟩
  · rintro j v σ' H' hj ⟨⟨o, rfl⟩, wd3, tab3, hp3, hL⟩
    rw [List.getElem?_map] at hj
    obtain ⟨x, hx, rfl⟩ := Option.map_eq_some_iff.mp hj
    have hxm := List.mem_of_getElem? hx
    have hA := hL j x (Nat.le_refl _) hx
    have htm : x.2.2 ∈ ts := by rw [← eL]; exact List.mem_map.mpr ⟨x, hxm, rfl⟩
    have wdD := wd3.del (ok2.g x hxm) hA.l
    dsimp only [gName]
    rw [List.set_set]
    refine ⟨x.1, x.2.1, x.2.2, by rw [List.getElem?_set_self hw], hA.l, hA.c, ?_⟩
    refine hr _ htm _ _ _ _ wdD.w fun G7 H7 s7 => ?_
    refine ⟨true, hex, fun _ e he => ⟨e, .ref C, .ref C, true, rfl, upd_same, .own C, hki, true, rfl, iteF ?_⟩, (fun z => by cases z)⟩
    have keepc : ∀ b u, b ≠ x.1 → H' b = some u → upd H7 e (CauO (.ref C) none e) b = some u := fun b u nb h => by
      have h7 := s7.h b u (by rw [delH_ne nb]; exact h)
      rw [upd_ne (ne_of_none h7 he)]; exact h7
    have wd7 := (wdD.stp s7).low s7.g (Int.le_refl _)
    have tab7 := tabs_sts (tabs_del tab3 hA.l) wdD.st s7.toS
    refine ⟨⟨_, rfl⟩, wd7.stp (Stp.old wd7.w (.new he)), tabs_keep tab7 fun b u _ h => (by rw [upd_ne (ne_of_none h he)]; exact h), keepc p _ (ne_of hp3 hA.l (by intro z; unfold LamO at z; cases z)) hp3, fun i y hi hy => ?_⟩
    have hB := hL i y (by omega) hy
    have ne1 : y.1 ≠ x.1 := fun z => by
      have nd := ok2.nd
      have h1 : (L.map (·.1))[i]? = some y.1 := by rw [List.getElem?_map, hy]; rfl
      have h2 : (L.map (·.1))[j]? = some x.1 := by rw [List.getElem?_map, hx]; rfl
      rw [z, ← h2] at h1
      have := (List.getElem?_inj (by have := (List.getElem?_eq_some_iff.mp hy).1; rw [List.length_map]; exact this) nd).mp h1
      omega
    exact ⟨keepc _ _ ne1 hB.l, keepc _ _ (fun z => by have h := hB.c; rw [z, hA.l] at h; exact lam_ne_code (Option.some.inj h)) hB.c⟩
  · rintro σ' H' ⟨⟨o, rfl⟩, wd3, tab3, _, _⟩
    exact hd o H' tab3 wd3
end Mv


namespace Mv
open PySem L2 LamX Evl
def qLam : Str := "_law_refused.<locals>.<lambda>"
abbrev s__law_refused : Stmt := top 49
def numD : List D := [.none, .bool true, .str ("1" : Str), .int 1000000000, .int (-1000000000), .tuple [.int 1]]
theorem num_bad : (numD.all fun d => !btw (-999999999) 999999999 d) = true := by decide +kernel
/-- an error's class, raised and asked for -/
structure ErrC (K : PySem.W.Frag) (mg : Str → Option Value) (C0 : Addr) (x : Str) (C : Addr) : Prop where
  m : mg x = some (.ref C)
  i : L2.ExcC K C
  e : PySem.W.exmOne K (.ref C) (.ref C0) = some true
  k : PySem.W.kitOne K (.ref C) (.ref C) = some true
def SpRefused (Pt : Addr) : Sp := fun vs H Q _ => ∃ (G : Hp) (s l c : Addr) (T : Int) (v1 : V) (n : List Int), vs = [.ref s, v1] ∧ Dq G v1 (dI n) ∧ n ∈ fewD ∧ Wd G H s l c T ∧ T < 10000000 ∧ Tabs [(Pt, qLam)] H ∧
  ∀ H', Wd (noT G) H' s l c (T + 9000) → Tabs [(Pt, qLam)] H' → Q (.bl true) H'
section
variable {P : Program} {w : World} {mg : Str → Option Value} {base : Heap} {K : PySem.W.Frag}
theorem ok__law_refused {f g c Pt C0 C1 C2 C3 C4 : Addr} {fdc : FuncData} {oc kV doc pm ct : Value} {od an : Option Addr} {osl : Array (Option Value)} (C__law_bad_dials : Cal P w K mg base CX0 3 "_law_bad_dials" ["state"] SpBad) (C__law_bad_place : Cal P w K mg base CX0 4 "_law_bad_place" ["state", "dials_here"] SpBadPlace) (C__law_place : Cal P w K mg base CX0 2 "_law_place" ["state", "dials_here"] SpPlace) (C__law_pick : Cal P w K mg base CX0 2 "_law_pick" ["state", "several"] SpPick)
    (C_places : Cal P w K mg base (L2.CX P w) 5 "places" ["dials"] (SpE (R_places C1))) (C_plus : Cal P w K mg base (L2.CX P w) 5 "plus" ["dials", "one", "other"] (SpE (R_two addP C1 C2))) (C_less : Cal P w K mg base (L2.CX P w) 5 "less" ["dials", "one", "other"] (SpE (R_two takeP C1 C2))) (C_total : Cal P w K mg base (L2.CX P w) 6 "total" ["dials", "several"] (SpE (R_total C1 C4))) (C_times : Cal P w K mg base (L2.CX P w) 5 "times" ["dials", "place", "number"] (SpE (R_times C1 C2 C3)))
    (Z : Zs mg) (Fc : Fun K "_law_caught" "_law_caught" s__law_caught g fdc) (m_c : mg "_law_caught" = some (.ref g)) (m_C0 : mg "MoveError" = some (.ref C0)) (e1 : ErrC K mg C0 "BadDials" C1) (e2 : ErrC K mg C0 "BadPlace" C2) (e3 : ErrC K mg C0 "BadNumber" C3) (e4 : ErrC K mg C0 "BadSeveral" C4) (TB : TabB base mg c Pt)
    (lk : K.lookup f = some ⟨oc, od, .func (PySem.W.fnOf "_law_refused" "_law_refused" (defArgs s__law_refused) (defBody s__law_refused) (defScope s__law_refused) .none kV doc pm an (.ref c) ct), osl⟩) (hcd : PySem.W.codeIn K (.ref c) "_law_refused" = true) :
    FnOk P w K mg base CX0 12 f (PySem.W.fnOf "_law_refused" "_law_refused" (defArgs s__law_refused) (defBody s__law_refused) (defScope s__law_refused) .none kV doc pm an (.ref c) ct) ["state", "dials_here"] (SpRefused Pt) := by
  have sc : FnScope ["state", "dials_here", "wrong", "bad", "fine", "number", "work", "some"] ["state", "dials_here"] (defScope s__law_refused) := ⟨rfl, rfl, rfl, by decide +kernel, rfl, by decide +kernel, by decide +kernel⟩
  have scc : FnScope ["work", "caught", "error"] ["work"] (defScope s__law_caught) := ⟨rfl, rfl, rfl, by decide +kernel, rfl, by decide +kernel, by decide +kernel⟩
  obtain ⟨occ, odc, kVc, docc, pmc, anc, cdc, ctc, oslc, rfl, lkc, hcdc⟩ := Fc.ex
  have m_C1 := e1.m
  have m_C2 := e2.m
  have m_C3 := e3.m
  have m_C4 := e4.m
  have I_C1 := e1.i
  have I_C2 := e2.i
  have I_C3 := e3.i
  have I_C4 := e4.i
  refine fn_of (k := 11) (N := ["state", "dials_here", "wrong", "bad", "fine", "number", "work", "some"]) lk hcd sc (fun vs H Q E h => by obtain ⟨G, s, l, c, T, v1, n, rfl, _⟩ := h; rfl) fun A outer sh H vs Q E hr hsp => ?_
  obtain ⟨G, s, l, c', T, v1, n, rfl, hv, hn, wd, hT, tab, k⟩ := hsp
  suffices hh : ∃ t, PSs (cxOf CX0 P w K mg base ["state", "dials_here", "wrong", "bad", "fine", "number", "work", "some"] "_law_refused" (defScope s__law_refused) f (.ref c) A outer sh H E).nox (defBody s__law_refused) t ∧ t { nx := fun _ H' => Q .non H', rt := Q } (L2.start ["state", "dials_here", "wrong", "bad", "fine", "number", "work", "some"] [.ref s, v1]) H from
    hh.elim fun t h => ⟨t, h.1.nox, h.2⟩
  refine ⟨_, (pss_cons (ps_asg (pe_tup (pa_cons (pe_cal C__law_bad_dials (hr.mono (by decide)) pass0 (pa_cons (pv 0) pa_nil)) (pa_cons (pe_cal C__law_bad_place (hr.mono (by decide)) pass0 (pa_cons (pv 0) (pa_cons (pv 1) pa_nil))) pa_nil))) (pg_tup rfl (pgs_cons (pg_name (i := 2) sc.nd rfl (Or.inr rfl)) (pgs_cons (pg_name (i := 3) sc.nd rfl (Or.inr rfl)) pgs_nil)))) (pss_cons (ps_asg (pe_tup (pa_cons (pe_cal C__law_place (hr.mono (by decide)) pass0 (pa_cons (pv 0) (pa_cons (pv 1) pa_nil))) (pa_cons (pe_cal C__law_pick (hr.mono (by decide)) pass0 (pa_cons (pv 0) (pa_cons (pe_lst (pa_cons pe_non (pa_cons pe_bl (pa_cons pe_str (pa_cons (pe_op op_pow pe_int pe_int) (pa_cons (pe_op op_sub pe_int (pe_op op_pow pe_int pe_int)) (pa_cons (pe_tup (pa_cons pe_int pa_nil)) pa_nil))))))) pa_nil))) pa_nil))) (pg_tup rfl (pgs_cons (pg_name (i := 4) sc.nd rfl (Or.inr rfl)) (pgs_cons (pg_name (i := 5) sc.nd rfl (Or.inr rfl)) pgs_nil)))) (pss_cons (ps_for PassesOwn.never rfl (pi_list (pe_lst (pa_cons (pe_lam (k := 6) (P := Pt) (c := c) (T := [(Pt, qLam)]) (t := (fun E => tCall (SpE (R_places C1)) [] E (tCons (tVar 2) tNil))) TB rfl (List.mem_singleton.mpr rfl) (fun p hp _ => by rw [List.mem_singleton.mp hp] <;> rfl) (lamS_by (sc := defScope s__law_refused) (by decide +kernel)) rfl (fun _ _ _ _ _ => rfl) (fun A outer s H E f c' hr2 => pe_cal C_places (hr2.mono (by decide)) (passes_call (takes_of rfl rfl rfl rfl) (fun _ _ _ _ h => h)) (pa_cons (pv 2) pa_nil)) rfl) (pa_cons (pe_lam (k := 6) (P := Pt) (c := c) (T := [(Pt, qLam)]) (t := (fun E => tCall (SpE (R_two addP C1 C2)) [] E (tCons (tVar 2) (tCons (tVar 3) (tCons (tVar 3) tNil))))) TB rfl (List.mem_singleton.mpr rfl) (fun p hp _ => by rw [List.mem_singleton.mp hp] <;> rfl) (lamS_by (sc := defScope s__law_refused) (by decide +kernel)) rfl (fun _ _ _ _ _ => rfl) (fun A outer s H E f c' hr2 => pe_cal C_plus (hr2.mono (by decide)) (passes_call (takes_of rfl rfl rfl rfl) (fun _ _ _ _ h => h)) (pa_cons (pv 2) (pa_cons (pv 3) (pa_cons (pv 3) pa_nil)))) rfl) (pa_cons (pe_lam (k := 6) (P := Pt) (c := c) (T := [(Pt, qLam)]) (t := (fun E => tCall (SpE (R_two takeP C1 C2)) [] E (tCons (tVar 2) (tCons (tVar 3) (tCons (tVar 3) tNil))))) TB rfl (List.mem_singleton.mpr rfl) (fun p hp _ => by rw [List.mem_singleton.mp hp] <;> rfl) (lamS_by (sc := defScope s__law_refused) (by decide +kernel)) rfl (fun _ _ _ _ _ => rfl) (fun A outer s H E f c' hr2 => pe_cal C_less (hr2.mono (by decide)) (passes_call (takes_of rfl rfl rfl rfl) (fun _ _ _ _ h => h)) (pa_cons (pv 2) (pa_cons (pv 3) (pa_cons (pv 3) pa_nil)))) rfl) (pa_cons (pe_lam (k := 6) (P := Pt) (c := c) (T := [(Pt, qLam)]) (t := (fun E => tCall (SpE (R_total C1 C4)) [] E (tCons (tVar 2) (tCons (tVar 3) tNil)))) TB rfl (List.mem_singleton.mpr rfl) (fun p hp _ => by rw [List.mem_singleton.mp hp] <;> rfl) (lamS_by (sc := defScope s__law_refused) (by decide +kernel)) rfl (fun _ _ _ _ _ => rfl) (fun A outer s H E f c' hr2 => pe_cal C_total (hr2.mono (by decide)) (passes_call (takes_of rfl rfl rfl rfl) (fun _ _ _ _ h => h)) (pa_cons (pv 2) (pa_cons (pv 3) pa_nil))) rfl) (pa_cons (pe_lam (k := 6) (P := Pt) (c := c) (T := [(Pt, qLam)]) (t := (fun E => tCall (SpE (R_times C1 C2 C3)) [] E (tCons (tVar 2) (tCons (tVar 3) (tCons (tVar 5) tNil))))) TB rfl (List.mem_singleton.mpr rfl) (fun p hp _ => by rw [List.mem_singleton.mp hp] <;> rfl) (lamS_by (sc := defScope s__law_refused) (by decide +kernel)) rfl (fun _ _ _ _ _ => rfl) (fun A outer s H E f c' hr2 => pe_cal C_times (hr2.mono (by decide)) (passes_call (takes_of rfl rfl rfl rfl) (fun _ _ _ _ h => h)) (pa_cons (pv 2) (pa_cons (pv 3) (pa_cons (pv 5) pa_nil)))) rfl) pa_nil))))))) (pg_name (i := 6) sc.nd rfl (Or.inl rfl)) (pss_one (ps_if (pt_not (pt_val (pe_callB (r := rIsK K C1) (call_isK I_C1) (by rfl) Z.isinstance (by decide +kernel) (pa_cons (pe_lamvar (k := 6) (i := 6) (a := "work") (TT := TTc K C0) (by rfl) m_c Fc.kp lkc hcdc (.all fun us hl => match us, hl with | [_], _ => rfl) scc rfl (Or.inl rfl) (caught_gives m_C0) (hr.mono (by decide)) rfl (pv 6)) (pa_cons (pe_glob (v := .ref C1) (u := .ref C1) (by rfl) m_C1 rfl) pa_nil))))) (pss_one (ps_ret pe_bl)) pss_nil))) (pss_cons (ps_for PassesOwn.never rfl (pi_list (pe_lst (pa_cons (pe_lam (k := 6) (P := Pt) (c := c) (T := [(Pt, qLam)]) (t := (fun E => tCall (SpE (R_two addP C1 C2)) [] E (tCons (tVar 1) (tCons (tVar 3) (tCons (tVar 4) tNil))))) TB rfl (List.mem_singleton.mpr rfl) (fun p hp _ => by rw [List.mem_singleton.mp hp] <;> rfl) (lamS_by (sc := defScope s__law_refused) (by decide +kernel)) rfl (fun _ _ _ _ _ => rfl) (fun A outer s H E f c' hr2 => pe_cal C_plus (hr2.mono (by decide)) (passes_call (takes_of rfl rfl rfl rfl) (fun _ _ _ _ h => h)) (pa_cons (pv 1) (pa_cons (pv 3) (pa_cons (pv 4) pa_nil)))) rfl) (pa_cons (pe_lam (k := 6) (P := Pt) (c := c) (T := [(Pt, qLam)]) (t := (fun E => tCall (SpE (R_two addP C1 C2)) [] E (tCons (tVar 1) (tCons (tVar 4) (tCons (tVar 3) tNil))))) TB rfl (List.mem_singleton.mpr rfl) (fun p hp _ => by rw [List.mem_singleton.mp hp] <;> rfl) (lamS_by (sc := defScope s__law_refused) (by decide +kernel)) rfl (fun _ _ _ _ _ => rfl) (fun A outer s H E f c' hr2 => pe_cal C_plus (hr2.mono (by decide)) (passes_call (takes_of rfl rfl rfl rfl) (fun _ _ _ _ h => h)) (pa_cons (pv 1) (pa_cons (pv 4) (pa_cons (pv 3) pa_nil)))) rfl) (pa_cons (pe_lam (k := 6) (P := Pt) (c := c) (T := [(Pt, qLam)]) (t := (fun E => tCall (SpE (R_two takeP C1 C2)) [] E (tCons (tVar 1) (tCons (tVar 3) (tCons (tVar 3) tNil))))) TB rfl (List.mem_singleton.mpr rfl) (fun p hp _ => by rw [List.mem_singleton.mp hp] <;> rfl) (lamS_by (sc := defScope s__law_refused) (by decide +kernel)) rfl (fun _ _ _ _ _ => rfl) (fun A outer s H E f c' hr2 => pe_cal C_less (hr2.mono (by decide)) (passes_call (takes_of rfl rfl rfl rfl) (fun _ _ _ _ h => h)) (pa_cons (pv 1) (pa_cons (pv 3) (pa_cons (pv 3) pa_nil)))) rfl) (pa_cons (pe_lam (k := 6) (P := Pt) (c := c) (T := [(Pt, qLam)]) (t := (fun E => tCall (SpE (R_two takeP C1 C2)) [] E (tCons (tVar 1) (tCons (tVar 4) (tCons (tVar 3) tNil))))) TB rfl (List.mem_singleton.mpr rfl) (fun p hp _ => by rw [List.mem_singleton.mp hp] <;> rfl) (lamS_by (sc := defScope s__law_refused) (by decide +kernel)) rfl (fun _ _ _ _ _ => rfl) (fun A outer s H E f c' hr2 => pe_cal C_less (hr2.mono (by decide)) (passes_call (takes_of rfl rfl rfl rfl) (fun _ _ _ _ h => h)) (pa_cons (pv 1) (pa_cons (pv 4) (pa_cons (pv 3) pa_nil)))) rfl) (pa_cons (pe_lam (k := 6) (P := Pt) (c := c) (T := [(Pt, qLam)]) (t := (fun E => tCall (SpE (R_times C1 C2 C3)) [] E (tCons (tVar 1) (tCons (tVar 3) (tCons (tVar 5) tNil))))) TB rfl (List.mem_singleton.mpr rfl) (fun p hp _ => by rw [List.mem_singleton.mp hp] <;> rfl) (lamS_by (sc := defScope s__law_refused) (by decide +kernel)) rfl (fun _ _ _ _ _ => rfl) (fun A outer s H E f c' hr2 => pe_cal C_times (hr2.mono (by decide)) (passes_call (takes_of rfl rfl rfl rfl) (fun _ _ _ _ h => h)) (pa_cons (pv 1) (pa_cons (pv 3) (pa_cons (pv 5) pa_nil)))) rfl) pa_nil))))))) (pg_name (i := 6) sc.nd rfl (Or.inl rfl)) (pss_one (ps_if (pt_not (pt_val (pe_callB (r := rIsK K C2) (call_isK I_C2) (by rfl) Z.isinstance (by decide +kernel) (pa_cons (pe_lamvar (k := 6) (i := 6) (a := "work") (TT := TTc K C0) (by rfl) m_c Fc.kp lkc hcdc (.all fun us hl => match us, hl with | [_], _ => rfl) scc rfl (Or.inl rfl) (caught_gives m_C0) (hr.mono (by decide)) rfl (pv 6)) (pa_cons (pe_glob (v := .ref C2) (u := .ref C2) (by rfl) m_C2 rfl) pa_nil))))) (pss_one (ps_ret pe_bl)) pss_nil))) (pss_cons (ps_if (pt_not (pt_val (pe_callB (r := rIsK K C3) (call_isK I_C3) (by rfl) Z.isinstance (by decide +kernel) (pa_cons (LamX.pe_lamcall (k := 6) (P := Pt) (c := c) (a := "work") (T := [(Pt, qLam)]) (TT := TTc K C0) (t := (fun E => tCall (SpE (R_times C1 C2 C3)) [] E (tCons (tVar 1) (tCons (tVar 4) (tCons (tVar 5) tNil))))) (by rfl) m_c Fc.kp lkc hcdc (.all fun us hl => match us, hl with | [_], _ => rfl) scc rfl (Or.inl rfl) (caught_gives m_C0) TB rfl (List.mem_singleton.mpr rfl) (fun p hp _ => by rw [List.mem_singleton.mp hp] <;> rfl) (hr.mono (by decide)) (lamS_by (sc := defScope s__law_refused) (by decide +kernel)) rfl (fun _ _ _ _ _ => rfl) (fun A outer s H E f c' hr2 => pe_cal C_times (hr2.mono (by decide)) (passes_call (takes_of rfl rfl rfl rfl) (fun _ _ _ _ h => h)) (pa_cons (pv 1) (pa_cons (pv 4) (pa_cons (pv 5) pa_nil))))) (pa_cons (pe_glob (v := .ref C3) (u := .ref C3) (by rfl) m_C3 rfl) pa_nil))))) (pss_one (ps_ret pe_bl)) pss_nil) (pss_cons (ps_set (i := 7) sc.nd rfl (Or.inr rfl) (pe_cal C__law_pick (hr.mono (by decide)) pass0 (pa_cons (pv 0) (pa_cons (pe_lst (pa_cons pe_non (pa_cons pe_int (pa_cons pe_dnewK (pa_cons pe_str (pa_cons (pe_lst (pa_cons (pv 3) pa_nil)) (pa_cons (pe_tup (pa_cons (pv 4) (pa_cons (pv 3) pa_nil))) (pa_cons (pe_lst (pa_cons (pv 4) (pa_cons pe_non pa_nil))) (pa_cons (pe_lst (pa_cons (pe_lst pa_nil) pa_nil)) pa_nil))))))))) pa_nil)))) (pss_one (ps_ret (pe_callB (r := rIsK K C4) (call_isK I_C4) (by rfl) Z.isinstance (by decide +kernel) (pa_cons (LamX.pe_lamcall (k := 6) (P := Pt) (c := c) (a := "work") (T := [(Pt, qLam)]) (TT := TTc K C0) (t := (fun E => tCall (SpE (R_total C1 C4)) [] E (tCons (tVar 1) (tCons (tVar 7) tNil)))) (by rfl) m_c Fc.kp lkc hcdc (.all fun us hl => match us, hl with | [_], _ => rfl) scc rfl (Or.inl rfl) (caught_gives m_C0) TB rfl (List.mem_singleton.mpr rfl) (fun p hp _ => by rw [List.mem_singleton.mp hp] <;> rfl) (hr.mono (by decide)) (lamS_by (sc := defScope s__law_refused) (by decide +kernel)) rfl (fun _ _ _ _ _ => rfl) (fun A outer s H E f c' hr2 => pe_cal C_total (hr2.mono (by decide)) (passes_call (takes_of rfl rfl rfl rfl) (fun _ _ _ _ h => h)) (pa_cons (pv 1) (pa_cons (pv 7) pa_nil)))) (pa_cons (pe_glob (v := .ref C4) (u := .ref C4) (by rfl) m_C4 rfl) pa_nil))))))))))), ?_⟩
  have okd := okB_ok (List.all_eq_true.mp few_ok n hn)
  have l1 := okd.lo
  have l2 := okd.hi
  refine ⟨.ref s, rfl, G, s, l, c', T, rfl, wd, by omega, fun vw dw G1 H1 badw wd1 ss1 hw => ⟨.ref s, rfl, v1, rfl, G1, s, l, c', _, v1, n, rfl, hv.mono ss1.g, hn, wd1, by omega, fun vb db G2 H2 badb wd2 ss2 hb => ⟨by show 2 ≤ sizeLine; decide, fun t ht => ⟨t, _, rfl, SqT.of upd_same, rfl, _, _, rfl, _, _, rfl, rfl, ?_⟩⟩⟩⟩
  have tab2 := tabs_sts (tabs_sts tab wd.st ss1) wd1.st ss2
  have st3 := Stp.old wd2.w (show Ex H2 (upd H2 t (.tup [vw, vb])) from .new ht)
  have wd3 := wd2.stp st3
  have tab3 := tabs_sts tab2 wd2.st st3.toS
  have hv3 := (hv.mono ss1.g).mono ss2.g
  refine ⟨.ref s, rfl, v1, rfl, G2, s, l, c', _, v1, n, rfl, hv3, fun x hx => by have := okd.sz x hx; omega, by omega, wd3, by omega, fun vf p G4 H4 inp wd4 ss4 hf => ?_⟩
  have tab4 := tabs_sts tab3 wd3.st ss4
  refine ⟨.ref s, rfl, ?_⟩
  have pw : ∀ {σ : L2.St} {G : Hp}, EvD (tOp (rI CPow fun i j => .int (i ^ j.toNat)) (tC (.int 10)) (tC (.int 9))) σ G (.int 1000000000) := fun {σ G} => (d_op (d_c (.int 10)) (d_c (.int 9)) (opd_I ⟨by decide, by decide, by decide⟩ fun _ => .int (10 ^ 9))).is rfl
  have evL : EvD (tLst (tCons (tC .non) (tCons (tC (.bl true)) (tCons (tC (.str ("1" : Str))) (tCons (tOp (rI CPow fun i j => .int (i ^ j.toNat)) (tC (.int 10)) (tC (.int 9))) (tCons (tOp (rI0 fun i j => .int (i - j)) (tC (.int 0)) (tOp (rI CPow fun i j => .int (i ^ j.toNat)) (tC (.int 10)) (tC (.int 9)))) (tCons (tTup (tCons (tC (.int 1)) tNil)) tNil))))))) [some (.ref s), some v1, some vw, some vb, none, none, none, none] G4 (.list numD) :=
    d_lst (a_cons (d_c .non) (a_cons (d_c (.bl true)) (a_cons (d_c (.str _)) (a_cons pw (a_cons ((d_op (d_c (.int 0)) pw (opd_I0 fun _ => .int (0 - 1000000000))).is rfl) (a_cons (d_tup (a_cons (d_c (.int 1)) a_nil) (by show 1 ≤ sizeLine; decide)) a_nil)))))) (by show 6 ≤ sizeLine; decide)
  refine evL G4 H4 (.refl G4) wd4.w _ fun vl G5 H5 s5 hl => ?_
  have wd5 := wd4.stp s5
  have tab5 := tabs_sts tab4 wd4.st s5.toS
  refine ⟨G5, s, l, c', _, vl, numD, rfl, hl, List.cons_ne_nil _ _, by show 6 < 1000000; decide, wd5, by omega, fun vn dn H6 hdn hqn wd6' ss6 => ⟨by show 2 ≤ sizeLine; decide, fun t2 ht2 => ⟨t2, _, rfl, SqT.of upd_same, rfl, _, _, rfl, _, _, rfl, rfl, ?_⟩⟩⟩
  have tab6' := tabs_sts tab5 wd5.st ss6
  have st6 := Stp.old wd6'.w (show Ex H6 (upd H6 t2 (.tup [vf, vn])) from .new ht2)
  obtain ⟨G6, eG6⟩ : ∃ G6, G6 = G5 := ⟨_, rfl⟩
  have wd6 := ((wd6'.stp st6).low (G0 := noT G6) (fun b o q => by rw [eG6] at q; exact (of_noT q).1) (show _ ≤ T + 8000 by omega))
  have tab6 := tabs_sts tab6' wd6'.st st6.toS
  have numb : btw (-999999999) 999999999 dn = false := by
    have := List.all_eq_true.mp num_bad dn hdn
    simpa using this
  have up : Ex G2 G5 := ss4.g.trans s5.g
  have hvN : Dq (noT G6) v1 (dI n) := by rw [eG6]; exact (hv3.mono up).noT
  have hwN : Dq (noT G6) vw dw := by rw [eG6]; exact ((hw.mono ss2.g).mono up).noT
  have hbN : Dq (noT G6) vb db := by rw [eG6]; exact (hb.mono up).noT
  have hfN : Dq (noT G6) vf (dI p) := by rw [eG6]; exact (hf.mono s5.g).noT
  have hnN : Dq (noT G6) vn dn := by rw [eG6]; exact hqn.noT
  have gN : Ex (noT G) (noT G6) := fun b o q => by
    obtain ⟨q1, q2⟩ := of_noT q
    rw [eG6]
    exact noT_at (up _ _ (ss2.g _ _ (ss1.g _ _ q1))) q2
  dsimp only
  refine q_lams (X := (cxOf CX0 P w K mg base ["state", "dials_here", "wrong", "bad", "fine", "number", "work", "some"] "_law_refused" (defScope s__law_refused) f (.ref c) A outer sh H E).nox) (K := K) (k := 6) (wi := 6) (T := [(Pt, qLam)]) (G := G6) (C := C1) (C0 := C0) (σ := [some (.ref s), some v1, some vw, some vb, some vf, some vn, none, none]) (ts := [(fun E => tCall (SpE (R_places C1)) [] E (tCons (tVar 2) tNil)), (fun E => tCall (SpE (R_two addP C1 C2)) [] E (tCons (tVar 2) (tCons (tVar 3) (tCons (tVar 3) tNil)))), (fun E => tCall (SpE (R_two takeP C1 C2)) [] E (tCons (tVar 2) (tCons (tVar 3) (tCons (tVar 3) tNil)))), (fun E => tCall (SpE (R_total C1 C4)) [] E (tCons (tVar 2) (tCons (tVar 3) tNil))), (fun E => tCall (SpE (R_times C1 C2 C3)) [] E (tCons (tVar 2) (tCons (tVar 3) (tCons (tVar 5) tNil))))]) tab6 wd6 (by show 5 ≤ 1000; decide) (by show 6 < 8; decide) e1.e e1.k (fun t ht o => ?_) fun o H7 tab7 wd7 => ?_
  · simp only [List.mem_cons, List.not_mem_nil, or_false] at ht
    rcases ht with rfl | rfl | rfl | rfl | rfl
    · exact fun H E Q wx kx => ⟨vw, rfl, noT G6, [dw], _, wx, .cons hwN .nil, ⟨dw, rfl, .inr ⟨badw, rfl⟩⟩, (fun z hz => by cases hz), fun C hC G7 H7 s7 => by cases hC; exact kx G7 H7 s7⟩
    · exact fun H E Q wx kx => ⟨vw, rfl, vb, rfl, vb, rfl, noT G6, [dw, db, db], _, wx, .cons hwN (.cons hbN (.cons hbN .nil)), ⟨dw, db, db, rfl, .inr (.inl ⟨badw, rfl⟩)⟩, (fun z hz => by cases hz), fun C hC G7 H7 s7 => by cases hC; exact kx G7 H7 s7⟩
    · exact fun H E Q wx kx => ⟨vw, rfl, vb, rfl, vb, rfl, noT G6, [dw, db, db], _, wx, .cons hwN (.cons hbN (.cons hbN .nil)), ⟨dw, db, db, rfl, .inr (.inl ⟨badw, rfl⟩)⟩, (fun z hz => by cases hz), fun C hC G7 H7 s7 => by cases hC; exact kx G7 H7 s7⟩
    · exact fun H E Q wx kx => ⟨vw, rfl, vb, rfl, noT G6, [dw, db], _, wx, .cons hwN (.cons hbN .nil), ⟨dw, db, rfl, .inr (.inl ⟨badw, rfl⟩)⟩, (fun z hz => by cases hz), fun C hC G7 H7 s7 => by cases hC; exact kx G7 H7 s7⟩
    · exact fun H E Q wx kx => ⟨vw, rfl, vb, rfl, vn, rfl, noT G6, [dw, db, dn], _, wx, .cons hwN (.cons hbN (.cons hnN .nil)), ⟨dw, db, dn, rfl, .inr (.inl ⟨badw, rfl⟩)⟩, (fun z hz => by cases hz), fun C hC G7 H7 s7 => by cases hC; exact kx G7 H7 s7⟩
  refine q_lams (X := (cxOf CX0 P w K mg base ["state", "dials_here", "wrong", "bad", "fine", "number", "work", "some"] "_law_refused" (defScope s__law_refused) f (.ref c) A outer sh H E).nox) (K := K) (k := 6) (wi := 6) (T := [(Pt, qLam)]) (G := G6) (C := C2) (C0 := C0) (σ := [some (.ref s), some v1, some vw, some vb, some vf, some vn, o, none]) (ts := [(fun E => tCall (SpE (R_two addP C1 C2)) [] E (tCons (tVar 1) (tCons (tVar 3) (tCons (tVar 4) tNil)))), (fun E => tCall (SpE (R_two addP C1 C2)) [] E (tCons (tVar 1) (tCons (tVar 4) (tCons (tVar 3) tNil)))), (fun E => tCall (SpE (R_two takeP C1 C2)) [] E (tCons (tVar 1) (tCons (tVar 3) (tCons (tVar 3) tNil)))), (fun E => tCall (SpE (R_two takeP C1 C2)) [] E (tCons (tVar 1) (tCons (tVar 4) (tCons (tVar 3) tNil)))), (fun E => tCall (SpE (R_times C1 C2 C3)) [] E (tCons (tVar 1) (tCons (tVar 3) (tCons (tVar 5) tNil))))]) tab7 wd7 (by show 5 ≤ 1000; decide) (by show 6 < 8; decide) e2.e e2.k (fun t ht o => ?_) fun o H8 tab8 wd8 => ?_
  · simp only [List.mem_cons, List.not_mem_nil, or_false] at ht
    rcases ht with rfl | rfl | rfl | rfl | rfl
    · exact fun H E Q wx kx => ⟨v1, rfl, vb, rfl, vf, rfl, noT G6, [(dI n), db, (dI p)], _, wx, .cons hvN (.cons hbN (.cons hfN .nil)), ⟨dI n, db, dI p, rfl, .inr (.inr (.inl ⟨n, rfl, hn, badb, rfl⟩))⟩, (fun z hz => by cases hz), fun C hC G7 H7 s7 => by cases hC; exact kx G7 H7 s7⟩
    · exact fun H E Q wx kx => ⟨v1, rfl, vf, rfl, vb, rfl, noT G6, [(dI n), (dI p), db], _, wx, .cons hvN (.cons hfN (.cons hbN .nil)), ⟨dI n, dI p, db, rfl, .inr (.inr (.inr ⟨n, p, rfl, hn, rfl, inp.mem, badb, rfl⟩))⟩, (fun z hz => by cases hz), fun C hC G7 H7 s7 => by cases hC; exact kx G7 H7 s7⟩
    · exact fun H E Q wx kx => ⟨v1, rfl, vb, rfl, vb, rfl, noT G6, [(dI n), db, db], _, wx, .cons hvN (.cons hbN (.cons hbN .nil)), ⟨dI n, db, db, rfl, .inr (.inr (.inl ⟨n, rfl, hn, badb, rfl⟩))⟩, (fun z hz => by cases hz), fun C hC G7 H7 s7 => by cases hC; exact kx G7 H7 s7⟩
    · exact fun H E Q wx kx => ⟨v1, rfl, vf, rfl, vb, rfl, noT G6, [(dI n), (dI p), db], _, wx, .cons hvN (.cons hfN (.cons hbN .nil)), ⟨dI n, dI p, db, rfl, .inr (.inr (.inr ⟨n, p, rfl, hn, rfl, inp.mem, badb, rfl⟩))⟩, (fun z hz => by cases hz), fun C hC G7 H7 s7 => by cases hC; exact kx G7 H7 s7⟩
    · exact fun H E Q wx kx => ⟨v1, rfl, vb, rfl, vn, rfl, noT G6, [(dI n), db, dn], _, wx, .cons hvN (.cons hbN (.cons hnN .nil)), ⟨dI n, db, dn, rfl, .inr (.inr (.inl ⟨n, rfl, hn, badb, rfl⟩))⟩, (fun z hz => by cases hz), fun C hC G7 H7 s7 => by cases hC; exact kx G7 H7 s7⟩
  refine ⟨tab8, fun H9 eN9 tab9 => ?_⟩
  have wd9 := wd8.extN eN9
  refine ⟨v1, rfl, vf, rfl, vn, rfl, noT G6, [dI n, dI p, dn], _, wd9.w, .cons hvN (.cons hfN (.cons hnN .nil)), ⟨dI n, dI p, dn, rfl, .inr (.inr (.inr ⟨n, p, rfl, hn, rfl, inp.mem, numb, rfl⟩))⟩, (fun z hz => by cases hz), fun C hC G7 H10 s10 => ?_⟩
  cases hC
  refine ⟨true, e3.e, fun _ e he => ⟨e, .ref C3, .ref C3, true, rfl, upd_same, .own C3, e3.k, true, rfl, iteF ?_⟩, (fun z => by cases z)⟩
  have wd10 := (wd9.stp s10).low s10.g (Int.le_refl _)
  have tab10 := tabs_sts tab9 wd9.st s10.toS
  have wd11 := wd10.stp (Stp.old wd10.w (Ex.new (o := CauO (.ref C3) none e) he))
  have tab11 : Tabs [(Pt, qLam)] (upd H10 e (CauO (.ref C3) none e)) := tabs_keep tab10 fun b u _ h => by rw [upd_ne (ne_of_none h he)]; exact h
  refine ⟨.ref s, rfl, ?_⟩
  have evS : EvD (tLst (tCons (tC .non) (tCons (tC (.int 5)) (tCons tDNewK (tCons (tC (.str ("" : Str))) (tCons (tLst (tCons (tVar 3) tNil)) (tCons (tTup (tCons (tVar 4) (tCons (tVar 3) tNil))) (tCons (tLst (tCons (tVar 4) (tCons (tC .non) tNil))) (tCons (tLst (tCons (tLst tNil) tNil)) tNil))))))))) [some (.ref s), some v1, some vw, some vb, some vf, some vn, o, none] (noT G6) (.list [.none, .int 5, .dict [], .str ("" : Str), .list [db], .tuple [dI p, db], .list [dI p, .none], .list [.list []]]) :=
    d_lst (a_cons (d_c .non) (a_cons (d_c (.int 5)) (a_cons d_emp (a_cons (d_c (.str _)) (a_cons (d_lst (a_cons (d_var rfl hbN) a_nil) (by show 1 ≤ sizeLine; decide)) (a_cons (d_tup (a_cons (d_var rfl hfN) (a_cons (d_var rfl hbN) a_nil)) (by show 2 ≤ sizeLine; decide)) (a_cons (d_lst (a_cons (d_var rfl hfN) (a_cons (d_c .non) a_nil)) (by show 2 ≤ sizeLine; decide)) (a_cons (d_lst (a_cons (d_lst a_nil (by decide)) a_nil) (by show 1 ≤ sizeLine; decide)) a_nil)))))))) (by show 8 ≤ sizeLine; decide)
  refine evS (noT G6) _ (.refl _) wd11.w _ fun vs2 G12 H12 s12 hs2 => ?_
  have wd12 := wd11.stp s12
  have tab12 := tabs_sts tab11 wd11.st s12.toS
  refine ⟨G12, s, l, c', _, vs2, _, rfl, hs2, List.cons_ne_nil _ _, by show 8 < 1000000; decide, wd12, by omega, fun vm dm H13 hdm hqm wd13 ss13 => ?_⟩
  have tab13 := tabs_sts tab12 wd12.st ss13
  have badm : isPlaces n dm = false ∧ fewIn dm := by
    simp only [List.mem_cons, List.not_mem_nil, or_false] at hdm
    rcases hdm with rfl | rfl | rfl | rfl | rfl | rfl | rfl | rfl
    · exact ⟨rfl, trivial⟩
    · exact ⟨rfl, trivial⟩
    · exact ⟨rfl, trivial⟩
    · exact ⟨rfl, trivial⟩
    · exact ⟨by show [db].all (isPlace n) = false; simp [badb], by show 1 ≤ 1000; decide⟩
    · exact ⟨by show [dI p, db].all (isPlace n) = false; simp [badb], by show 2 ≤ 1000; decide⟩
    · exact ⟨by show [dI p, PyData.none].all (isPlace n) = false; simp [isPlace], by show 2 ≤ 1000; decide⟩
    · exact ⟨by show [PyData.list []].all (isPlace n) = false; simp [isPlace], by show 1 ≤ 1000; decide⟩
  have wd14 := wd13.low (G0 := noT G12) (fun b o q => (of_noT q).1) (Int.le_refl _)
  have gN2 : Ex (noT G6) (noT G12) := fun b o q => noT_at (s12.g _ _ q) (of_noT q).2
  refine ⟨tab13, fun H15 eN15 tab15 => ?_⟩
  have wd15 := wd14.extN eN15
  refine ⟨v1, rfl, vm, rfl, noT G12, [dI n, dm], _, wd15.w, .cons (hvN.mono gN2) (.cons hqm.noT .nil), ⟨dI n, dm, rfl, .inr (.inr ⟨n, rfl, hn, badm.2, badm.1, rfl⟩)⟩, (fun z hz => by cases hz), fun C hC G16 H16 s16 => ?_⟩
  cases hC
  refine ⟨true, e4.e, fun _ e he => ⟨e, .ref C4, .ref C4, true, rfl, upd_same, .own C4, e4.k, ?_⟩, (fun z => by cases z)⟩
  have wd16 := (wd15.stp s16).low s16.g (Int.le_refl _)
  have tab16 := tabs_sts tab15 wd15.st s16.toS
  exact k _ ((wd16.stp (Stp.old wd16.w (.new he))).low (gN.trans gN2) (by omega)) (tabs_keep tab16 fun b u _ h => by rw [upd_ne (ne_of_none h he)]; exact h)
end
end Mv


namespace Mv
open PySem L2 LamX Evl
/-! ### three keywords, the last one first -/
structure CalS3 (P : Program) (w : World) (K : PySem.W.Frag) (mg : Str → Option Value) (base : Heap) (CX : CXT) (k : Nat) (x : Str) (p1 p2 p3 : Str) (sp : Sp) : Prop where
  ex : ∃ (f : Addr) (fd : FuncData), FnOk P w K mg base CX k f fd [p1, p2, p3] sp ∧ mg x = some (.ref f) ∧ PySem.W.keepIn K (.ref f) = true ∧ ∀ u v z : Value, bindArgs fd ⟨[], [(p3, z), (p2, v), (p1, u)]⟩ = pure [(p1, u), (p2, v), (p3, z)]
def tCallS3 (sp : Sp) (E : XK) (t : TA) : TE := fun σ H Q => t σ H fun vs H1 => ∃ a b d, vs = [a, b, d] ∧ sp [d, b, a] H1 Q E
theorem vals3 {a b d : V} {us : List Value} (r : Vals [a, b, d] us) : ∃ ua ub ud, us = [ua, ub, ud] ∧ RelV a ua ∧ RelV b ub ∧ RelV d ud := by
  cases r with
  | cons h1 hn =>
    obtain ⟨ub, ud, rfl, rb, rd⟩ := vals2 hn
    exact ⟨_, ub, ud, rfl, h1, rb, rd⟩
theorem pe_calks3 {X : Cx} {CX : CXT} {k : Nat} {x p1 p2 p3 : Str} {sp : Sp} {E : XK} {p pos : Pos} {kws : List Keyword} {t : TA} (C : CalS3 X.prog X.w X.K X.mg X.base CX k x p1 p2 p3 sp) (hr : Room k X.A) (hx : Passes CX X E) (ha : PK X kws t)
    (hg : Gl X x := by rfl) (hall : (backToKw pos (keywordEach kws X.env)).all (·.1.isSome) = true := by rfl) (hks : (backToKw pos (keywordEach kws X.env)).filterMap (·.1) = [p3, p2, p1] := by rfl) (hdb : (x == ("__debug__" : Str)) = false := by decide)
    (hpl : ((backTo pos (starEach [] X.env)).any (·.1) || (backToKw pos (keywordEach kws X.env)).any (·.1.isNone)) = false := by rfl) : PE X (.Call (.Name x p) [] kws pos) (tCallS3 sp E t) := by
  obtain ⟨f, fd, F, hm, hk, hb⟩ := C.ex
  refine ⟨fun pins s σ H Q I h => wpAny_Call_Name_kw (ld_glob I hg hm ?_ hdb)⟩
  refine PySem.W.callWith_KW0 (h₀ := X.base) I.ok.mod.kin hk hall (thn (ha.run pos pins s σ H _ I h) fun ws s2 ⟨zs, H2, I2, rz, a, b, d, ez, q2⟩ => ⟨I2.kIn, ?_⟩) hpl
  rw [hks]
  subst ez
  obtain ⟨ua, ub, ud, rfl, ra, rb, rd⟩ := vals3 rz
  refine wpAny_call (codeAny_mono (F.run X.A X.stack s2 H2 ⟨[], [p3, p2, p1].zip [ua, ub, ud]⟩ [ud, ub, ua] [d, b, a] Q E hr I2.env0 (.of_eq (hb ud ub ua)) (.cons rd (.cons rb (.cons ra .nil))) q2) fun r s' hq => ?_)
  cases r with
  | error e => exact hx pins σ H2 s2 e s' I2 hq
  | ok fl =>
    cases fl with
    | ret u => exact I2.after hq
    | next => exact False.elim hq
    | brk => exact False.elim hq
    | cont => exact False.elim hq
theorem d_calS3 {G : Hp} {σ : L2.St} {R : List D → Except Addr D → Prop} {E : XK} {tr : TA} {d e g z : D} (h : EvS tr σ G [d, e, g]) (hp : R [g, e, d] (.ok z)) : EvD (tCallS3 (SpE R) E tr) σ G z := fun G1 H1 x w Q q =>
  h G1 H1 x w _ fun vs G2 H2 s hvs => by
    cases hvs with
    | cons h1 hn =>
      cases hn with
      | cons h2 hn =>
        cases hn with
        | cons h3 hn =>
          cases hn
          exact ⟨_, _, _, rfl, G2, [g, e, d], _, s.w, .cons h3 (.cons h2 (.cons h1 .nil)), hp, fun z' hz v G3 H3 s3 hv => by cases hz; exact q v G3 H3 (s.trans s3) hv, fun C hC => nomatch hC⟩
/-- a list twice -/
theorem opd_twice {G : Hp} {ds : List D} (hz : ds.length ≤ 1000) : OpD rRep G (.list ds) (.int 2) (.list (ds ++ ds)) := fun x y G1 H1 a b hx hy Q q => by
  cases hx with
  | @lst p xs _ hp hxs =>
    cases hy
    have hl := hxs.len
    refine ⟨p, 2, xs, rfl, rfl, b _ _ hp, by decide, by decide, by rw [sizeLine_eq]; show xs.length * 2 ≤ _; omega, fun l hl2 => ?_⟩
    have e : (List.replicate (2 : Int).toNat xs).flatten = xs ++ xs := by
      show (List.replicate 2 xs).flatten = xs ++ xs
      simp [List.replicate]
    rw [e]
    have s := Stp.new (o := .lst (xs ++ xs)) b hl2
    exact q _ _ _ s (.lst upd_same ((hxs.app hxs).mono s.g))
end Mv


namespace Mv
open PySem L2 LamX Evl
theorem addP_in : ∀ {n a b : List Int}, a.length = n.length → b.length = n.length → (∀ s ∈ n, 0 < s) → InP (addP n a b) n
  | [], [], [], _, _, _ => .nil
  | s :: n, x :: a, y :: b, h1, h2, h => .cons (Int.emod_nonneg _ (by have := h s (.head _); omega)) (Int.emod_lt_of_pos _ (h s (.head _))) (addP_in (by simpa using h1) (by simpa using h2) fun s hs => h s (.tail _ hs))
  | s :: n, [], _, h, _, _ => by simp at h
  | s :: n, _ :: _, [], _, h, _ => by simp at h
  | [], _ :: _, _, h, _, _ => by simp at h
  | [], [], _ :: _, _, h, _ => by simp at h
theorem takeP_in : ∀ {n a b : List Int}, a.length = n.length → b.length = n.length → (∀ s ∈ n, 0 < s) → InP (takeP n a b) n
  | [], [], [], _, _, _ => .nil
  | s :: n, x :: a, y :: b, h1, h2, h => .cons (Int.emod_nonneg _ (by have := h s (.head _); omega)) (Int.emod_lt_of_pos _ (h s (.head _))) (takeP_in (by simpa using h1) (by simpa using h2) fun s hs => h s (.tail _ hs))
  | s :: n, [], _, h, _, _ => by simp at h
  | s :: n, _ :: _, [], _, h, _ => by simp at h
  | [], _ :: _, _, h, _, _ => by simp at h
  | [], [], _ :: _, _, h, _ => by simp at h
theorem mulP_in {k : Int} : ∀ {n a : List Int}, a.length = n.length → (∀ s ∈ n, 0 < s) → InP (mulP n a k) n
  | [], [], _, _ => .nil
  | s :: n, x :: a, h1, h => .cons (Int.emod_nonneg _ (by have := h s (.head _); omega)) (Int.emod_lt_of_pos _ (h s (.head _))) (mulP_in (by simpa using h1) fun s hs => h s (.tail _ hs))
  | s :: n, [], h, _ => by simp at h
  | [], _ :: _, h, _ => by simp at h
theorem zeros_in : ∀ {n : List Int}, (∀ s ∈ n, 0 < s) → InP (zeros n) n
  | [], _ => .nil
  | s :: n, h => .cons (Int.le_refl _) (h s (.head _)) (zeros_in (n := n) fun s hs => h s (.tail _ hs))
theorem addUp_in {n : List Int} (h : ∀ s ∈ n, 0 < s) : ∀ {l : List (List Int)}, (∀ p ∈ l, p.length = n.length) → InP (addUp n l) n := by
  have key : ∀ (l : List (List Int)) (b : List Int), InP b n → (∀ p ∈ l, p.length = n.length) → InP (l.foldl (fun a b => addP n a b) b) n := by
    intro l
    induction l with
    | nil => intro b hb _; exact hb
    | cons p l ih => intro b hb hl; exact ih _ (addP_in hb.len (hl p (.head _)) h) fun q hq => hl q (.tail _ hq)
  intro l hl
  exact key l _ (zeros_in h) hl
theorem wide_mod (k c s x : Int) : ((k + c * s) * x) % s = (x * k) % s := by
  have e : (k + c * s) * x = x * k + s * (c * x) := by
    rw [Int.add_mul, Int.mul_comm k x, Int.mul_comm c s, Int.mul_assoc]
  rw [e, Int.add_mul_emod_self_left]
theorem wide_D : ∀ (n a : List Int) (k : Int), made (fun _ => true) (fun q : D × D => match q with | (.int x, .int s) => PyData.int (((k + 1000000000 * s) * x) % s) | _ => .none) ((a.map PyData.int).zip (n.map PyData.int)) = (mulP n a k).map PyData.int
  | [], [], _ => rfl
  | [], _ :: _, _ => rfl
  | _ :: _, [], _ => rfl
  | s :: n, x :: a, k => by
    have ih := wide_D n a k
    unfold made at ih ⊢
    rw [List.filter_eq_self.mpr (fun _ _ => rfl)] at ih ⊢
    rw [List.map_cons, List.map_cons, List.zip_cons_cons, List.map_cons, ih]
    show PyData.int _ :: _ = PyData.int ((x * k) % s) :: _
    rw [wide_mod]
theorem few_pair : (fewD.all fun n => (placesOf n).all fun p => decide ((PyData.shown (dL [p, p])).length ≤ sizeLine) && PyData.showable (dL [p, p])) = true := by decide +kernel
end Mv


namespace Mv
open PySem L2 LamX Evl
theorem short_int : ∀ x : Int, 0 ≤ x → x ≤ 24 → (PyData.shown (.int x)).length ≤ 8 ∧ PyData.showable (.int x) = true := by
  have h : ((List.range 25).all fun (m : Nat) => decide ((PyData.shown (.int (m : Int))).length ≤ 8) && PyData.showable (.int (m : Int))) = true := by decide +kernel
  intro x h1 h2
  obtain ⟨m, rfl⟩ := Int.eq_ofNat_of_zero_le h1
  have := List.all_eq_true.mp h m (List.mem_range.mpr (by omega))
  simpa only [Bool.and_eq_true, decide_eq_true_eq] using this
theorem short_ints : ∀ p : List Int, (∀ x ∈ p, 0 ≤ x ∧ x ≤ 24) → PyData.leavesShortAll 8 (p.map PyData.int) = true ∧ PyData.showableAll (p.map PyData.int) = true
  | [], _ => ⟨by simp [PyData.leavesShortAll], by simp [PyData.showableAll]⟩
  | x :: p, h => by
    have ih := short_ints p fun y hy => h y (.tail _ hy)
    have h0 := short_int x (h x (.head _)).1 (h x (.head _)).2
    rw [List.map_cons, PyData.leavesShortAll, PyData.showableAll, ih.1, ih.2, h0.2, PyData.leavesShort]
    exact ⟨by simpa using h0.1, rfl⟩
theorem short_rows : ∀ l : List (List Int), (∀ p ∈ l, ∀ x ∈ p, 0 ≤ x ∧ x ≤ 24) → PyData.leavesShortAll 8 (l.map dI) = true ∧ PyData.showableAll (l.map dI) = true
  | [], _ => ⟨by simp [PyData.leavesShortAll], by simp [PyData.showableAll]⟩
  | p :: l, h => by
    have ih := short_rows l fun y hy => h y (.tail _ hy)
    have h0 := short_ints p (h p (.head _))
    have e1 : PyData.leavesShort 8 (dI p) = true := by unfold dI; rw [PyData.leavesShort]; exact h0.1
    have e2 : PyData.showable (dI p) = true := by unfold dI; rw [PyData.showable]; exact h0.2
    rw [List.map_cons, PyData.leavesShortAll, PyData.showableAll, ih.1, ih.2, e1, e2]
    exact ⟨rfl, rfl⟩
theorem few_ent : (fewD.all fun n => (placesOf n).all fun p => p.all fun x => decide (0 ≤ x) && decide (x ≤ 24)) = true := by decide +kernel
theorem few_bulk : (fewD.all fun n => decide (PyData.bulk (.list [dL (placesOf n), dL (placesOf n)]) ≤ 10000)) = true := by decide +kernel
theorem ent_in {n p : List Int} (hn : n ∈ fewD) (hp : p ∈ placesOf n) : ∀ x ∈ p, 0 ≤ x ∧ x ≤ 24 := fun x hx => by
  have := List.all_eq_true.mp (List.all_eq_true.mp (List.all_eq_true.mp few_ent n hn) p hp) x hx
  simpa only [Bool.and_eq_true, decide_eq_true_eq] using this
theorem places_show {n : List Int} (hn : n ∈ fewD) : (PyData.shown (.list [dL (placesOf n), dL (placesOf n)])).length ≤ sizeLine ∧ PyData.showable (.list [dL (placesOf n), dL (placesOf n)]) = true ∧ (PyData.shown (dL (placesOf n))).length ≤ sizeLine ∧ PyData.showable (dL (placesOf n)) = true := by
  have hr := short_rows (placesOf n) fun p hp => ent_in hn hp
  have e1 : PyData.leavesShort 8 (dL (placesOf n)) = true := by unfold dL; rw [PyData.leavesShort]; exact hr.1
  have e2 : PyData.showable (dL (placesOf n)) = true := by unfold dL; rw [PyData.showable]; exact hr.2
  have d1 : PyData.leavesShort 8 (.list [dL (placesOf n), dL (placesOf n)]) = true := by
    rw [PyData.leavesShort, PyData.leavesShortAll, PyData.leavesShortAll, PyData.leavesShortAll, e1]; rfl
  have d2 : PyData.showable (.list [dL (placesOf n), dL (placesOf n)]) = true := by
    rw [PyData.showable, PyData.showableAll, PyData.showableAll, PyData.showableAll, e2]; rfl
  have b := List.all_eq_true.mp few_bulk n hn
  have b1 : PyData.bulk (.list [dL (placesOf n), dL (placesOf n)]) ≤ 10000 := by simpa only [decide_eq_true_eq] using b
  have b2 : PyData.bulk (dL (placesOf n)) ≤ 10000 := by
    rw [PyData.bulk, PyData.bulkAll] at b1
    omega
  have l1 := PyData.shown_le_bulk 8 (by decide) _ d1
  have l2 := PyData.shown_le_bulk 8 (by decide) _ e1
  rw [sizeLine_eq]
  exact ⟨by omega, d2, by omega, e2⟩
theorem pair_show {n p : List Int} (hn : n ∈ fewD) (hp : p ∈ placesOf n) : (PyData.shown (dL [p, p])).length ≤ sizeLine ∧ PyData.showable (dL [p, p]) = true := by
  have := List.all_eq_true.mp (List.all_eq_true.mp few_pair n hn) p hp
  simpa only [Bool.and_eq_true, decide_eq_true_eq] using this
end Mv


namespace Mv
open PySem L2 LamX Evl
theorem numD_in {r1 r2 : Int} (h1 : 0 ≤ r1) (h2 : r1 < 1000000000) (h3 : 0 ≤ r2) (h4 : r2 < 1000000000) {d : D} (h : d ∈ ([0, 1, -1, 999999999, 0 - 999999999, r1, 0 - r2] : List Int).map PyData.int) : ∃ k : Int, d = .int k ∧ -999999999 ≤ k ∧ k ≤ 999999999 := by
  obtain ⟨k, hk, rfl⟩ := List.mem_map.mp h
  refine ⟨k, rfl, ?_⟩
  simp only [List.mem_cons, List.not_mem_nil, or_false] at hk
  rcases hk with rfl | rfl | rfl | rfl | rfl | rfl | rfl <;> omega
theorem btw_num {k : Int} (h1 : -999999999 ≤ k) (h2 : k ≤ 999999999) : btw (-999999999) 999999999 (.int k) = true := by
  show (decide (-999999999 ≤ k) && decide (k ≤ 999999999)) = true
  simp [h1, h2]
abbrev tTen : TE := tOp (rI CPow fun i j => V.int (i ^ j.toNat)) (tC (V.int 10)) (tC (V.int 9))
abbrev tDrawTen : TE := tCall SpDraw [] E0 (tCons (tVar 1) (tCons tTen tNil))
theorem num_list {σ : L2.St} {G H : Hp} {s l c : Addr} {T : Int} (h1 : σ[1]? = some (some (.ref s))) (wd : Wd G H s l c T) (hT : T < 1000000000) {Q : VK}
    (k : ∀ t r1 r2 H', 0 ≤ r1 → r1 < 1000000000 → 0 ≤ r2 → r2 < 1000000000 → Wd G H' s l c (T + 2) → StS [s, l, c] G H G H' → H' t = none → Q (.ref t) (upd H' t (.lst (([0, 1, -1, 999999999, 0 - 999999999, r1, 0 - r2] : List Int).map V.int)))) :
    tLst (tCons (tC (V.int 0)) (tCons (tC (V.int 1)) (tCons (tUn (rU fun i => V.int (-i)) (tC (V.int 1))) (tCons (tC (V.int 999999999)) (tCons (tOp (rI0 fun i j => V.int (i - j)) (tC (V.int 0)) (tC (V.int 999999999))) (tCons tDrawTen (tCons (tOp (rI0 fun i j => V.int (i - j)) (tC (V.int 0)) tDrawTen) tNil))))))) σ H Q :=
  ⟨1, rfl, 0, 999999999, rfl, rfl, .ref s, h1, 10, 9, rfl, rfl, ⟨by decide, by decide, by decide⟩, G, s, l, c, T, 1000000000, rfl, wd, by decide, by decide, by omega, fun r1 H1 a1 a2 wd1 ss1 => ⟨.ref s, h1, 10, 9, rfl, rfl, ⟨by decide, by decide, by decide⟩, G, s, l, c, T + 1, 1000000000, rfl, wd1, by decide, by decide, by omega, fun r2 H2 b1 b2 wd2 ss2 => ⟨0, r2, rfl, rfl, by show 7 ≤ sizeLine; decide, fun t ht => k t r1 r2 H2 a1 a2 b1 b2 (wd2.low (Ex.refl _) (by omega)) (ss1.trans ss2) ht⟩⟩⟩

section
variable {P : Program} {w : World} {mg : Str → Option Value} {base : Heap} {K : PySem.W.Frag}
abbrev s_law : Stmt := top 50
theorem law_run {f c Pt C1 C2 C3 C4 : Addr} {oc kV doc pm ct : Value} {od an : Option Addr} {osl : Array (Option Value)} (Z : Zs mg)
    (C__law_begun : Cal P w K mg base CX0 1 "_law_begun" ["script"] (SpBegun K)) (C__law_dials : Cal P w K mg base CX0 3 "_law_dials" ["state", "most"] SpDials)
    (C__law_places : Cal P w K mg base CX0 1 "_law_places" ["dials_here"] (SpR R_all_places)) (C_places : Cal P w K mg base (L2.CX P w) 5 "places" ["dials"] (SpE (R_places C1))) (CK_places : CalK P w K mg base (L2.CX P w) 5 "places" ["dials"] (SpE (R_places C1)))
    (C__law_pick : Cal P w K mg base CX0 2 "_law_pick" ["state", "several"] SpPick) (C__law_draw : Cal P w K mg base CX0 1 "_law_draw" ["state", "size_here"] SpDraw)
    (C_plus : Cal P w K mg base (L2.CX P w) 5 "plus" ["dials", "one", "other"] (SpE (R_two addP C1 C2))) (CS_plus : CalS3 P w K mg base (L2.CX P w) 5 "plus" "dials" "one" "other" (SpE (R_two addP C1 C2))) (C__law_plus : Cal P w K mg base CX0 1 "_law_plus" ["dials_here", "one", "other"] (SpR R_add))
    (C_less : Cal P w K mg base (L2.CX P w) 5 "less" ["dials", "one", "other"] (SpE (R_two takeP C1 C2))) (CS_less : CalS3 P w K mg base (L2.CX P w) 5 "less" "dials" "one" "other" (SpE (R_two takeP C1 C2))) (C__law_less : Cal P w K mg base CX0 1 "_law_less" ["dials_here", "one", "other"] (SpR R_take))
    (C_times : Cal P w K mg base (L2.CX P w) 5 "times" ["dials", "place", "number"] (SpE (R_times C1 C2 C3))) (CS_times : CalS3 P w K mg base (L2.CX P w) 5 "times" "dials" "place" "number" (SpE (R_times C1 C2 C3)))
    (C_total : Cal P w K mg base (L2.CX P w) 6 "total" ["dials", "several"] (SpE (R_total C1 C4))) (CS_total : CalS P w K mg base (L2.CX P w) 6 "total" "dials" "several" (SpE (R_total C1 C4))) (C__law_total : Cal P w K mg base CX0 2 "_law_total" ["dials_here", "several"] (SpR R_add_up))
    (C__law_refused : Cal P w K mg base CX0 12 "_law_refused" ["state", "dials_here"] (SpRefused Pt))
    (lk : K.lookup f = some ⟨oc, od, .func (PySem.W.fnOf "law" "law" (defArgs s_law) (defBody s_law) (defScope s_law) .none kV doc pm an (.ref c) ct), osl⟩) (hcd : PySem.W.codeIn K (.ref c) "law" = true)
    {sh : Shared} {H : Hp} {args : Args} {u : Value} {a : Addr} {ns : List Int} {Q : VK} {E : XK} (e0 : Env0 P w K mg base callerA [] sh H) (hb : BindsTo sh (PySem.W.fnOf "law" "law" (defArgs s_law) (defBody s_law) (defScope s_law) .none kV doc pm an (.ref c) ct) args [("script", u)])
    (hrel : RelV (.ref a) u) (hroom : Room 30 callerA) (hS : SqL K H a (ns.map V.int)) (hlen : ns.length ≤ 63) (hPt : H Pt = some (.tbl #[])) (hQ : ∀ H', Q (.bl true) H') :
    codeAny (model P w) callerA (.call (.ref f) args) (CR CX0 [] P w H sh Q E) sh := by
  have sc : FnScope ["script", "state", "turn", "dials_here", "due", "told", "lap", "one", "other", "found", "number", "many", "item", "size_here", "several", "summed"] ["script"] (defScope s_law) := ⟨rfl, rfl, rfl, by decide +kernel, rfl, by decide +kernel, by decide +kernel⟩
  refine run_ofS (k := 29) (N := ["script", "state", "turn", "dials_here", "due", "told", "lap", "one", "other", "found", "number", "many", "item", "size_here", "several", "summed"]) (ps := ["script"]) (us := [u]) (vs := [.ref a]) lk hcd sc hroom e0 hb (.cons hrel .nil) rfl fun hr => ?_
  have hgd : (callerA.deeper (PyProof.Rows.envOfC "law" (defScope s_law) sh.heap.objs.size f (.ref c))).guards = some [] := rfl
  have hun : (callerA.deeper (PyProof.Rows.envOfC "law" (defScope s_law) sh.heap.objs.size f (.ref c))).units + 66 < cLine := by have := hr.un; omega
  suffices hh : ∃ t, PSs (cxOf CX0 P w K mg base ["script", "state", "turn", "dials_here", "due", "told", "lap", "one", "other", "found", "number", "many", "item", "size_here", "several", "summed"] "law" (defScope s_law) f (.ref c) callerA [] sh H E).nox (defBody s_law) t ∧ t { nx := fun _ H' => Q .non H', rt := Q } (L2.start ["script", "state", "turn", "dials_here", "due", "told", "lap", "one", "other", "found", "number", "many", "item", "size_here", "several", "summed"] [.ref a]) H from
    hh.elim fun t h => ⟨t, h.1.nox, h.2⟩
  refine ⟨_, (pss_cons (ps_set (i := 1) sc.nd rfl (Or.inr rfl) (pe_cal C__law_begun (hr.mono (by decide)) pass0 (pa_cons (pv 0) pa_nil))) (pss_cons (ps_for PassesOwn.never rfl (pi_range1 (by rfl) Z.range (pa_cons (pe_op op_add pe_int (pe_callB (call_min2 (by rfl)) (by rfl) Z.min (by decide +kernel) (pa_cons (pe_callB (r := rLenA K) call_len_seq (by rfl) Z.len PySem.boot_len (pa_cons (pv 0) pa_nil)) (pa_cons pe_int pa_nil)))) pa_nil)) (pg_name (i := 2) sc.nd rfl (Or.inl rfl)) (pss_cons (ps_set (i := 3) sc.nd rfl (Or.inl rfl) (pe_cal C__law_dials (hr.mono (by decide)) pass0 (pa_cons (pv 1) (pa_cons pe_int pa_nil)))) (pss_cons (ps_asg (pe_tup (pa_cons (pe_cal C__law_places (hr.mono (by decide)) pass0 (pa_cons (pv 3) pa_nil)) (pa_cons (pe_cal C_places (hr.mono (by decide)) passF (pa_cons (pv 3) pa_nil)) pa_nil))) (pg_tup rfl (pgs_cons (pg_name (i := 4) sc.nd rfl (Or.inr rfl)) (pgs_cons (pg_name (i := 5) sc.nd rfl (Or.inl rfl)) pgs_nil)))) (pss_cons (ps_if (pt_cmpR op_ne (pe_callB (r := rReprD K) (call_reprD hgd hun) (by rfl) Z.repr (by decide +kernel) (pa_cons (pe_lst (pa_cons (pv 5) (pa_cons (pe_calk0 CK_places (hr.mono (by decide)) passF (pk_cons (pv 3) pk_nil)) pa_nil))) pa_nil)) (pe_callB (r := rReprD K) (call_reprD hgd hun) (by rfl) Z.repr (by decide +kernel) (pa_cons (pe_lst (pa_cons (pv 4) (pa_cons (pv 4) pa_nil))) pa_nil)) (nomark _)) (pss_one (ps_ret pe_bl)) pss_nil) (pss_cons (ps_expr (pe_bm0 PySem.F.plainAttrs_list PySem.F.slot_list_clear PySem.F.type_list_clear mt_clear (pv 5))) (pss_cons (ps_if (pt_cmpR op_ne (pe_callB (r := rReprD K) (call_reprD hgd hun) (by rfl) Z.repr (by decide +kernel) (pa_cons (pe_cal C_places (hr.mono (by decide)) passF (pa_cons (pv 3) pa_nil)) pa_nil)) (pe_callB (r := rReprD K) (call_reprD hgd hun) (by rfl) Z.repr (by decide +kernel) (pa_cons (pv 4) pa_nil)) (nomark _)) (pss_one (ps_ret pe_bl)) pss_nil) (pss_cons (ps_for PassesOwn.never rfl (pi_range1 (by rfl) Z.range (pa_cons pe_int pa_nil)) (pg_name (i := 6) sc.nd rfl (Or.inl rfl)) (pss_cons (ps_par (i := 7) (j := 8) (by rfl) sc.nd rfl rfl (by decide) rfl rfl (pa_cons (pe_cal C__law_pick (hr.mono (by decide)) pass0 (pa_cons (pv 1) (pa_cons (pv 4) pa_nil))) (pa_cons (pe_cal C__law_pick (hr.mono (by decide)) pass0 (pa_cons (pv 1) (pa_cons (pv 4) pa_nil))) pa_nil)) (by rfl)) (pss_cons (ps_set (i := 9) sc.nd rfl (Or.inl rfl) (pe_lst (pa_cons (pe_cal C_plus (hr.mono (by decide)) passF (pa_cons (pv 3) (pa_cons (pv 7) (pa_cons (pv 8) pa_nil)))) (pa_cons (pe_calks3 CS_plus (hr.mono (by decide)) passF (pk_cons (pv 8) (pk_cons (pv 7) (pk_cons (pv 3) pk_nil)))) pa_nil)))) (pss_cons (ps_if (pt_cmpR op_ne (pe_callB (r := rReprD K) (call_reprD hgd hun) (by rfl) Z.repr (by decide +kernel) (pa_cons (pv 9) pa_nil)) (pe_callB (r := rReprD K) (call_reprD hgd hun) (by rfl) Z.repr (by decide +kernel) (pa_cons (pe_op op_rep (pe_lst (pa_cons (pe_cal C__law_plus (hr.mono (by decide)) pass0 (pa_cons (pv 3) (pa_cons (pv 7) (pa_cons (pv 8) pa_nil)))) pa_nil)) pe_int) pa_nil)) (nomark _)) (pss_one (ps_ret pe_bl)) pss_nil) (pss_cons (ps_set (i := 9) sc.nd rfl (Or.inl rfl) (pe_lst (pa_cons (pe_cal C_less (hr.mono (by decide)) passF (pa_cons (pv 3) (pa_cons (pv 7) (pa_cons (pv 8) pa_nil)))) (pa_cons (pe_calks3 CS_less (hr.mono (by decide)) passF (pk_cons (pv 8) (pk_cons (pv 7) (pk_cons (pv 3) pk_nil)))) pa_nil)))) (pss_cons (ps_if (pt_cmpR op_ne (pe_callB (r := rReprD K) (call_reprD hgd hun) (by rfl) Z.repr (by decide +kernel) (pa_cons (pv 9) pa_nil)) (pe_callB (r := rReprD K) (call_reprD hgd hun) (by rfl) Z.repr (by decide +kernel) (pa_cons (pe_op op_rep (pe_lst (pa_cons (pe_cal C__law_less (hr.mono (by decide)) pass0 (pa_cons (pv 3) (pa_cons (pv 7) (pa_cons (pv 8) pa_nil)))) pa_nil)) pe_int) pa_nil)) (nomark _)) (pss_one (ps_ret pe_bl)) pss_nil) (pss_cons (ps_set (i := 10) sc.nd rfl (Or.inr rfl) (pe_cal C__law_pick (hr.mono (by decide)) pass0 (pa_cons (pv 1) (pa_cons (pe_lst (pa_cons pe_int (pa_cons pe_int (pa_cons (pe_un un_neg pe_int) (pa_cons pe_int (pa_cons (pe_op op_sub pe_int pe_int) (pa_cons (pe_cal C__law_draw (hr.mono (by decide)) pass0 (pa_cons (pv 1) (pa_cons (pe_op op_pow pe_int pe_int) pa_nil))) (pa_cons (pe_op op_sub pe_int (pe_cal C__law_draw (hr.mono (by decide)) pass0 (pa_cons (pv 1) (pa_cons (pe_op op_pow pe_int pe_int) pa_nil)))) pa_nil)))))))) pa_nil)))) (pss_cons (ps_set (i := 11) sc.nd rfl (Or.inl rfl) (pe_callTy (r := rTupOf K) call_tuple_of (by rfl) Z.tuple (by decide +kernel) (pa_cons (pe_lc (own := [("item", 12), ("size_here", 13)]) (g := gTup K 2 (gCons (gName 12) (gCons (gName 13) gNil))) (tt := tYes) (by rfl) sc.nd (pi_zip2 false false (by rfl) Z.zip (pa_cons (pv 7) (pa_cons (pv 3) pa_nil))) (blkOk_by (N := ["script", "state", "turn", "dials_here", "due", "told", "lap", "one", "other", "found", "number", "many", "item", "size_here", "several", "summed"]) (sc := defScope s_law) (by decide +kernel)) (fun _ _ _ _ _ => (pg_tup rfl (pgs_cons (pg_name (i := 12) sc.nd rfl (Or.inl rfl)) (pgs_cons (pg_name (i := 13) sc.nd rfl (Or.inl rfl)) pgs_nil)))) (fun _ _ _ _ _ => pts_nil) (fun _ _ _ _ _ => (pe_op op_mod (pe_callTy call_int1 (by rfl) Z.int (by decide +kernel) (pa_cons (pe_op op_mul (pe_op op_add (pv 10) (pe_op op_mul (pe_op op_pow pe_int pe_int) (pv 13))) (pv 12)) pa_nil)) (pv 13)))) pa_nil))) (pss_one (ps_if (pt_cmpR op_ne (pe_callB (r := rReprD K) (call_reprD hgd hun) (by rfl) Z.repr (by decide +kernel) (pa_cons (pe_lst (pa_cons (pe_cal C_times (hr.mono (by decide)) passF (pa_cons (pv 3) (pa_cons (pv 7) (pa_cons (pv 10) pa_nil)))) (pa_cons (pe_calks3 CS_times (hr.mono (by decide)) passF (pk_cons (pv 10) (pk_cons (pv 7) (pk_cons (pv 3) pk_nil)))) pa_nil))) pa_nil)) (pe_callB (r := rReprD K) (call_reprD hgd hun) (by rfl) Z.repr (by decide +kernel) (pa_cons (pe_lst (pa_cons (pv 11) (pa_cons (pv 11) pa_nil))) pa_nil)) (nomark _)) (pss_one (ps_ret pe_bl)) pss_nil)))))))))) (pss_cons (ps_setLc (i := 14) (own := [("lap", 6)]) (g := gName 6) (tt := tYes) (by rfl) sc.nd rfl rfl (sw_true rfl rfl rfl (by decide +kernel)) (pi_range1 (by rfl) Z.range (pa_cons (pe_cal C__law_draw (hr.mono (by decide)) pass0 (pa_cons (pv 1) (pa_cons pe_int pa_nil))) pa_nil)) (blkOk_by (N := ["script", "state", "turn", "dials_here", "due", "told", "lap", "one", "other", "found", "number", "many", "item", "size_here", "several", "summed"]) (sc := defScope s_law) (by decide +kernel)) (fun _ _ _ _ _ => (pg_name (i := 6) sc.nd rfl (Or.inl rfl))) (fun _ _ _ _ _ => pts_nil) (fun _ _ _ _ _ => (pe_cal C__law_pick (hr.mono (by decide)) pass0 (pa_cons (pv 1) (pa_cons (pv 4) pa_nil))))) (pss_cons (ps_set (i := 15) sc.nd rfl (Or.inl rfl) (pe_cal C__law_total (hr.mono (by decide)) pass0 (pa_cons (pv 3) (pa_cons (pv 14) pa_nil)))) (pss_cons (ps_if (pt_cmpR op_ne (pe_callB (r := rReprD K) (call_reprD hgd hun) (by rfl) Z.repr (by decide +kernel) (pa_cons (pe_lst (pa_cons (pe_cal C_total (hr.mono (by decide)) passF (pa_cons (pv 3) (pa_cons (pv 14) pa_nil))) (pa_cons (pe_calks CS_total (hr.mono (by decide)) passF (pk_cons (pe_callTy (r := rTupOf K) call_tuple_of (by rfl) Z.tuple (by decide +kernel) (pa_cons (pv 14) pa_nil)) (pk_cons (pv 3) pk_nil))) pa_nil))) pa_nil)) (pe_callB (r := rReprD K) (call_reprD hgd hun) (by rfl) Z.repr (by decide +kernel) (pa_cons (pe_lst (pa_cons (pv 15) (pa_cons (pv 15) pa_nil))) pa_nil)) (nomark _)) (pss_one (ps_ret pe_bl)) pss_nil) (pss_one (ps_if (pt_not (pt_val (pe_cal C__law_refused (hr.mono (by decide)) pass0 (pa_cons (pv 1) (pa_cons (pv 3) pa_nil))))) (pss_one (ps_ret pe_bl)) pss_nil)))))))))))) (pss_one (ps_ret pe_bl)))), ?_⟩
  obtain ⟨G0, hG0⟩ : ∃ G0 : Hp, G0 = noT (only H a) := ⟨_, rfl⟩
  have ex00 : Ex G0 (only H a) := fun b o q => by rw [hG0] at q; exact (of_noT q).1
  have seqG : ∀ H', Ex G0 H' → SqL K H' a (ns.map V.int) := fun H' e => by
    have g : only H a a = H a := if_pos rfl
    rcases hS with (z | ⟨o, z⟩) | z
    · exact .inl (.inl (e _ _ (by rw [hG0]; exact noT_at (g.trans z) fun _ z => by cases z)))
    · exact .inl (.inr ⟨o, e _ _ (by rw [hG0]; exact noT_at (g.trans z) fun _ z => by cases z)⟩)
    · exact .inr z
  refine ⟨.ref a, rfl, only H a, a, ns, rfl, only_ex, hS, by omega, fun s l c' H1 wd1 e1 => ?_⟩
  dsimp only [gName]
  obtain ⟨n0, hn0⟩ : ∃ n0 : Nat, (n0 : Int) = 2 + (if (8 : Int) < (((ns.map V.int).length : Nat) : Int) then (8 : Int) else (((ns.map V.int).length : Nat) : Int)) := ⟨(2 + (if (8 : Int) < (((ns.map V.int).length : Nat) : Int) then (8 : Int) else (((ns.map V.int).length : Nat) : Int))).toNat, by rw [List.length_map]; split <;> omega⟩
  have hn10 : n0 ≤ 10 := by rw [List.length_map] at hn0; split at hn0 <;> omega
  have wdA : Wd G0 H1 s l c' 0 := wd1.low ex00 (Int.le_refl _)
  have tabA : Tabs [(Pt, qLam)] H1 := fun p hp => by rw [List.mem_singleton.mp hp]; exact TabS.nil (e1 _ _ hPt)
  refine q_forRW (G := G0) (n := n0) (a_cons ((d_op (d_c (.int 2)) (d_cb (a_cons (d_lenS rfl seqG) (a_cons (d_c (.int 8)) a_nil)) cad_min2) (opd_I0 fun _ => .int _)).is (by rw [hn0])) a_nil) (by omega) wdA.w
    (fun i σ' H' => Wd G0 H' s l c' ((i : Int) * 10000) ∧ Tabs [(Pt, qLam)] H' ∧ ∃ o2 o3 o4 o5 o6 o7 o8 o9 o10 o11 o12 o13 o14 o15, σ' = [some (.ref a), some (.ref s), o2, o3, o4, o5, o6, o7, o8, o9, o10, o11, o12, o13, o14, o15]) (fun G2 H2 s2 => ⟨(wdA.stp s2).low s2.g (by omega), tabs_sts tabA wdA.st s2.toS, none, none, none, none, none, none, none, none, none, none, none, none, none, none, rfl⟩) ?_ ?_
  · rintro i σ' H2 hi ⟨wd2, tab2, o2, o3, o4, o5, o6, o7, o8, o9, o10, o11, o12, o13, o14, o15, rfl⟩
    have hT : (i : Int) * 10000 ≤ 100000 := by omega
    refine ⟨.ref s, rfl, G0, s, l, c', _, rfl, wd2, by omega, fun v3 n G3 H3 hn wd3 ss3 hv3 => ?_⟩
    dsimp only [gName]
    have tab3 := tabs_sts tab2 wd2.st ss3
    have okd := okB_ok (List.all_eq_true.mp few_ok n hn)
    have l1 := okd.lo
    have l2 := okd.hi
    have pos : ∀ s ∈ n, 0 < s := fun s hs => by have := okd.sz s hs; omega
    obtain ⟨ad, ts, ev3, had, hts⟩ : ∃ ad ts, v3 = .ref ad ∧ G3 ad = some (.tup ts) ∧ DqA G3 ts (n.map PyData.int) := by
      cases hv3 with
      | tup h k => exact ⟨_, _, rfl, h, k⟩
    have exs := hts.ints
    have hvd : Dq (oneT ad ts) v3 (dI n) := by rw [ev3]; exact .tup (if_pos rfl) (by rw [exs]; exact DqA.ofInts n)
    have evH : EvD (tCall (SpR R_all_places) [] E0 (tCons (tVar 3) tNil)) [some (.ref a), some (.ref s), some (.int (i : Int)), some v3, o4, o5, o6, o7, o8, o9, o10, o11, o12, o13, o14, o15] G3 (dL (placesOf n)) := d_cal (a_cons (d_var rfl hv3) a_nil) ⟨n, rfl, okd, rfl⟩
    refine evH G3 H3 (.refl G3) wd3.w _ fun vdue G5 H5 s5 hdue => ?_
    have sub5 : Ex (oneT ad ts) G5 := oneT_ex (s5.g _ _ had)
    have wd5 := wd3.stp s5
    refine ⟨v3, rfl, oneT ad ts, [dI n], _, sub5.trans s5.w, .cons hvd .nil, ⟨_, rfl, .inl ⟨n, rfl, okd, rfl⟩⟩, fun z hz v G6' H6 s6' hv => ?_, fun C hC => nomatch hC⟩
    cases hz
    obtain ⟨at_, ys, rfl, hat, hys⟩ : ∃ at_ ys, v = .ref at_ ∧ G6' at_ = some (.lst ys) ∧ DqA G6' ys ((placesOf n).map dI) := by
      cases hv with
      | lst h k => exact ⟨_, _, rfl, h, k⟩
    have nat : H5 at_ = none := new_list (fun b o q => oneT_in q) s6' hat
    obtain ⟨s6, gat⟩ := besides_stp (a := at_) wd5.w sub5 s6' nat
    have rows := rows_besides wd5.w sub5 s6' hat hys
    have h6at : H6 at_ = some (.lst ys) := s6'.w _ _ hat
    obtain ⟨G6, eG6⟩ : ∃ G6, G6 = besides G5 G6' at_ := ⟨_, rfl⟩
    rw [← eG6] at s6 gat rows
    have wd6 := wd5.stp s6
    have tab6 := tabs_sts (tabs_sts tab3 wd3.st s5.toS) wd5.st s6.toS
    have hv6 := (hv3.mono s5.g).mono s6.g
    have hdue6 := hdue.mono s6.g
    have pn := places_show hn
    refine ⟨by show 2 ≤ sizeLine; decide, fun t ht => ⟨t, _, rfl, SqT.of upd_same, rfl, _, _, rfl, _, _, rfl, rfl, ?_⟩⟩
    have st7 := Stp.old wd6.w (show Ex H6 (upd H6 t (.tup [vdue, .ref at_])) from .new ht)
    have wd7 := wd6.stp st7
    have tab7 := tabs_sts tab6 wd6.st st7.toS
    have h7at : upd H6 t (.tup [vdue, .ref at_]) at_ = some (.lst ys) := st7.h _ _ h6at
    have gUp : Ex G6 (upd G6 at_ (.lst ys)) := .new gat
    have exT : Ex (upd G6 at_ (.lst ys)) (upd H6 t (.tup [vdue, .ref at_])) := fun b o q => by
      by_cases e : b = at_
      · rw [e, upd_same] at q; rw [e, ← q]; exact h7at
      · rw [upd_ne e] at q; exact wd7.w b o q
    have hTold : Dq (upd G6 at_ (.lst ys)) (.ref at_) (dL (placesOf n)) := .lst upd_same (rows.mono gUp)
    have two : ∀ {te : TE} {σ' : L2.St} {G' : Hp}, EvD te σ' G' (.list [dL (placesOf n), dL (placesOf n)]) → EvD (tCB (rReprD K) (tCons te tNil)) σ' G' (.str (PyData.shown (.list [dL (placesOf n), dL (placesOf n)]))) := fun h =>
      d_cb (a_cons h a_nil) (cad_repr (flatL2 _) pn.2.1 (noDL2 _) (deepL2 _) pn.1 ⟨_, rfl⟩)
    have one1 : ∀ {te : TE} {σ' : L2.St} {G' : Hp}, EvD te σ' G' (dL (placesOf n)) → EvD (tCB (rReprD K) (tCons te tNil)) σ' G' (.str (PyData.shown (dL (placesOf n)))) := fun h =>
      d_cb (a_cons h a_nil) (cad_repr (flat_L _) pn.2.2.2 (noDL _) (by have := deepL (placesOf n); omega) pn.2.2.1 ⟨_, rfl⟩)
    have pairR : ∀ {te : TE} {σ' : L2.St} {G' : Hp} {z : List Int}, z ∈ placesOf n → EvD te σ' G' (.list [dI z, dI z]) → EvD (tCB (rReprD K) (tCons te tNil)) σ' G' (.str (PyData.shown (dL [z, z]))) := fun {te σ' G' z} hz h =>
      d_cb (a_cons h a_nil) (cad_repr (d := dL [z, z]) (flat_L _) (pair_show hn hz).2 (noDL _) (by have := deepL [z, z]; omega) (pair_show hn hz).1 ⟨_, rfl⟩)
    dsimp only
    refine q_when (G := upd G6 at_ (.lst ys)) (b := false) (b_test (d_op (two (d_lst (a_cons (d_var rfl hTold) (a_cons (d_calE (a_cons (d_var rfl (hv6.mono gUp)) a_nil) ⟨_, rfl, .inl ⟨n, rfl, okd, rfl⟩⟩) a_nil)) (by show 2 ≤ sizeLine; decide))) (two (d_lst (a_cons (d_var rfl (hdue6.mono gUp)) (a_cons (d_var rfl (hdue6.mono gUp)) a_nil)) (by show 2 ≤ sizeLine; decide))) (opd_neS _))) exT (fun z => by cases z) fun _ G8' H8 s8' => ?_
    have s8 : Stp G6 (upd H6 t (.tup [vdue, .ref at_])) G6 H8 := Stp.old wd7.w s8'.h
    have h8at := s8'.h _ _ h7at
    have wd8 := wd7.stp s8
    have tab8 := tabs_sts tab7 wd7.st s8.toS
    obtain ⟨⟨q1, r1⟩, ⟨q2, r2⟩, q3, r3⟩ := wd5.st.at
    refine ⟨.ref at_, rfl, .inl ⟨rfl, _, SqL.of h8at⟩, at_, ys, rfl, rfl, h8at, ?_⟩
    have wd9 := wd8.mut (o := .lst []) gat (ne_of_none r1 nat).symm (ne_of_none r2 nat).symm (ne_of_none r3 nat).symm
    have tab9 : Tabs [(Pt, qLam)] (upd H8 at_ (.lst [])) := tabs_keep tab8 fun b o k h => by
      rw [upd_ne (ne_of h h8at (by rcases k with ⟨_, rfl⟩ | ⟨_, rfl⟩ <;> (intro z; cases z)))]; exact h
    dsimp only
    refine q_when (G := G6) (b := false) (b_test (d_op (one1 (d_calE (a_cons (d_var rfl hv6) a_nil) ⟨_, rfl, .inl ⟨n, rfl, okd, rfl⟩⟩)) (one1 (d_var rfl hdue6)) (opd_neS _))) wd9.w (fun z => by cases z) fun _ G9 H9 s9 => ?_
    have wdB := wd9.stp s9
    have tabB := tabs_sts tab9 wd9.st s9.toS
    have hvB := hv6.mono s9.g
    have hdueB := hdue6.mono s9.g
    have plN : placesOf n ≠ [] := by
      intro z
      have : zeros n ∈ placesOf n := (zeros_in pos).mem
      rw [z] at this; cases this
    have plL : ((placesOf n).map dI).length < 1000000 := by
      have := okd.pl n.length
      rw [List.take_length] at this
      have e : (placesOf n).length ≤ 24 := this
      rw [List.length_map]; omega
    have gB : Ex G0 G9 := ((((ss3.g.trans s5.g).trans s6.g).trans s9.g))
    obtain ⟨TB0, hTB0⟩ : ∃ T : Int, T = (i : Int) * 10000 + 1 := ⟨_, rfl⟩
    rw [← hTB0] at wdB
    refine q_forRW (G := G9) (n := 4) (a_cons (d_c (.int 4)) a_nil) (by decide) wdB.w
      (fun j σ' H' => Wd G9 H' s l c' (TB0 + (j : Int) * 10) ∧ Tabs [(Pt, qLam)] H' ∧ ∃ o6 o7 o8 o9 o10 o11 o12 o13, σ' = [some (.ref a), some (.ref s), some (.int (i : Int)), some v3, some vdue, some (.ref at_), o6, o7, o8, o9, o10, o11, o12, o13, o14, o15]) (fun G2 H2 s2 => ⟨(wdB.stp s2).low s2.g (by omega), tabs_sts tabB wdB.st s2.toS, o6, o7, o8, o9, o10, o11, o12, o13, rfl⟩) ?_ ?_
    · rintro j σ' HC hj ⟨wdC, tabC, o6, o7, o8, o9, o10, o11, o12, o13, rfl⟩
      have hpl : ((placesOf n).map dI) ≠ [] := by simpa using plN
      refine ⟨.ref s, rfl, vdue, rfl, G9, s, l, c', _, vdue, _, rfl, hdueB, hpl, plL, wdC, by omega, fun v7 d7 HD hd7 hq7 wdD ssD => ⟨.ref s, rfl, vdue, rfl, G9, s, l, c', _, vdue, _, rfl, hdueB, hpl, plL, wdD, by omega, fun v8 d8 HE hd8 hq8 wdE ssE => ⟨_, _, rfl, ?_⟩⟩⟩
      have tabE := tabs_sts (tabs_sts tabC wdC.st ssD) wdD.st ssE
      obtain ⟨p, hp, rfl⟩ := List.mem_map.mp hd7
      obtain ⟨q, hq, rfl⟩ := List.mem_map.mp hd8
      have pl := places_in p hp
      have ql := places_in q hq
      have ha := (addP_in pl ql pos).mem
      have ht := (takeP_in pl ql pos).mem
      refine q_asg (G := G9) (d := .list [dI (addP n p q), dI (addP n p q)]) (d_lst (a_cons (d_calE (a_cons (d_var rfl hvB) (a_cons (d_var rfl hq7) (a_cons (d_var rfl hq8) a_nil))) ⟨_, _, _, rfl, .inl ⟨n, p, q, rfl, rfl, rfl, hn, hp, hq, rfl⟩⟩) (a_cons (d_calS3 (a_cons (d_var rfl hq8) (a_cons (d_var rfl hq7) (a_cons (d_var rfl hvB) a_nil))) ⟨_, _, _, rfl, .inl ⟨n, p, q, rfl, rfl, rfl, hn, hp, hq, rfl⟩⟩) a_nil)) (by show 2 ≤ sizeLine; decide)) wdE.w fun vf GF HF sF hf => ?_
      have wdF := wdE.stp sF
      have tabF := tabs_sts tabE wdE.st sF.toS
      refine q_when (G := GF) (b := false) (b_test (d_op (pairR ha (d_var rfl hf)) (pairR ha (d_op (d_lst (a_cons (d_cal (a_cons (d_var rfl (hvB.mono sF.g)) (a_cons (d_var rfl (hq7.mono sF.g)) (a_cons (d_var rfl (hq8.mono sF.g)) a_nil))) ⟨n, p, q, rfl, pl, ql, by omega, pos, rfl⟩) a_nil) (by show 1 ≤ sizeLine; decide)) (d_c (.int 2)) (opd_twice (by show 1 ≤ 1000; decide)))) (opd_neS _))) wdF.w (fun z => by cases z) fun _ GG HG sG => ?_
      have wdG := wdF.stp sG
      have tabG := tabs_sts tabF wdF.st sG.toS
      have hvG := (hvB.mono sF.g).mono sG.g
      have h7G := (hq7.mono sF.g).mono sG.g
      have h8G := (hq8.mono sF.g).mono sG.g
      refine q_asg (G := GG) (d := .list [dI (takeP n p q), dI (takeP n p q)]) (d_lst (a_cons (d_calE (a_cons (d_var rfl hvG) (a_cons (d_var rfl h7G) (a_cons (d_var rfl h8G) a_nil))) ⟨_, _, _, rfl, .inl ⟨n, p, q, rfl, rfl, rfl, hn, hp, hq, rfl⟩⟩) (a_cons (d_calS3 (a_cons (d_var rfl h8G) (a_cons (d_var rfl h7G) (a_cons (d_var rfl hvG) a_nil))) ⟨_, _, _, rfl, .inl ⟨n, p, q, rfl, rfl, rfl, hn, hp, hq, rfl⟩⟩) a_nil)) (by show 2 ≤ sizeLine; decide)) wdG.w fun vf2 GH HH sH hf2 => ?_
      have wdH := wdG.stp sH
      have tabH := tabs_sts tabG wdG.st sH.toS
      refine q_when (G := GH) (b := false) (b_test (d_op (pairR ht (d_var rfl hf2)) (pairR ht (d_op (d_lst (a_cons (d_cal (a_cons (d_var rfl (hvG.mono sH.g)) (a_cons (d_var rfl (h7G.mono sH.g)) (a_cons (d_var rfl (h8G.mono sH.g)) a_nil))) ⟨n, p, q, rfl, pl, ql, by omega, pos, rfl⟩) a_nil) (by show 1 ≤ sizeLine; decide)) (d_c (.int 2)) (opd_twice (by show 1 ≤ 1000; decide)))) (opd_neS _))) wdH.w (fun z => by cases z) fun _ GI HI sI => ?_
      have wdI := wdH.stp sI
      have tabI := tabs_sts tabH wdH.st sI.toS
      have hvI := (hvG.mono sH.g).mono sI.g
      have h7I := (h7G.mono sH.g).mono sI.g
      refine ⟨.ref s, rfl, ?_⟩
      refine num_list rfl wdI (by omega) fun t r1 r2 HJ a1 a2 b1 b2 wdJ ssJ ht2 => ?_
      have tabJ := tabs_sts tabI wdI.st ssJ
      have sK := Stp.new (o := HO.lst (([0, 1, -1, 999999999, 0 - 999999999, r1, 0 - r2] : List Int).map V.int)) wdJ.w ht2
      have wdK := wdJ.stp sK
      have tabK := tabs_sts tabJ wdJ.st sK.toS
      refine ⟨_, s, l, c', _, .ref t, ([0, 1, -1, 999999999, 0 - 999999999, r1, 0 - r2] : List Int).map PyData.int, rfl, .lst upd_same (DqA.ofInts _), (by intro z; cases z), by show 7 < 1000000; decide, wdK, by omega, fun vn dn HL hdn hqn wdL ssL => ?_⟩
      have tabL := tabs_sts tabK wdK.st ssL
      obtain ⟨k, rfl, k1, k2⟩ := numD_in a1 a2 b1 b2 hdn
      cases hqn
      have hvL := hvI.mono sK.g
      have h7L := h7I.mono sK.g
      have hmz := (mulP_in (k := k) pl pos).mem
      dsimp only [gName]
      refine q_asg (d := dI (mulP n p k)) (d_cb (a_cons ?hM a_nil) cad_tuple) wdL.w fun vm GM HM sM hm => ?_
      case hM =>
        rw [← wide_D n p k]
        refine d_lcZ2 (k1 := false) (k2 := false) (as := p.map PyData.int) (bs := n.map PyData.int) (fun _ => true) _ (a_cons (d_var rfl h7L) (a_cons (d_var rfl hvL) a_nil)) (by rw [List.length_map]; omega) (by simp only [List.length_map]; omega) (fun _ _ => rfl) (fun _ _ _ _ _ _ _ _ _ => b_yes) ?_
        rintro x y da db G1 e1 hm hx hy _
        obtain ⟨x', s', rfl, rfl, hs⟩ := zip_in n p hm
        have sz := okd.sz s' hs
        have pw : ∀ {σ : L2.St} {G : Hp}, EvD tTen σ G (.int 1000000000) := fun {σ G} => (d_op (d_c (.int 10)) (d_c (.int 9)) (opd_I ⟨by decide, by decide, by decide⟩ fun _ => .int (10 ^ 9))).is rfl
        exact d_op (d_cb (a_cons (d_op (d_op (d_var rfl (.int k)) (d_op pw (d_var rfl hy) (opd_I (.inl ⟨by decide, by decide⟩) fun _ => .int (1000000000 * s'))) (opd_I0 fun _ => .int (k + 1000000000 * s'))) (d_var rfl hx) (opd_I (.inl ⟨by omega, by omega⟩) fun _ => .int ((k + 1000000000 * s') * x'))) a_nil) cad_int1) (d_var rfl hy) (opd_I (by omega) fun _ => .int _)
      have wdM := wdL.stp sM
      have tabM := tabs_sts tabL wdL.st sM.toS
      have hvM := hvL.mono sM.g
      have h7M := h7L.mono sM.g
      refine s_when (G := GM) (b := false) (b_test (d_op (pairR hmz (d_lst (a_cons (d_calE (a_cons (d_var rfl hvM) (a_cons (d_var rfl h7M) (a_cons (d_var rfl (.int k)) a_nil))) ⟨_, _, _, rfl, .inl ⟨n, p, k, rfl, rfl, rfl, hn, hp, btw_num k1 k2, rfl⟩⟩) (a_cons (d_calS3 (a_cons (d_var rfl (.int k)) (a_cons (d_var rfl h7M) (a_cons (d_var rfl hvM) a_nil))) ⟨_, _, _, rfl, .inl ⟨n, p, k, rfl, rfl, rfl, hn, hp, btw_num k1 k2, rfl⟩⟩) a_nil)) (by show 2 ≤ sizeLine; decide))) (pairR hmz (d_lst (a_cons (d_var rfl hm) (a_cons (d_var rfl hm) a_nil)) (by show 2 ≤ sizeLine; decide))) (opd_neS _))) wdM.w (fun z => by cases z) fun _ GN HN sN => ?_
      have wdN := wdM.stp sN
      have tabN := tabs_sts tabM wdM.st sN.toS
      exact ⟨wdN.low ((((((sF.g.trans sG.g).trans sH.g).trans sI.g).trans sK.g).trans sM.g).trans sN.g) (by omega), tabN, _, _, _, _, _, _, _, _, rfl⟩
    · rintro σ' HC ⟨wdC, tabC, o6, o7, o8, o9, o10, o11, o12, o13, rfl⟩
      obtain ⟨TC0, hTC0⟩ : ∃ T : Int, T = TB0 + 40 := ⟨_, rfl⟩
      have wdC := wdC.low (Ex.refl _) (show _ ≤ TC0 by omega)
      have hpl : ((placesOf n).map dI) ≠ [] := by simpa using plN
      refine ⟨.ref s, rfl, G9, s, l, c', TC0, 9, rfl, wdC, by decide, by decide, by omega, fun r HQ r0 r9 wdQ ssQ => ⟨r, rfl, by omega, by omega, fun dl hdl => ?_⟩⟩
      have tabQ := tabs_sts tabC wdC.st ssQ
      have gq : G9 dl = none := fresh_back wdQ.w hdl
      obtain ⟨⟨o1, e1⟩, ⟨o2, e2⟩, o3, e3⟩ := wdQ.st.at
      have qs : dl ≠ s ∧ dl ≠ l ∧ dl ≠ c' := ⟨(ne_of_none e1 hdl).symm, (ne_of_none e2 hdl).symm, (ne_of_none e3 hdl).symm⟩
      refine lc_range (lo := 0) (n := r.toNat) (fun i H' => StS [s, l, c'] G9 HQ G9 H' ∧ Wd G9 H' s l c' (TC0 + 1 + (i : Int)) ∧ ∃ (ps : List (List Int)) (vs : List V), (∀ p ∈ ps, p ∈ placesOf n) ∧ ps.length = i ∧ DqA G9 vs (ps.map dI) ∧ H' dl = some (.lst vs)) ?_ (fun i H' hi m => ⟨rfl, ?_⟩) (fun H' m => ?_)
      · refine ⟨(StS.refl wdQ.w).mut hdl gq, ?_, [], [], (fun p hp => by cases hp), rfl, .nil, upd_same⟩
        have := wdQ.mut (o := .lst []) gq qs.1 qs.2.1 qs.2.2
        simpa using this
      · obtain ⟨ss, wd, ps, vs, hps, hpn, hvs, hd⟩ := m
        refine t_yes ?_
        rw [if_pos rfl]
        refine ⟨.ref s, rfl, vdue, rfl, G9, s, l, c', _, vdue, _, rfl, hdueB, hpl, plL, wd, by omega, fun v d H3 hd' hq wd3 ss3 => ?_⟩
        have hd3 := ss3.h dl _ (by simp [qs.1, qs.2.1, qs.2.2]) hd
        obtain ⟨p, hp, rfl⟩ := List.mem_map.mp hd'
        have vl := hvs.len
        rw [List.length_map] at vl
        refine ⟨vs, hd3, by rw [sizeLine_eq]; omega, (ss.trans ss3).mut hdl gq, ?_, ps ++ [p], vs ++ [v], ?_, ?_, ?_, upd_same⟩
        · have := wd3.mut (o := .lst (vs ++ [v])) gq qs.1 qs.2.1 qs.2.2
          have e : TC0 + 1 + ((i + 1 : Nat) : Int) = TC0 + 1 + (i : Int) + 1 := by omega
          rw [e]; exact this
        · intro x hx
          rcases List.mem_append.mp hx with h | h
          · exact hps x h
          · rw [List.mem_singleton.mp h]; exact hp
        · rw [List.length_append, hpn]; rfl
        · rw [List.map_append]
          exact hvs.app (.cons hq .nil)
      · obtain ⟨ss, wd, ps, vs, hps, hpn, hvs, hd⟩ := m
        have tabR := tabs_sts tabQ wdQ.st ss
        have lens : ∀ p ∈ ps, p.length = n.length := fun p hp => places_in p (hps p hp)
        have pl8 : ps.length ≤ 1000 := by omega
        have gR : Ex G9 (upd G9 dl (.lst vs)) := .new gq
        have wdR : Wd (upd G9 dl (.lst vs)) H' s l c' (TC0 + 20) := by
          refine ⟨fun b o q => ?_, wd.st.ge (by omega), ?_, ?_, ?_⟩
          · by_cases e : b = dl
            · rw [e, upd_same] at q; rw [e, ← q]; exact hd
            · rw [upd_ne e] at q; exact wd.w b o q
          · rw [upd_ne qs.1.symm]; exact wd.gs
          · rw [upd_ne qs.2.1.symm]; exact wd.gl
          · rw [upd_ne qs.2.2.symm]; exact wd.gc
        have hdl : Dq (upd G9 dl (.lst vs)) (.ref dl) (dL ps) := .lst upd_same (hvs.mono gR)
        have hvR := hvB.mono gR
        have hz := (addUp_in pos lens).mem
        dsimp only [gName]
        refine q_asg (G := upd G9 dl (.lst vs)) (d := dI (addUp n ps)) (d_cal (a_cons (d_var rfl hvR) (a_cons (d_var rfl hdl) a_nil)) ⟨n, ps, rfl, l1, by omega, pos, lens, rfl⟩) wdR.w fun vS GS HS sS hS' => ?_
        have wdS := wdR.stp sS
        have tabS := tabs_sts tabR wdR.st sS.toS
        have hvS := hvR.mono sS.g
        have hdS := hdl.mono sS.g
        refine q_when (G := GS) (b := false) (b_test (d_op (pairR hz (d_lst (a_cons (d_calE (a_cons (d_var rfl hvS) (a_cons (d_var rfl hdS) a_nil)) ⟨_, _, rfl, .inl ⟨n, ps, rfl, .inl rfl, hn, hps, pl8, rfl⟩⟩) (a_cons (d_calS (a_cons (d_cb (a_cons (d_var rfl hdS) a_nil) cad_tuple) (a_cons (d_var rfl hvS) a_nil)) ⟨_, _, rfl, .inl ⟨n, ps, rfl, .inr rfl, hn, hps, pl8, rfl⟩⟩) a_nil)) (by show 2 ≤ sizeLine; decide))) (pairR hz (d_lst (a_cons (d_var rfl hS') (a_cons (d_var rfl hS') a_nil)) (by show 2 ≤ sizeLine; decide))) (opd_neS _))) wdS.w (fun z => by cases z) fun _ GU HU sU => ?_
        have wdU := wdS.stp sU
        have tabU := tabs_sts tabS wdS.st sU.toS
        have hvU := hvS.mono sU.g
        have g0N : Ex G0 (noT GU) := fun b o q => by
          have q2 := sU.g _ _ (sS.g _ _ (gR _ _ (gB _ _ q)))
          rw [hG0] at q
          exact noT_at q2 (of_noT q).2
        refine ⟨.ref s, rfl, v3, rfl, GU, s, l, c', _, v3, n, rfl, hvU, hn, wdU, by omega, tabU, fun H13 wd13 tab13 => ⟨true, rfl, iteF ?_⟩⟩
        exact ⟨wd13.low g0N (by omega), tab13, _, _, _, _, _, _, _, _, _, _, _, _, _, _, rfl⟩
  · rintro σ' H2 ⟨wd2, tab2, o2, o3, o4, o5, o6, o7, o8, o9, o10, o11, o12, o13, o14, o15, rfl⟩
    exact hQ _
end
end Mv


namespace Mv
open PySem LamX L2 PyProof.Rows PySem.Spec
section
variable {P : Program} {w : World} {K : PySem.W.Frag} {mg mb : Str → Option Value} {c Pt fa a : Addr} {s₁ : Shared} {vs : List Value} {ns : List Int}
/-- what a law starts from: the table of its code, the script -/
def startH (K : PySem.W.Frag) (Pt a : Addr) (vs : List Value) (ns : List Int) : Hp := fun b =>
  if b = Pt then some (.tbl #[]) else if b = a ∧ K.lookup a = none then some (.frz { cls := .type "list", data := .seq vs.toArray } (.lst (ns.map V.int))) else none
theorem start_some {b : Addr} {u : HO} (h : startH K Pt a vs ns b = some u) : (b = Pt ∧ u = .tbl #[]) ∨ (b = a ∧ K.lookup a = none ∧ u = .frz { cls := .type "list", data := .seq vs.toArray } (.lst (ns.map V.int))) := by
  unfold startH at h
  by_cases h1 : b = Pt
  · rw [if_pos h1] at h
    exact .inl ⟨h1, (Option.some.inj h).symm⟩
  · rw [if_neg h1] at h
    by_cases h2 : b = a ∧ K.lookup a = none
    · rw [if_pos h2] at h
      exact .inr ⟨h2.1, h2.2, (Option.some.inj h).symm⟩
    · rw [if_neg h2] at h
      cases h
/-- the law's def, called at the place where a claim calls it, with nothing shown half: what is shown there may be asked for its text -/
theorem call_at (KX : K.In s₁.heap) (nsG : s₁.heap.Ns mainGlobals mg) (hb : s₁.heap.Ns builtinsNs mb) (boots : ∀ x : Str, x ≠ "__name__" → mb x = bootBuiltins x) (lims : s₁.heap.NoLimit) (hg : s₁.gens = #[])
    (hT : s₁.heap.get? Pt = some { cls := .none, data := .fields #[] }) (nT : K.lookup Pt = none) (cd : PySem.W.CodeHd s₁.heap c Pt)
    (blt : ∃ (bq : Addr) (oq : Obj), mg "__builtins__" = some (.ref bq) ∧ bq ≠ builtinsNs ∧ s₁.heap.get? bq = some oq ∧ oq.cls = .type "module" ∧ oq.dict = some builtinsNs ∧ oq.data = .plain)
    (ha : s₁.heap.get? a = some { cls := .type "list", data := .seq vs.toArray }) (hi : IntsAre vs ns) (hl : ns.length ≤ sizeLine)
    (F : ∀ base : Heap, K.In base → base.Ns mainGlobals mg → TabB base mg c Pt → ∀ H : Hp, Env0 P w K mg base callerA [] s₁ H → SqL K H a (ns.map V.int) → H Pt = some (.tbl #[]) → (∀ b u, H b = some u → b = Pt ∨ (b = a ∧ ∃ o x, u = .frz o x)) →
      codeAny (model P w) callerA (.call (.ref fa) ⟨[.ref a], []⟩) (CR CX0 [] P w H s₁ (fun v _ => v = .bl true) fun _ _ _ => False) s₁) :
    codeAny (model P w) callerA (.call (.ref fa) ⟨[.ref a], []⟩)
      (fun r z => r = .ok (.ret (.bool true)) ∧ OldK s₁.heap z.heap ∧ z.os = s₁.os ∧ AllBare z.gens) s₁ := by
  obtain ⟨H, hH⟩ : ∃ H : Hp, H = startH K Pt a vs ns := ⟨_, rfl⟩
  have rel := vals_ints hi
  have len := hi.length
  have aPt : a ≠ Pt := fun z => by
    rw [z, hT] at ha
    have q : Data.fields #[] = Data.seq vs.toArray _ := congrArg Obj.data (Option.some.inj ha)
    cases q
  have atT : H Pt = some (.tbl #[]) := by rw [hH]; exact if_pos rfl
  have is_ : ∀ {b : Addr} {u : HO}, H b = some u → (b = Pt ∧ u = .tbl #[]) ∨ (b = a ∧ K.lookup a = none ∧ u = .frz { cls := .type "list", data := .seq vs.toArray } (.lst (ns.map V.int))) := fun h => start_some (by rw [← hH]; exact h)
  have seq : SqL K H a (ns.map V.int) := by
    cases q : K.lookup a with
    | none =>
      refine .inl (.inr ⟨{ cls := .type "list", data := .seq vs.toArray }, ?_⟩)
      rw [hH]
      exact (if_neg aPt).trans (if_pos ⟨rfl, q⟩)
    | some o =>
      have e := KX a o q
      rw [ha] at e
      cases e
      exact .inr ⟨_, vs.toArray, _, q, rfl, rfl, rfl, by rw [List.size_toArray, len]; exact hl, by simpa using rel⟩
  have good : HOk P w H s₁.heap := fun b u e => by
    rcases is_ e with ⟨rfl, rfl⟩ | ⟨rfl, _, rfl⟩
    · exact hT
    · exact ⟨ha, by rw [List.length_map]; exact hl, vs, _, rel, ha⟩
  -- what is neither the script nor the table lies in the base
  have bare : ∀ {b : Addr} {o : Obj}, s₁.heap.get? b = some o → (∀ us n, o.data ≠ .seq us n) → o.data ≠ .fields #[] → H b = none := fun {b o} e h1 h2 => by
    cases q : H b with
    | none => rfl
    | some u =>
      rcases is_ q with ⟨z, _⟩ | ⟨z, _⟩
      · rw [z, hT] at e; cases e; exact (h2 rfl).elim
      · rw [z, ha] at e; cases e; exact (h1 _ _ rfl).elim
  have below : ∀ {b : Addr} {o : Obj}, s₁.heap.get? b = some o → (∀ us n, o.data ≠ .seq us n) → o.data ≠ .fields #[] → (hidT s₁.heap H).get? b = some o := fun e h1 h2 => hidT_get e (bare e h1 h2)
  have space : ∀ {b : Addr} {m : Str → Option Value}, s₁.heap.Ns b m → (hidT s₁.heap H).Ns b m := fun ⟨o, es, ep, e, d, r⟩ => ⟨o, es, ep, below e (fun us n z => by rw [d] at z; cases z) (fun z => by rw [d] at z; cases z), d, r⟩
  have Kb : K.In (hidT s₁.heap H) := fun b o e => hidT_get (KX b o e) (by
    cases q : H b with
    | none => rfl
    | some u =>
      rcases is_ q with ⟨z, _⟩ | ⟨z, k, _⟩
      · rw [z, nT] at e; cases e
      · rw [z, k] at e; cases e)
  have tab : TabB (hidT s₁.heap H) mg c Pt := by
    refine ⟨?_, ?_, fun z => ?_⟩
    · obtain ⟨o, us, file, tf, flags, tg, inF, text, tt, e1, r1, r2, r3, rest⟩ := cd
      refine ⟨o, us, file, tf, flags, tg, inF, text, tt, below e1 (fun us n z => by rw [r2] at z; cases z) (fun z => ?_), r1, r2, r3, rest⟩
      rw [r2] at z
      cases z
      simp at r3
    · obtain ⟨bq, oq, b1, b2, b3, b4, b5, b6⟩ := blt
      refine ⟨bq, oq, b1, b2, fun q => ?_, fun q => ?_, below b3 (fun us n z => by rw [b6] at z; cases z) (fun z => by rw [b6] at z; cases z), b4, b5, b6⟩
      · obtain ⟨o, es, ep, e, d, _⟩ := nsG
        rw [q, e] at b3
        cases b3
        rw [d] at b6
        cases b6
      · rw [q, hT] at b3
        cases b3
        cases b6
    · obtain ⟨o, es, ep, e, d, _⟩ := nsG
      rw [z, hT] at e
      cases e
      cases d
  have env : Env0 P w K mg (hidT s₁.heap H) callerA [] s₁ H :=
    ⟨rfl, ⟨Kb, space nsG, ⟨mb, space hb, boots⟩, lims.elim fun m h => ⟨m, space h.1, h.2⟩⟩, fun b o e => of_hidT e, Nat.le_of_eq (hidT_size _ _), trivial, fun b z => absurd (show b ∈ ([] : List Addr) from z) List.not_mem_nil, good, .of_eq hg⟩
  refine codeAny_mono (F _ Kb (space nsG) tab H env seq atT fun b u h => (is_ h).imp (·.1) fun z => ⟨z.1, _, _, z.2.2⟩) fun r s' h => ?_
  cases r with
  | error e => exact h.elim
  | ok fl =>
    cases fl with
    | next => exact False.elim h
    | brk => exact False.elim h
    | cont => exact False.elim h
    | ret u =>
      obtain ⟨v, H', os, bareG, un, ok', rv, q⟩ := h
      obtain rfl : v = .bl true := q
      obtain rfl : u = Value.bool true := rv
      have stays : ∀ b o, b ≠ Pt → s₁.heap.get? b = some o → s'.heap.get? b = some o := fun b o nb e => by
        cases q : H b with
        | none => exact un.keep b o e q (fun z => absurd (show b ∈ ([] : List Addr) from z) List.not_mem_nil) List.not_mem_nil
        | some u =>
          rcases is_ q with ⟨z, _⟩ | ⟨z, _, hu⟩
          · exact absurd z nb
          · rw [hu] at q
            obtain ⟨e1, _⟩ := good b _ q
            obtain ⟨e2, _⟩ := ok' b _ (un.frzs b _ _ q)
            rw [e] at e1
            cases e1
            exact e2
      obtain ⟨more, hm⟩ := un.tbls Pt #[] atT
      have grown : s'.heap.get? Pt = some { cls := .none, data := .fields (#[] ++ more) } := ok' Pt _ hm
      refine ⟨rfl, ⟨fun b o e => ?_, fun b o e => ?_⟩, os, bareG⟩
      · by_cases z : b = Pt
        · rw [z] at e ⊢
          rw [hT] at e
          cases e
          exact .inr (.inl ⟨(cd.tab hT).isCodeTable, rfl, #[], more, rfl, grown⟩)
        · exact .inl (stays b o z e)
      · by_cases z : b = Pt
        · rw [z]
          exact ⟨_, grown⟩
        · exact ⟨o, stays b o z e⟩
end
/-- what a law's walk asks -/
theorem walk_at {l : PySem.W.OpenLaw} {n : Nat} {q : Program} {loose : List Str} {XP : (Str → Option Value) → Heap → Prop} {YP : World → Heap → Prop} {d : DefRec} {K : Params → PySem.W.Frag} (hn : l.most = some n) (hn2 : n ≤ sizeLine) (hdf : d.params.defaults = [])
    (hY : ∀ (w : World) (h : Heap), YP w h → (K w.params).In h)
    (F : ∀ (w : World) (mg : Str → Option Value) (fa : Addr) (h : Heap), YP w h → (K w.params).In h → h.Ns mainGlobals mg → mg d.name = some (.ref fa) → ∃ c Pt : Addr, h.get? Pt = some { cls := .none, data := .fields #[] } ∧ (K w.params).lookup Pt = none ∧ PySem.W.CodeHd h c Pt ∧
      ∀ base : Heap, (K w.params).In base → base.Ns mainGlobals mg → TabB base mg c Pt → ∀ (s : Shared) (H : Hp) (a : Addr) (ns : List Int), ns.length ≤ n → Env0 l.prog w (K w.params) mg base callerA [] s H → SqL (K w.params) H a (ns.map V.int) → H Pt = some (.tbl #[]) → (∀ b u, H b = some u → b = Pt ∨ (b = a ∧ ∃ o x, u = .frz o x)) →
        codeAny (model l.prog w) callerA (.call (.ref fa) ⟨[.ref a], []⟩) (CR CX0 [] l.prog w H s (fun v _ => v = .bl true) fun _ _ _ => False) s) :
    PySem.W.WalkO q loose XP YP l.row.toRowW d []
      (fun g us => PySem.call g us) := by
  refine Att.attach_callB hn hdf fun w s₀ s₁ mg mb fa o pm cd doc a vs ns G Y _ _ _ hmg hobj hints hlen _ hg => ?_
  have KX := hY w _ Y
  obtain ⟨c, Pt, hT, nT, C, R⟩ := F w mg fa _ Y KX G.T.g hmg
  exact call_at KX G.T.g G.T.b G.T.builtins G.T.nolimit hg hT nT C G.T.bmain hobj hints (Nat.le_trans hlen hn2) fun base k1 k2 k3 H k4 k5 k6 k7 => R base k1 k2 k3 s₁ H a ns hlen k4 k5 k6 k7
end Mv


namespace Mv
open PySem L2 LamX
theorem all_mk {P : Program} {w : World} {K : PySem.W.Frag} {h : Heap} {mg : Str → Option Value} {fa : Addr} {f0 f1 f2 f3 f4 f5 f6 f7 f8 f9 f10 f11 f12 f13 f14 f15 f16 f17 f18 f19 f20 f21 f22 f23 f24 f25 f26 f27 f28 f29 f30 f31 f32 f33 f34 f35 f36 f37 f38 f39 C0 C1 C2 C3 C4 c cL Pt : Addr}
  {od0 an0 od1 an1 od2 an2 od3 an3 od4 an4 od5 an5 od6 an6 od7 an7 od8 an8 od9 an9 od10 an10 od11 an11 od12 an12 od13 an13 od14 an14 od15 an15 od16 an16 od17 an17 od18 an18 od19 an19 od20 an20 od21 an21 od22 an22 od23 an23 od24 an24 od25 an25 od26 an26 od27 an27 od28 an28 od29 an29 od30 an30 od31 an31 od32 an32 od33 an33 od34 an34 od35 an35 od36 an36 od37 an37 od38 an38 od39 an39 odc : Option Addr}
  {sl0 sl1 sl2 sl3 sl4 sl5 sl6 sl7 sl8 sl9 sl10 sl11 sl12 sl13 sl14 sl15 sl16 sl17 sl18 sl19 sl20 sl21 sl22 sl23 sl24 sl25 sl26 sl27 sl28 sl29 sl30 sl31 sl32 sl33 sl34 sl35 sl36 sl37 sl38 sl39 slc : Array (Option Value)}
  {oc0 kV0 dc0 pm0 cd0 ct0 oc1 kV1 dc1 pm1 cd1 ct1 oc2 kV2 dc2 pm2 cd2 ct2 oc3 kV3 dc3 pm3 cd3 ct3 oc4 kV4 dc4 pm4 cd4 ct4 oc5 kV5 dc5 pm5 cd5 ct5 oc6 kV6 dc6 pm6 cd6 ct6 oc7 kV7 dc7 pm7 cd7 ct7 oc8 kV8 dc8 pm8 cd8 ct8 oc9 kV9 dc9 pm9 cd9 ct9 oc10 kV10 dc10 pm10 cd10 ct10 oc11 kV11 dc11 pm11 cd11 ct11 oc12 kV12 dc12 pm12 cd12 ct12 oc13 kV13 dc13 pm13 cd13 ct13 oc14 kV14 dc14 pm14 cd14 ct14 oc15 kV15 dc15 pm15 cd15 ct15 oc16 kV16 dc16 pm16 cd16 ct16 oc17 kV17 dc17 pm17 cd17 ct17 oc18 kV18 dc18 pm18 cd18 ct18 oc19 kV19 dc19 pm19 cd19 ct19 oc20 kV20 dc20 pm20 cd20 ct20 oc21 kV21 dc21 pm21 cd21 ct21 oc22 kV22 dc22 pm22 cd22 ct22 oc23 kV23 dc23 pm23 cd23 ct23 oc24 kV24 dc24 pm24 cd24 ct24 oc25 kV25 dc25 pm25 cd25 ct25 oc26 kV26 dc26 pm26 cd26 ct26 oc27 kV27 dc27 pm27 cd27 ct27 oc28 kV28 dc28 pm28 cd28 ct28 oc29 kV29 dc29 pm29 cd29 ct29 oc30 kV30 dc30 pm30 cd30 ct30 oc31 kV31 dc31 pm31 cd31 ct31 oc32 kV32 dc32 pm32 cd32 ct32 oc33 kV33 dc33 pm33 cd33 ct33 oc34 kV34 dc34 pm34 cd34 ct34 oc35 kV35 dc35 pm35 cd35 ct35 oc36 kV36 dc36 pm36 cd36 ct36 oc37 kV37 dc37 pm37 ct37 oc38 kV38 dc38 pm38 cd38 ct38 oc39 kV39 dc39 pm39 ct39 occ : Value} {vsc : Array Value} (KX : K.In h) (G : h.Ns mainGlobals mg) (hfa : mg "law" = some (.ref fa))
  (a0 : PySem.W.nsIn K mainGlobals "place_count" = some (some (.ref f0))) (l0 : K.lookup f0 = some ⟨oc0, od0, .func (PySem.W.fnOf "place_count" "place_count" (defArgs s_place_count) (defBody s_place_count) (defScope s_place_count) .none kV0 dc0 pm0 an0 cd0 ct0), sl0⟩) (c0 : PySem.W.codeIn K cd0 "place_count" = true) (k0 : PySem.W.keepIn K (.ref f0) = true)
  (a1 : PySem.W.nsIn K mainGlobals "all_places" = some (some (.ref f1))) (l1 : K.lookup f1 = some ⟨oc1, od1, .func (PySem.W.fnOf "all_places" "all_places" (defArgs s_all_places) (defBody s_all_places) (defScope s_all_places) .none kV1 dc1 pm1 an1 cd1 ct1), sl1⟩) (c1 : PySem.W.codeIn K cd1 "all_places" = true) (k1 : PySem.W.keepIn K (.ref f1) = true)
  (a2 : PySem.W.nsIn K mainGlobals "nothing_of" = some (some (.ref f2))) (l2 : K.lookup f2 = some ⟨oc2, od2, .func (PySem.W.fnOf "nothing_of" "nothing_of" (defArgs s_nothing_of) (defBody s_nothing_of) (defScope s_nothing_of) .none kV2 dc2 pm2 an2 cd2 ct2), sl2⟩) (c2 : PySem.W.codeIn K cd2 "nothing_of" = true) (k2 : PySem.W.keepIn K (.ref f2) = true)
  (a3 : PySem.W.nsIn K mainGlobals "add" = some (some (.ref f3))) (l3 : K.lookup f3 = some ⟨oc3, od3, .func (PySem.W.fnOf "add" "add" (defArgs s_add) (defBody s_add) (defScope s_add) .none kV3 dc3 pm3 an3 cd3 ct3), sl3⟩) (c3 : PySem.W.codeIn K cd3 "add" = true) (k3 : PySem.W.keepIn K (.ref f3) = true)
  (a4 : PySem.W.nsIn K mainGlobals "take_off" = some (some (.ref f4))) (l4 : K.lookup f4 = some ⟨oc4, od4, .func (PySem.W.fnOf "take_off" "take_off" (defArgs s_take_off) (defBody s_take_off) (defScope s_take_off) .none kV4 dc4 pm4 an4 cd4 ct4), sl4⟩) (c4 : PySem.W.codeIn K cd4 "take_off" = true) (k4 : PySem.W.keepIn K (.ref f4) = true)
  (a5 : PySem.W.nsIn K mainGlobals "add_up" = some (some (.ref f5))) (l5 : K.lookup f5 = some ⟨oc5, od5, .func (PySem.W.fnOf "add_up" "add_up" (defArgs s_add_up) (defBody s_add_up) (defScope s_add_up) .none kV5 dc5 pm5 an5 cd5 ct5), sl5⟩) (c5 : PySem.W.codeIn K cd5 "add_up" = true) (k5 : PySem.W.keepIn K (.ref f5) = true)
  (a6 : PySem.W.nsIn K mainGlobals "multiply" = some (some (.ref f6))) (l6 : K.lookup f6 = some ⟨oc6, od6, .func (PySem.W.fnOf "multiply" "multiply" (defArgs s_multiply) (defBody s_multiply) (defScope s_multiply) .none kV6 dc6 pm6 an6 cd6 ct6), sl6⟩) (c6 : PySem.W.codeIn K cd6 "multiply" = true) (k6 : PySem.W.keepIn K (.ref f6) = true)
  (a7 : PySem.W.nsIn K mainGlobals "is_number" = some (some (.ref f7))) (l7 : K.lookup f7 = some ⟨oc7, od7, .func (PySem.W.fnOf "is_number" "is_number" (defArgs s_is_number) (defBody s_is_number) (defScope s_is_number) .none kV7 dc7 pm7 an7 cd7 ct7), sl7⟩) (c7 : PySem.W.codeIn K cd7 "is_number" = true) (k7 : PySem.W.keepIn K (.ref f7) = true)
  (a8 : PySem.W.nsIn K mainGlobals "is_between" = some (some (.ref f8))) (l8 : K.lookup f8 = some ⟨oc8, od8, .func (PySem.W.fnOf "is_between" "is_between" (defArgs s_is_between) (defBody s_is_between) (defScope s_is_between) .none kV8 dc8 pm8 an8 cd8 ct8), sl8⟩) (c8 : PySem.W.codeIn K cd8 "is_between" = true) (k8 : PySem.W.keepIn K (.ref f8) = true)
  (a9 : PySem.W.nsIn K mainGlobals "is_listed" = some (some (.ref f9))) (l9 : K.lookup f9 = some ⟨oc9, od9, .func (PySem.W.fnOf "is_listed" "is_listed" (defArgs s_is_listed) (defBody s_is_listed) (defScope s_is_listed) .none kV9 dc9 pm9 an9 cd9 ct9), sl9⟩) (c9 : PySem.W.codeIn K cd9 "is_listed" = true) (k9 : PySem.W.keepIn K (.ref f9) = true)
  (a10 : PySem.W.nsIn K mainGlobals "is_tuple_of" = some (some (.ref f10))) (l10 : K.lookup f10 = some ⟨oc10, od10, .func (PySem.W.fnOf "is_tuple_of" "is_tuple_of" (defArgs s_is_tuple_of) (defBody s_is_tuple_of) (defScope s_is_tuple_of) .none kV10 dc10 pm10 an10 cd10 ct10), sl10⟩) (c10 : PySem.W.codeIn K cd10 "is_tuple_of" = true) (k10 : PySem.W.keepIn K (.ref f10) = true)
  (a11 : PySem.W.nsIn K mainGlobals "is_dials" = some (some (.ref f11))) (l11 : K.lookup f11 = some ⟨oc11, od11, .func (PySem.W.fnOf "is_dials" "is_dials" (defArgs s_is_dials) (defBody s_is_dials) (defScope s_is_dials) .none kV11 dc11 pm11 an11 cd11 ct11), sl11⟩) (c11 : PySem.W.codeIn K cd11 "is_dials" = true) (k11 : PySem.W.keepIn K (.ref f11) = true)
  (a12 : PySem.W.nsIn K mainGlobals "is_place" = some (some (.ref f12))) (l12 : K.lookup f12 = some ⟨oc12, od12, .func (PySem.W.fnOf "is_place" "is_place" (defArgs s_is_place) (defBody s_is_place) (defScope s_is_place) .none kV12 dc12 pm12 an12 cd12 ct12), sl12⟩) (c12 : PySem.W.codeIn K cd12 "is_place" = true) (k12 : PySem.W.keepIn K (.ref f12) = true)
  (a13 : PySem.W.nsIn K mainGlobals "are_places" = some (some (.ref f13))) (l13 : K.lookup f13 = some ⟨oc13, od13, .func (PySem.W.fnOf "are_places" "are_places" (defArgs s_are_places) (defBody s_are_places) (defScope s_are_places) .none kV13 dc13 pm13 an13 cd13 ct13), sl13⟩) (c13 : PySem.W.codeIn K cd13 "are_places" = true) (k13 : PySem.W.keepIn K (.ref f13) = true)
  (a14 : PySem.W.nsIn K mainGlobals "check_dials" = some (some (.ref f14))) (l14 : K.lookup f14 = some ⟨oc14, od14, .func (PySem.W.fnOf "check_dials" "check_dials" (defArgs s_check_dials) (defBody s_check_dials) (defScope s_check_dials) .none kV14 dc14 pm14 an14 cd14 ct14), sl14⟩) (c14 : PySem.W.codeIn K cd14 "check_dials" = true) (k14 : PySem.W.keepIn K (.ref f14) = true)
  (a15 : PySem.W.nsIn K mainGlobals "check_place" = some (some (.ref f15))) (l15 : K.lookup f15 = some ⟨oc15, od15, .func (PySem.W.fnOf "check_place" "check_place" (defArgs s_check_place) (defBody s_check_place) (defScope s_check_place) .none kV15 dc15 pm15 an15 cd15 ct15), sl15⟩) (c15 : PySem.W.codeIn K cd15 "check_place" = true) (k15 : PySem.W.keepIn K (.ref f15) = true)
  (a16 : PySem.W.nsIn K mainGlobals "check_number" = some (some (.ref f16))) (l16 : K.lookup f16 = some ⟨oc16, od16, .func (PySem.W.fnOf "check_number" "check_number" (defArgs s_check_number) (defBody s_check_number) (defScope s_check_number) .none kV16 dc16 pm16 an16 cd16 ct16), sl16⟩) (c16 : PySem.W.codeIn K cd16 "check_number" = true) (k16 : PySem.W.keepIn K (.ref f16) = true)
  (a17 : PySem.W.nsIn K mainGlobals "check_several" = some (some (.ref f17))) (l17 : K.lookup f17 = some ⟨oc17, od17, .func (PySem.W.fnOf "check_several" "check_several" (defArgs s_check_several) (defBody s_check_several) (defScope s_check_several) .none kV17 dc17 pm17 an17 cd17 ct17), sl17⟩) (c17 : PySem.W.codeIn K cd17 "check_several" = true) (k17 : PySem.W.keepIn K (.ref f17) = true)
  (a18 : PySem.W.nsIn K mainGlobals "places" = some (some (.ref f18))) (l18 : K.lookup f18 = some ⟨oc18, od18, .func (PySem.W.fnOf "places" "places" (defArgs s_places) (defBody s_places) (defScope s_places) .none kV18 dc18 pm18 an18 cd18 ct18), sl18⟩) (c18 : PySem.W.codeIn K cd18 "places" = true) (k18 : PySem.W.keepIn K (.ref f18) = true)
  (a19 : PySem.W.nsIn K mainGlobals "plus" = some (some (.ref f19))) (l19 : K.lookup f19 = some ⟨oc19, od19, .func (PySem.W.fnOf "plus" "plus" (defArgs s_plus) (defBody s_plus) (defScope s_plus) .none kV19 dc19 pm19 an19 cd19 ct19), sl19⟩) (c19 : PySem.W.codeIn K cd19 "plus" = true) (k19 : PySem.W.keepIn K (.ref f19) = true)
  (a20 : PySem.W.nsIn K mainGlobals "less" = some (some (.ref f20))) (l20 : K.lookup f20 = some ⟨oc20, od20, .func (PySem.W.fnOf "less" "less" (defArgs s_less) (defBody s_less) (defScope s_less) .none kV20 dc20 pm20 an20 cd20 ct20), sl20⟩) (c20 : PySem.W.codeIn K cd20 "less" = true) (k20 : PySem.W.keepIn K (.ref f20) = true)
  (a21 : PySem.W.nsIn K mainGlobals "total" = some (some (.ref f21))) (l21 : K.lookup f21 = some ⟨oc21, od21, .func (PySem.W.fnOf "total" "total" (defArgs s_total) (defBody s_total) (defScope s_total) .none kV21 dc21 pm21 an21 cd21 ct21), sl21⟩) (c21 : PySem.W.codeIn K cd21 "total" = true) (k21 : PySem.W.keepIn K (.ref f21) = true)
  (a22 : PySem.W.nsIn K mainGlobals "times" = some (some (.ref f22))) (l22 : K.lookup f22 = some ⟨oc22, od22, .func (PySem.W.fnOf "times" "times" (defArgs s_times) (defBody s_times) (defScope s_times) .none kV22 dc22 pm22 an22 cd22 ct22), sl22⟩) (c22 : PySem.W.codeIn K cd22 "times" = true) (k22 : PySem.W.keepIn K (.ref f22) = true)
  (a23 : PySem.W.nsIn K mainGlobals "_law_begun" = some (some (.ref f23))) (l23 : K.lookup f23 = some ⟨oc23, od23, .func (PySem.W.fnOf "_law_begun" "_law_begun" (defArgs s__law_begun) (defBody s__law_begun) (defScope s__law_begun) .none kV23 dc23 pm23 an23 cd23 ct23), sl23⟩) (c23 : PySem.W.codeIn K cd23 "_law_begun" = true) (k23 : PySem.W.keepIn K (.ref f23) = true)
  (a24 : PySem.W.nsIn K mainGlobals "_law_draw" = some (some (.ref f24))) (l24 : K.lookup f24 = some ⟨oc24, od24, .func (PySem.W.fnOf "_law_draw" "_law_draw" (defArgs s__law_draw) (defBody s__law_draw) (defScope s__law_draw) .none kV24 dc24 pm24 an24 cd24 ct24), sl24⟩) (c24 : PySem.W.codeIn K cd24 "_law_draw" = true) (k24 : PySem.W.keepIn K (.ref f24) = true)
  (a25 : PySem.W.nsIn K mainGlobals "_law_pick" = some (some (.ref f25))) (l25 : K.lookup f25 = some ⟨oc25, od25, .func (PySem.W.fnOf "_law_pick" "_law_pick" (defArgs s__law_pick) (defBody s__law_pick) (defScope s__law_pick) .none kV25 dc25 pm25 an25 cd25 ct25), sl25⟩) (c25 : PySem.W.codeIn K cd25 "_law_pick" = true) (k25 : PySem.W.keepIn K (.ref f25) = true)
  (a26 : PySem.W.nsIn K mainGlobals "_law_count" = some (some (.ref f26))) (l26 : K.lookup f26 = some ⟨oc26, od26, .func (PySem.W.fnOf "_law_count" "_law_count" (defArgs s__law_count) (defBody s__law_count) (defScope s__law_count) .none kV26 dc26 pm26 an26 cd26 ct26), sl26⟩) (c26 : PySem.W.codeIn K cd26 "_law_count" = true) (k26 : PySem.W.keepIn K (.ref f26) = true)
  (a27 : PySem.W.nsIn K mainGlobals "_law_dials" = some (some (.ref f27))) (l27 : K.lookup f27 = some ⟨oc27, od27, .func (PySem.W.fnOf "_law_dials" "_law_dials" (defArgs s__law_dials) (defBody s__law_dials) (defScope s__law_dials) .none kV27 dc27 pm27 an27 cd27 ct27), sl27⟩) (c27 : PySem.W.codeIn K cd27 "_law_dials" = true) (k27 : PySem.W.keepIn K (.ref f27) = true)
  (a28 : PySem.W.nsIn K mainGlobals "_law_places" = some (some (.ref f28))) (l28 : K.lookup f28 = some ⟨oc28, od28, .func (PySem.W.fnOf "_law_places" "_law_places" (defArgs s__law_places) (defBody s__law_places) (defScope s__law_places) .none kV28 dc28 pm28 an28 cd28 ct28), sl28⟩) (c28 : PySem.W.codeIn K cd28 "_law_places" = true) (k28 : PySem.W.keepIn K (.ref f28) = true)
  (a29 : PySem.W.nsIn K mainGlobals "_law_plus" = some (some (.ref f29))) (l29 : K.lookup f29 = some ⟨oc29, od29, .func (PySem.W.fnOf "_law_plus" "_law_plus" (defArgs s__law_plus) (defBody s__law_plus) (defScope s__law_plus) .none kV29 dc29 pm29 an29 cd29 ct29), sl29⟩) (c29 : PySem.W.codeIn K cd29 "_law_plus" = true) (k29 : PySem.W.keepIn K (.ref f29) = true)
  (a30 : PySem.W.nsIn K mainGlobals "_law_less" = some (some (.ref f30))) (l30 : K.lookup f30 = some ⟨oc30, od30, .func (PySem.W.fnOf "_law_less" "_law_less" (defArgs s__law_less) (defBody s__law_less) (defScope s__law_less) .none kV30 dc30 pm30 an30 cd30 ct30), sl30⟩) (c30 : PySem.W.codeIn K cd30 "_law_less" = true) (k30 : PySem.W.keepIn K (.ref f30) = true)
  (a31 : PySem.W.nsIn K mainGlobals "_law_nothing" = some (some (.ref f31))) (l31 : K.lookup f31 = some ⟨oc31, od31, .func (PySem.W.fnOf "_law_nothing" "_law_nothing" (defArgs s__law_nothing) (defBody s__law_nothing) (defScope s__law_nothing) .none kV31 dc31 pm31 an31 cd31 ct31), sl31⟩) (c31 : PySem.W.codeIn K cd31 "_law_nothing" = true) (k31 : PySem.W.keepIn K (.ref f31) = true)
  (a32 : PySem.W.nsIn K mainGlobals "_law_total" = some (some (.ref f32))) (l32 : K.lookup f32 = some ⟨oc32, od32, .func (PySem.W.fnOf "_law_total" "_law_total" (defArgs s__law_total) (defBody s__law_total) (defScope s__law_total) .none kV32 dc32 pm32 an32 cd32 ct32), sl32⟩) (c32 : PySem.W.codeIn K cd32 "_law_total" = true) (k32 : PySem.W.keepIn K (.ref f32) = true)
  (a33 : PySem.W.nsIn K mainGlobals "_law_place" = some (some (.ref f33))) (l33 : K.lookup f33 = some ⟨oc33, od33, .func (PySem.W.fnOf "_law_place" "_law_place" (defArgs s__law_place) (defBody s__law_place) (defScope s__law_place) .none kV33 dc33 pm33 an33 cd33 ct33), sl33⟩) (c33 : PySem.W.codeIn K cd33 "_law_place" = true) (k33 : PySem.W.keepIn K (.ref f33) = true)
  (a34 : PySem.W.nsIn K mainGlobals "_law_bool_place" = some (some (.ref f34))) (l34 : K.lookup f34 = some ⟨oc34, od34, .func (PySem.W.fnOf "_law_bool_place" "_law_bool_place" (defArgs s__law_bool_place) (defBody s__law_bool_place) (defScope s__law_bool_place) .none kV34 dc34 pm34 an34 cd34 ct34), sl34⟩) (c34 : PySem.W.codeIn K cd34 "_law_bool_place" = true) (k34 : PySem.W.keepIn K (.ref f34) = true)
  (a35 : PySem.W.nsIn K mainGlobals "_law_bad_place" = some (some (.ref f35))) (l35 : K.lookup f35 = some ⟨oc35, od35, .func (PySem.W.fnOf "_law_bad_place" "_law_bad_place" (defArgs s__law_bad_place) (defBody s__law_bad_place) (defScope s__law_bad_place) .none kV35 dc35 pm35 an35 cd35 ct35), sl35⟩) (c35 : PySem.W.codeIn K cd35 "_law_bad_place" = true) (k35 : PySem.W.keepIn K (.ref f35) = true)
  (a36 : PySem.W.nsIn K mainGlobals "_law_bad_dials" = some (some (.ref f36))) (l36 : K.lookup f36 = some ⟨oc36, od36, .func (PySem.W.fnOf "_law_bad_dials" "_law_bad_dials" (defArgs s__law_bad_dials) (defBody s__law_bad_dials) (defScope s__law_bad_dials) .none kV36 dc36 pm36 an36 cd36 ct36), sl36⟩) (c36 : PySem.W.codeIn K cd36 "_law_bad_dials" = true) (k36 : PySem.W.keepIn K (.ref f36) = true)
  (a37 : PySem.W.nsIn K mainGlobals "_law_refused" = some (some (.ref f37))) (l37 : K.lookup f37 = some ⟨oc37, od37, .func (PySem.W.fnOf "_law_refused" "_law_refused" (defArgs s__law_refused) (defBody s__law_refused) (defScope s__law_refused) .none kV37 dc37 pm37 an37 (.ref c) ct37), sl37⟩) (c37 : PySem.W.codeIn K (.ref c) "_law_refused" = true) (k37 : PySem.W.keepIn K (.ref f37) = true)
  (a38 : PySem.W.nsIn K mainGlobals "_law_caught" = some (some (.ref f38))) (l38 : K.lookup f38 = some ⟨oc38, od38, .func (PySem.W.fnOf "_law_caught" "_law_caught" (defArgs s__law_caught) (defBody s__law_caught) (defScope s__law_caught) .none kV38 dc38 pm38 an38 cd38 ct38), sl38⟩) (c38 : PySem.W.codeIn K cd38 "_law_caught" = true) (k38 : PySem.W.keepIn K (.ref f38) = true)
  (a39 : PySem.W.nsIn K mainGlobals "law" = some (some (.ref f39))) (l39 : K.lookup f39 = some ⟨oc39, od39, .func (PySem.W.fnOf "law" "law" (defArgs s_law) (defBody s_law) (defScope s_law) .none kV39 dc39 pm39 an39 (.ref cL) ct39), sl39⟩) (c39 : PySem.W.codeIn K (.ref cL) "law" = true) (k39 : PySem.W.keepIn K (.ref f39) = true)
  (z_len : PySem.W.nsIn K mainGlobals "len" = some none)
  (z_zip : PySem.W.nsIn K mainGlobals "zip" = some none)
  (z_tuple : PySem.W.nsIn K mainGlobals "tuple" = some none)
  (z_list : PySem.W.nsIn K mainGlobals "list" = some none)
  (z_range : PySem.W.nsIn K mainGlobals "range" = some none)
  (z_all : PySem.W.nsIn K mainGlobals "all" = some none)
  (z_int : PySem.W.nsIn K mainGlobals "int" = some none)
  (z_bool : PySem.W.nsIn K mainGlobals "bool" = some none)
  (z_isinstance : PySem.W.nsIn K mainGlobals "isinstance" = some none)
  (z_abs : PySem.W.nsIn K mainGlobals "abs" = some none)
  (z_min : PySem.W.nsIn K mainGlobals "min" = some none)
  (z_repr : PySem.W.nsIn K mainGlobals "repr" = some none)
  (z_enumerate : PySem.W.nsIn K mainGlobals "enumerate" = some none)
  (ac0 : PySem.W.nsIn K mainGlobals "MoveError" = some (some (.ref C0)))
  (ac1 : PySem.W.nsIn K mainGlobals "BadDials" = some (some (.ref C1)))
  (ac2 : PySem.W.nsIn K mainGlobals "BadPlace" = some (some (.ref C2)))
  (ac3 : PySem.W.nsIn K mainGlobals "BadNumber" = some (some (.ref C3)))
  (ac4 : PySem.W.nsIn K mainGlobals "BadSeveral" = some (some (.ref C4)))
  (bc0 : PySem.W.subIn K (.ref C0) (.type "BaseException") = some true)
  (tc0 : PySem.W.typeIn K (.ref C0) = some (.type "type"))
  (dc0_ : PySem.W.hasDictIn K C0 = true)
  (kc1 : PySem.W.keepIn K (.ref C1) = true)
  (xc1 : PySem.W.excIn K C1 [.type "ValueError", .type "Exception", .type "BaseException", .type "object"] "ValueError.__new__" = true)
  (bc1 : PySem.W.subIn K (.ref C1) (.type "BaseException") = some true)
  (tc1 : PySem.W.typeIn K (.ref C1) = some (.type "type"))
  (s10 : PySem.W.subIn K (.ref C1) (.ref C0) = some true)
  (eg1 : PySem.W.findIn K (.ref C1) "__getattribute__" = some (some (.builtin "BaseException.__getattribute__")))
  (ek1 : PySem.W.findIn K (.ref C1) "__getattr__" = some none)
  (ed1 : PySem.W.hasDictIn K C1 = true)
  (ea1 : PySem.W.findIn K (.ref C1) "__class__" = some (some (.builtin "object.__class__")))
  (em1 : PySem.W.mroIn K C1 (.type "object") = some true)
  (kc2 : PySem.W.keepIn K (.ref C2) = true)
  (xc2 : PySem.W.excIn K C2 [.type "ValueError", .type "Exception", .type "BaseException", .type "object"] "ValueError.__new__" = true)
  (bc2 : PySem.W.subIn K (.ref C2) (.type "BaseException") = some true)
  (tc2 : PySem.W.typeIn K (.ref C2) = some (.type "type"))
  (s20 : PySem.W.subIn K (.ref C2) (.ref C0) = some true)
  (eg2 : PySem.W.findIn K (.ref C2) "__getattribute__" = some (some (.builtin "BaseException.__getattribute__")))
  (ek2 : PySem.W.findIn K (.ref C2) "__getattr__" = some none)
  (ed2 : PySem.W.hasDictIn K C2 = true)
  (ea2 : PySem.W.findIn K (.ref C2) "__class__" = some (some (.builtin "object.__class__")))
  (em2 : PySem.W.mroIn K C2 (.type "object") = some true)
  (kc3 : PySem.W.keepIn K (.ref C3) = true)
  (xc3 : PySem.W.excIn K C3 [.type "ValueError", .type "Exception", .type "BaseException", .type "object"] "ValueError.__new__" = true)
  (bc3 : PySem.W.subIn K (.ref C3) (.type "BaseException") = some true)
  (tc3 : PySem.W.typeIn K (.ref C3) = some (.type "type"))
  (s30 : PySem.W.subIn K (.ref C3) (.ref C0) = some true)
  (eg3 : PySem.W.findIn K (.ref C3) "__getattribute__" = some (some (.builtin "BaseException.__getattribute__")))
  (ek3 : PySem.W.findIn K (.ref C3) "__getattr__" = some none)
  (ed3 : PySem.W.hasDictIn K C3 = true)
  (ea3 : PySem.W.findIn K (.ref C3) "__class__" = some (some (.builtin "object.__class__")))
  (em3 : PySem.W.mroIn K C3 (.type "object") = some true)
  (kc4 : PySem.W.keepIn K (.ref C4) = true)
  (xc4 : PySem.W.excIn K C4 [.type "ValueError", .type "Exception", .type "BaseException", .type "object"] "ValueError.__new__" = true)
  (bc4 : PySem.W.subIn K (.ref C4) (.type "BaseException") = some true)
  (tc4 : PySem.W.typeIn K (.ref C4) = some (.type "type"))
  (s40 : PySem.W.subIn K (.ref C4) (.ref C0) = some true)
  (eg4 : PySem.W.findIn K (.ref C4) "__getattribute__" = some (some (.builtin "BaseException.__getattribute__")))
  (ek4 : PySem.W.findIn K (.ref C4) "__getattr__" = some none)
  (ed4 : PySem.W.hasDictIn K C4 = true)
  (ea4 : PySem.W.findIn K (.ref C4) "__class__" = some (some (.builtin "object.__class__")))
  (em4 : PySem.W.mroIn K C4 (.type "object") = some true)
  (en : PySem.W.specialIn K (.builtin "object.__class__") "__get__" = some (some (.builtin "getset_descriptor.__get__")))
  (et : PySem.W.takesIn K (.builtin "object.__class__") = some true)
  (lc : K.lookup c = some ⟨occ, odc, .fields vsc, slc⟩)
  (vT : vsc[11]? = some (.ref Pt))
  (hCode : PySem.W.codeHdIn K c Pt = true)
  (nP : K.lookup Pt = none)
  (tP : h.get? Pt = some { cls := .none, data := .fields #[] })
  : ∃ c Pt : Addr, h.get? Pt = some { cls := .none, data := .fields #[] } ∧ K.lookup Pt = none ∧ PySem.W.CodeHd h c Pt ∧
      ∀ base : Heap, K.In base → base.Ns mainGlobals mg → TabB base mg c Pt → ∀ (s : Shared) (H : Hp) (a : Addr) (ns : List Int), ns.length ≤ 63 → Env0 P w K mg base callerA [] s H → SqL K H a (ns.map V.int) → H Pt = some (.tbl #[]) → (∀ b u, H b = some u → b = Pt ∨ (b = a ∧ ∃ o x, u = .frz o x)) →
        codeAny (model P w) callerA (.call (.ref fa) ⟨[.ref a], []⟩) (CR CX0 [] P w H s (fun v _ => v = .bl true) fun _ _ _ => False) s := by
  refine ⟨c, Pt, tP, nP, PySem.W.codeHd_of_K KX hCode, fun base kb gb TB s H a ns hl e0 hS hPt hH0 => ?_⟩
  have Z : Zs mg := ⟨PySem.W.mg_none_of KX G z_len, PySem.W.mg_none_of KX G z_zip, PySem.W.mg_none_of KX G z_tuple, PySem.W.mg_none_of KX G z_list, PySem.W.mg_none_of KX G z_range, PySem.W.mg_none_of KX G z_all, PySem.W.mg_none_of KX G z_int, PySem.W.mg_none_of KX G z_bool, PySem.W.mg_none_of KX G z_isinstance, PySem.W.mg_none_of KX G z_abs, PySem.W.mg_none_of KX G z_min, PySem.W.mg_none_of KX G z_repr⟩
  have B1 : ExcC K mg "BadDials" C1 := ⟨xc1, PySem.W.mg_of KX G ac1, kc1, bc1, tc1⟩
  have B2 : ExcC K mg "BadPlace" C2 := ⟨xc2, PySem.W.mg_of KX G ac2, kc2, bc2, tc2⟩
  have B3 : ExcC K mg "BadNumber" C3 := ⟨xc3, PySem.W.mg_of KX G ac3, kc3, bc3, tc3⟩
  have B4 : ExcC K mg "BadSeveral" C4 := ⟨xc4, PySem.W.mg_of KX G ac4, kc4, bc4, tc4⟩
  have e1 : ErrC K mg C0 "BadDials" C1 := ⟨PySem.W.mg_of KX G ac1, ⟨eg1, ek1, bc1, ed1, ea1, en, et, em1⟩, PySem.W.exm_ref bc0 dc0_ tc0 s10, if_pos (beq_self_eq_true _)⟩
  have e2 : ErrC K mg C0 "BadPlace" C2 := ⟨PySem.W.mg_of KX G ac2, ⟨eg2, ek2, bc2, ed2, ea2, en, et, em2⟩, PySem.W.exm_ref bc0 dc0_ tc0 s20, if_pos (beq_self_eq_true _)⟩
  have e3 : ErrC K mg C0 "BadNumber" C3 := ⟨PySem.W.mg_of KX G ac3, ⟨eg3, ek3, bc3, ed3, ea3, en, et, em3⟩, PySem.W.exm_ref bc0 dc0_ tc0 s30, if_pos (beq_self_eq_true _)⟩
  have e4 : ErrC K mg C0 "BadSeveral" C4 := ⟨PySem.W.mg_of KX G ac4, ⟨eg4, ek4, bc4, ed4, ea4, en, et, em4⟩, PySem.W.exm_ref bc0 dc0_ tc0 s40, if_pos (beq_self_eq_true _)⟩
  have Z_enumerate := PySem.W.mg_none_of KX G z_enumerate
  have Fc := fun_mk (x := "_law_caught") (qual := "_law_caught") (st := s__law_caught) l38 c38 k38
  have m_c := PySem.W.mg_of KX G a38
  have m_C0 := PySem.W.mg_of KX G ac0
  have F0 := fun_mk (x := "place_count") (qual := "place_count") (st := s_place_count) l0 c0 k0
  have C_place_count : Cal P w K mg base CX0 1 "place_count" ["dials"] (SpR R_place_count) := ⟨f0, _, ok_place_count F0, PySem.W.mg_of KX G a0, k0, F0.binds (fun _ _ _ _ _ _ us hl => match us, hl with | [_], _ => rfl)⟩
  have F1 := fun_mk (x := "all_places") (qual := "all_places") (st := s_all_places) l1 c1 k1
  have C_all_places : Cal P w K mg base CX0 1 "all_places" ["dials"] (SpR R_all_places) := ⟨f1, _, ok_all_places Z F1, PySem.W.mg_of KX G a1, k1, F1.binds (fun _ _ _ _ _ _ us hl => match us, hl with | [_], _ => rfl)⟩
  have F2 := fun_mk (x := "nothing_of") (qual := "nothing_of") (st := s_nothing_of) l2 c2 k2
  have C_nothing_of : Cal P w K mg base CX0 1 "nothing_of" ["dials"] (SpR R_nothing_of) := ⟨f2, _, ok_nothing_of Z F2, PySem.W.mg_of KX G a2, k2, F2.binds (fun _ _ _ _ _ _ us hl => match us, hl with | [_], _ => rfl)⟩
  have F3 := fun_mk (x := "add") (qual := "add") (st := s_add) l3 c3 k3
  have C_add : Cal P w K mg base CX0 1 "add" ["dials", "one", "other"] (SpR R_add) := ⟨f3, _, ok_add Z F3, PySem.W.mg_of KX G a3, k3, F3.binds (fun _ _ _ _ _ _ us hl => match us, hl with | [_, _, _], _ => rfl)⟩
  have F4 := fun_mk (x := "take_off") (qual := "take_off") (st := s_take_off) l4 c4 k4
  have C_take_off : Cal P w K mg base CX0 1 "take_off" ["dials", "one", "other"] (SpR R_take) := ⟨f4, _, ok_take_off Z F4, PySem.W.mg_of KX G a4, k4, F4.binds (fun _ _ _ _ _ _ us hl => match us, hl with | [_, _, _], _ => rfl)⟩
  have F5 := fun_mk (x := "add_up") (qual := "add_up") (st := s_add_up) l5 c5 k5
  have C_add_up : Cal P w K mg base CX0 2 "add_up" ["dials", "several"] (SpR R_add_upE) := ⟨f5, _, ok_add_upE C_nothing_of C_add F5, PySem.W.mg_of KX G a5, k5, F5.binds (fun _ _ _ _ _ _ us hl => match us, hl with | [_, _], _ => rfl)⟩
  have F6 := fun_mk (x := "multiply") (qual := "multiply") (st := s_multiply) l6 c6 k6
  have C_multiply : Cal P w K mg base CX0 1 "multiply" ["dials", "place", "number"] (SpR R_multiply) := ⟨f6, _, ok_multiply Z F6, PySem.W.mg_of KX G a6, k6, F6.binds (fun _ _ _ _ _ _ us hl => match us, hl with | [_, _, _], _ => rfl)⟩
  have F7 := fun_mk (x := "is_number") (qual := "is_number") (st := s_is_number) l7 c7 k7
  have C_is_number : Cal P w K mg base CX0 1 "is_number" ["thing"] (SpR R_is_number) := ⟨f7, _, ok_is_number Z F7, PySem.W.mg_of KX G a7, k7, F7.binds (fun _ _ _ _ _ _ us hl => match us, hl with | [_], _ => rfl)⟩
  have F8 := fun_mk (x := "is_between") (qual := "is_between") (st := s_is_between) l8 c8 k8
  have C_is_between : Cal P w K mg base CX0 2 "is_between" ["thing", "low", "high"] (SpR R_is_between) := ⟨f8, _, ok_is_between C_is_number F8, PySem.W.mg_of KX G a8, k8, F8.binds (fun _ _ _ _ _ _ us hl => match us, hl with | [_, _, _], _ => rfl)⟩
  have F9 := fun_mk (x := "is_listed") (qual := "is_listed") (st := s_is_listed) l9 c9 k9
  have C_is_listed : Cal P w K mg base CX0 1 "is_listed" ["thing"] (SpR R_is_listed) := ⟨f9, _, ok_is_listed Z F9, PySem.W.mg_of KX G a9, k9, F9.binds (fun _ _ _ _ _ _ us hl => match us, hl with | [_], _ => rfl)⟩
  have F10 := fun_mk (x := "is_tuple_of") (qual := "is_tuple_of") (st := s_is_tuple_of) l10 c10 k10
  have C_is_tuple_of : Cal P w K mg base CX0 1 "is_tuple_of" ["thing", "many"] (SpR R_is_tuple_of) := ⟨f10, _, ok_is_tuple_of Z F10, PySem.W.mg_of KX G a10, k10, F10.binds (fun _ _ _ _ _ _ us hl => match us, hl with | [_, _], _ => rfl)⟩
  have F11 := fun_mk (x := "is_dials") (qual := "is_dials") (st := s_is_dials) l11 c11 k11
  have C_is_dials : Cal P w K mg base CX0 3 "is_dials" ["thing"] (SpR R_is_dials) := ⟨f11, _, ok_is_dials Z C_is_between C_place_count F11, PySem.W.mg_of KX G a11, k11, F11.binds (fun _ _ _ _ _ _ us hl => match us, hl with | [_], _ => rfl)⟩
  have F12 := fun_mk (x := "is_place") (qual := "is_place") (st := s_is_place) l12 c12 k12
  have C_is_place : Cal P w K mg base CX0 3 "is_place" ["dials", "thing"] (SpR R_is_place) := ⟨f12, _, ok_is_place Z C_is_tuple_of C_is_between F12, PySem.W.mg_of KX G a12, k12, F12.binds (fun _ _ _ _ _ _ us hl => match us, hl with | [_, _], _ => rfl)⟩
  have F13 := fun_mk (x := "are_places") (qual := "are_places") (st := s_are_places) l13 c13 k13
  have C_are_places : Cal P w K mg base CX0 4 "are_places" ["dials", "thing"] (SpR R_are_places) := ⟨f13, _, ok_are_places Z C_is_listed C_is_place F13, PySem.W.mg_of KX G a13, k13, F13.binds (fun _ _ _ _ _ _ us hl => match us, hl with | [_, _], _ => rfl)⟩
  have F14 := fun_mk (x := "check_dials") (qual := "check_dials") (st := s_check_dials) l14 c14 k14
  have C_check_dials : Cal P w K mg base (L2.CX P w) 4 "check_dials" ["dials"] (SpE (R_check_dials C1)) := ⟨f14, _, ok_check_dials B1 C_is_dials F14, PySem.W.mg_of KX G a14, k14, F14.binds (fun _ _ _ _ _ _ us hl => match us, hl with | [_], _ => rfl)⟩
  have F15 := fun_mk (x := "check_place") (qual := "check_place") (st := s_check_place) l15 c15 k15
  have C_check_place : Cal P w K mg base (L2.CX P w) 4 "check_place" ["dials", "place"] (SpE (R_check_place C2)) := ⟨f15, _, ok_check_place B2 C_is_place F15, PySem.W.mg_of KX G a15, k15, F15.binds (fun _ _ _ _ _ _ us hl => match us, hl with | [_, _], _ => rfl)⟩
  have F16 := fun_mk (x := "check_number") (qual := "check_number") (st := s_check_number) l16 c16 k16
  have C_check_number : Cal P w K mg base (L2.CX P w) 3 "check_number" ["number"] (SpE (R_check_number C3)) := ⟨f16, _, ok_check_number B3 C_is_between F16, PySem.W.mg_of KX G a16, k16, F16.binds (fun _ _ _ _ _ _ us hl => match us, hl with | [_], _ => rfl)⟩
  have F17 := fun_mk (x := "check_several") (qual := "check_several") (st := s_check_several) l17 c17 k17
  have C_check_several : Cal P w K mg base (L2.CX P w) 5 "check_several" ["dials", "several"] (SpE (R_check_several C4)) := ⟨f17, _, ok_check_several B4 C_are_places F17, PySem.W.mg_of KX G a17, k17, F17.binds (fun _ _ _ _ _ _ us hl => match us, hl with | [_, _], _ => rfl)⟩
  have F18 := fun_mk (x := "places") (qual := "places") (st := s_places) l18 c18 k18
  have C_places : Cal P w K mg base (L2.CX P w) 5 "places" ["dials"] (SpE (R_places C1)) := ⟨f18, _, ok_places C_check_dials C_all_places F18, PySem.W.mg_of KX G a18, k18, F18.binds (fun _ _ _ _ _ _ us hl => match us, hl with | [_], _ => rfl)⟩
  have F19 := fun_mk (x := "plus") (qual := "plus") (st := s_plus) l19 c19 k19
  have C_plus : Cal P w K mg base (L2.CX P w) 5 "plus" ["dials", "one", "other"] (SpE (R_two addP C1 C2)) := ⟨f19, _, ok_plus C_check_dials C_check_place C_add F19, PySem.W.mg_of KX G a19, k19, F19.binds (fun _ _ _ _ _ _ us hl => match us, hl with | [_, _, _], _ => rfl)⟩
  have F20 := fun_mk (x := "less") (qual := "less") (st := s_less) l20 c20 k20
  have C_less : Cal P w K mg base (L2.CX P w) 5 "less" ["dials", "one", "other"] (SpE (R_two takeP C1 C2)) := ⟨f20, _, ok_less C_check_dials C_check_place C_take_off F20, PySem.W.mg_of KX G a20, k20, F20.binds (fun _ _ _ _ _ _ us hl => match us, hl with | [_, _, _], _ => rfl)⟩
  have F21 := fun_mk (x := "total") (qual := "total") (st := s_total) l21 c21 k21
  have C_total : Cal P w K mg base (L2.CX P w) 6 "total" ["dials", "several"] (SpE (R_total C1 C4)) := ⟨f21, _, ok_total C_check_dials C_check_several C_add_up F21, PySem.W.mg_of KX G a21, k21, F21.binds (fun _ _ _ _ _ _ us hl => match us, hl with | [_, _], _ => rfl)⟩
  have F22 := fun_mk (x := "times") (qual := "times") (st := s_times) l22 c22 k22
  have C_times : Cal P w K mg base (L2.CX P w) 5 "times" ["dials", "place", "number"] (SpE (R_times C1 C2 C3)) := ⟨f22, _, ok_times C_check_number C_check_dials C_check_place C_multiply F22, PySem.W.mg_of KX G a22, k22, F22.binds (fun _ _ _ _ _ _ us hl => match us, hl with | [_, _, _], _ => rfl)⟩
  have F23 := fun_mk (x := "_law_begun") (qual := "_law_begun") (st := s__law_begun) l23 c23 k23
  have C__law_begun : Cal P w K mg base CX0 1 "_law_begun" ["script"] (SpBegun K) := ⟨f23, _, ok__law_begun Z F23, PySem.W.mg_of KX G a23, k23, F23.binds (fun _ _ _ _ _ _ us hl => match us, hl with | [_], _ => rfl)⟩
  have F24 := fun_mk (x := "_law_draw") (qual := "_law_draw") (st := s__law_draw) l24 c24 k24
  have C__law_draw : Cal P w K mg base CX0 1 "_law_draw" ["state", "size_here"] SpDraw := ⟨f24, _, ok__law_draw Z F24, PySem.W.mg_of KX G a24, k24, F24.binds (fun _ _ _ _ _ _ us hl => match us, hl with | [_, _], _ => rfl)⟩
  have F25 := fun_mk (x := "_law_pick") (qual := "_law_pick") (st := s__law_pick) l25 c25 k25
  have C__law_pick : Cal P w K mg base CX0 2 "_law_pick" ["state", "several"] SpPick := ⟨f25, _, ok__law_pick Z C__law_draw F25, PySem.W.mg_of KX G a25, k25, F25.binds (fun _ _ _ _ _ _ us hl => match us, hl with | [_, _], _ => rfl)⟩
  have F26 := fun_mk (x := "_law_count") (qual := "_law_count") (st := s__law_count) l26 c26 k26
  have C__law_count : Cal P w K mg base CX0 1 "_law_count" ["dials_here"] (SpR R_place_count) := ⟨f26, _, ok__law_count F26, PySem.W.mg_of KX G a26, k26, F26.binds (fun _ _ _ _ _ _ us hl => match us, hl with | [_], _ => rfl)⟩
  have F27 := fun_mk (x := "_law_dials") (qual := "_law_dials") (st := s__law_dials) l27 c27 k27
  have C__law_dials : Cal P w K mg base CX0 3 "_law_dials" ["state", "most"] SpDials := ⟨f27, _, ok__law_dials C__law_count C__law_pick F27, PySem.W.mg_of KX G a27, k27, F27.binds (fun _ _ _ _ _ _ us hl => match us, hl with | [_, _], _ => rfl)⟩
  have F28 := fun_mk (x := "_law_places") (qual := "_law_places") (st := s__law_places) l28 c28 k28
  have C__law_places : Cal P w K mg base CX0 1 "_law_places" ["dials_here"] (SpR R_all_places) := ⟨f28, _, ok__law_places Z F28, PySem.W.mg_of KX G a28, k28, F28.binds (fun _ _ _ _ _ _ us hl => match us, hl with | [_], _ => rfl)⟩
  have F29 := fun_mk (x := "_law_plus") (qual := "_law_plus") (st := s__law_plus) l29 c29 k29
  have C__law_plus : Cal P w K mg base CX0 1 "_law_plus" ["dials_here", "one", "other"] (SpR R_add) := ⟨f29, _, ok__law_plus Z F29, PySem.W.mg_of KX G a29, k29, F29.binds (fun _ _ _ _ _ _ us hl => match us, hl with | [_, _, _], _ => rfl)⟩
  have F30 := fun_mk (x := "_law_less") (qual := "_law_less") (st := s__law_less) l30 c30 k30
  have C__law_less : Cal P w K mg base CX0 1 "_law_less" ["dials_here", "one", "other"] (SpR R_take) := ⟨f30, _, ok__law_less Z F30, PySem.W.mg_of KX G a30, k30, F30.binds (fun _ _ _ _ _ _ us hl => match us, hl with | [_, _, _], _ => rfl)⟩
  have F31 := fun_mk (x := "_law_nothing") (qual := "_law_nothing") (st := s__law_nothing) l31 c31 k31
  have C__law_nothing : Cal P w K mg base CX0 1 "_law_nothing" ["dials_here"] (SpR R_nothing_of) := ⟨f31, _, ok__law_nothing Z F31, PySem.W.mg_of KX G a31, k31, F31.binds (fun _ _ _ _ _ _ us hl => match us, hl with | [_], _ => rfl)⟩
  have F32 := fun_mk (x := "_law_total") (qual := "_law_total") (st := s__law_total) l32 c32 k32
  have C__law_total : Cal P w K mg base CX0 2 "_law_total" ["dials_here", "several"] (SpR R_add_up) := ⟨f32, _, ok__law_total C__law_nothing C__law_plus F32, PySem.W.mg_of KX G a32, k32, F32.binds (fun _ _ _ _ _ _ us hl => match us, hl with | [_, _], _ => rfl)⟩
  have F33 := fun_mk (x := "_law_place") (qual := "_law_place") (st := s__law_place) l33 c33 k33
  have C__law_place : Cal P w K mg base CX0 2 "_law_place" ["state", "dials_here"] SpPlace := ⟨f33, _, ok__law_place Z C__law_draw F33, PySem.W.mg_of KX G a33, k33, F33.binds (fun _ _ _ _ _ _ us hl => match us, hl with | [_, _], _ => rfl)⟩
  have F34 := fun_mk (x := "_law_bool_place") (qual := "_law_bool_place") (st := s__law_bool_place) l34 c34 k34
  have C__law_bool_place : Cal P w K mg base CX0 3 "_law_bool_place" ["state", "place_here"] SpBool := ⟨f34, _, ok__law_bool_place Z_enumerate C__law_pick F34, PySem.W.mg_of KX G a34, k34, F34.binds (fun _ _ _ _ _ _ us hl => match us, hl with | [_, _], _ => rfl)⟩
  have F35 := fun_mk (x := "_law_bad_place") (qual := "_law_bad_place") (st := s__law_bad_place) l35 c35 k35
  have C__law_bad_place : Cal P w K mg base CX0 4 "_law_bad_place" ["state", "dials_here"] SpBadPlace := ⟨f35, _, ok__law_bad_place Z C__law_place C__law_draw C__law_bool_place C__law_pick F35, PySem.W.mg_of KX G a35, k35, F35.binds (fun _ _ _ _ _ _ us hl => match us, hl with | [_, _], _ => rfl)⟩
  have F36 := fun_mk (x := "_law_bad_dials") (qual := "_law_bad_dials") (st := s__law_bad_dials) l36 c36 k36
  have C__law_bad_dials : Cal P w K mg base CX0 3 "_law_bad_dials" ["state"] SpBad := ⟨f36, _, ok__law_bad_dials C__law_pick F36, PySem.W.mg_of KX G a36, k36, F36.binds (fun _ _ _ _ _ _ us hl => match us, hl with | [_], _ => rfl)⟩
  have F37 := fun_mk (x := "_law_refused") (qual := "_law_refused") (st := s__law_refused) l37 c37 k37
  have C__law_refused : Cal P w K mg base CX0 12 "_law_refused" ["state", "dials_here"] (SpRefused Pt) := ⟨f37, _, ok__law_refused C__law_bad_dials C__law_bad_place C__law_place C__law_pick C_places C_plus C_less C_total C_times Z Fc m_c m_C0 e1 e2 e3 e4 TB l37 c37, PySem.W.mg_of KX G a37, k37, F37.binds (fun _ _ _ _ _ _ us hl => match us, hl with | [_, _], _ => rfl)⟩
  have CK_places : CalK P w K mg base (L2.CX P w) 5 "places" ["dials"] (SpE (R_places C1)) := ⟨f18, _, ok_places C_check_dials C_all_places F18, PySem.W.mg_of KX G a18, k18, fun ws hl => match ws, hl with | [_], _ => rfl⟩
  have CS_plus : CalS3 P w K mg base (L2.CX P w) 5 "plus" "dials" "one" "other" (SpE (R_two addP C1 C2)) := ⟨f19, _, ok_plus C_check_dials C_check_place C_add F19, PySem.W.mg_of KX G a19, k19, fun u v z => rfl⟩
  have CS_less : CalS3 P w K mg base (L2.CX P w) 5 "less" "dials" "one" "other" (SpE (R_two takeP C1 C2)) := ⟨f20, _, ok_less C_check_dials C_check_place C_take_off F20, PySem.W.mg_of KX G a20, k20, fun u v z => rfl⟩
  have CS_times : CalS3 P w K mg base (L2.CX P w) 5 "times" "dials" "place" "number" (SpE (R_times C1 C2 C3)) := ⟨f22, _, ok_times C_check_number C_check_dials C_check_place C_multiply F22, PySem.W.mg_of KX G a22, k22, fun u v z => rfl⟩
  have CS_total : CalS P w K mg base (L2.CX P w) 6 "total" "dials" "several" (SpE (R_total C1 C4)) := ⟨f21, _, ok_total C_check_dials C_check_several C_add_up F21, PySem.W.mg_of KX G a21, k21, fun u v => rfl⟩
  have mgL := PySem.W.mg_of KX G a39
  rw [hfa] at mgL
  cases mgL
  exact law_run Z C__law_begun C__law_dials C__law_places C_places CK_places C__law_pick C__law_draw C_plus CS_plus C__law_plus C_less CS_less C__law_less C_times CS_times C_total CS_total C__law_total C__law_refused l39 c39 e0 (.of_eq rfl) rfl ⟨rfl, by decide, by decide⟩ hS hl hPt fun _ => rfl
end Mv
open PySem PyProof.Rows PySem.W
set_option maxRecDepth 99999 in
set_option maxHeartbeats 0 in
theorem PySem.Challenge.cw_movedround_k01_places_and_sums_holds : PySem.Challenge.rw_movedround_k01_places_and_sums.Holds := by
  w_on; o_law; k_head; (case hw => w_witness2)
  k_fill
  refine Mv.walk_at (n := 63) rfl (by decide) rfl (fun w h Y => PySem.W.km_in_of Y) ?F
  case F =>
    intro w mg fa h Y KX G hmg
    refine' Mv.all_mk KX G hmg ?a0 ?l0 ?c0 ?k0 ?a1 ?l1 ?c1 ?k1 ?a2 ?l2 ?c2 ?k2 ?a3 ?l3 ?c3 ?k3 ?a4 ?l4 ?c4 ?k4 ?a5 ?l5 ?c5 ?k5 ?a6 ?l6 ?c6 ?k6 ?a7 ?l7 ?c7 ?k7 ?a8 ?l8 ?c8 ?k8 ?a9 ?l9 ?c9 ?k9 ?a10 ?l10 ?c10 ?k10 ?a11 ?l11 ?c11 ?k11 ?a12 ?l12 ?c12 ?k12 ?a13 ?l13 ?c13 ?k13 ?a14 ?l14 ?c14 ?k14 ?a15 ?l15 ?c15 ?k15 ?a16 ?l16 ?c16 ?k16 ?a17 ?l17 ?c17 ?k17 ?a18 ?l18 ?c18 ?k18 ?a19 ?l19 ?c19 ?k19 ?a20 ?l20 ?c20 ?k20 ?a21 ?l21 ?c21 ?k21 ?a22 ?l22 ?c22 ?k22 ?a23 ?l23 ?c23 ?k23 ?a24 ?l24 ?c24 ?k24 ?a25 ?l25 ?c25 ?k25 ?a26 ?l26 ?c26 ?k26 ?a27 ?l27 ?c27 ?k27 ?a28 ?l28 ?c28 ?k28 ?a29 ?l29 ?c29 ?k29 ?a30 ?l30 ?c30 ?k30 ?a31 ?l31 ?c31 ?k31 ?a32 ?l32 ?c32 ?k32 ?a33 ?l33 ?c33 ?k33 ?a34 ?l34 ?c34 ?k34 ?a35 ?l35 ?c35 ?k35 ?a36 ?l36 ?c36 ?k36 ?a37 ?l37 ?c37 ?k37 ?a38 ?l38 ?c38 ?k38 ?a39 ?l39 ?c39 ?k39 ?z_len ?z_zip ?z_tuple ?z_list ?z_range ?z_all ?z_int ?z_bool ?z_isinstance ?z_abs ?z_min ?z_repr ?z_enumerate ?ac0 ?ac1 ?ac2 ?ac3 ?ac4 ?bc0 ?tc0 ?dc0_ ?kc1 ?xc1 ?bc1 ?tc1 ?s10 ?eg1 ?ek1 ?ed1 ?ea1 ?em1 ?kc2 ?xc2 ?bc2 ?tc2 ?s20 ?eg2 ?ek2 ?ed2 ?ea2 ?em2 ?kc3 ?xc3 ?bc3 ?tc3 ?s30 ?eg3 ?ek3 ?ed3 ?ea3 ?em3 ?kc4 ?xc4 ?bc4 ?tc4 ?s40 ?eg4 ?ek4 ?ed4 ?ea4 ?em4 ?en ?et ?lc ?vT ?hCode ?nP ?tP
    (case a0 => k_is)
    (case l0 => k_is)
    (case c0 => k_is)
    (case k0 => k_is)
    (case a1 => k_is)
    (case l1 => k_is)
    (case c1 => k_is)
    (case k1 => k_is)
    (case a2 => k_is)
    (case l2 => k_is)
    (case c2 => k_is)
    (case k2 => k_is)
    (case a3 => k_is)
    (case l3 => k_is)
    (case c3 => k_is)
    (case k3 => k_is)
    (case a4 => k_is)
    (case l4 => k_is)
    (case c4 => k_is)
    (case k4 => k_is)
    (case a5 => k_is)
    (case l5 => k_is)
    (case c5 => k_is)
    (case k5 => k_is)
    (case a6 => k_is)
    (case l6 => k_is)
    (case c6 => k_is)
    (case k6 => k_is)
    (case a7 => k_is)
    (case l7 => k_is)
    (case c7 => k_is)
    (case k7 => k_is)
    (case a8 => k_is)
    (case l8 => k_is)
    (case c8 => k_is)
    (case k8 => k_is)
    (case a9 => k_is)
    (case l9 => k_is)
    (case c9 => k_is)
    (case k9 => k_is)
    (case a10 => k_is)
    (case l10 => k_is)
    (case c10 => k_is)
    (case k10 => k_is)
    (case a11 => k_is)
    (case l11 => k_is)
    (case c11 => k_is)
    (case k11 => k_is)
    (case a12 => k_is)
    (case l12 => k_is)
    (case c12 => k_is)
    (case k12 => k_is)
    (case a13 => k_is)
    (case l13 => k_is)
    (case c13 => k_is)
    (case k13 => k_is)
    (case a14 => k_is)
    (case l14 => k_is)
    (case c14 => k_is)
    (case k14 => k_is)
    (case a15 => k_is)
    (case l15 => k_is)
    (case c15 => k_is)
    (case k15 => k_is)
    (case a16 => k_is)
    (case l16 => k_is)
    (case c16 => k_is)
    (case k16 => k_is)
    (case a17 => k_is)
    (case l17 => k_is)
    (case c17 => k_is)
    (case k17 => k_is)
    (case a18 => k_is)
    (case l18 => k_is)
    (case c18 => k_is)
    (case k18 => k_is)
    (case a19 => k_is)
    (case l19 => k_is)
    (case c19 => k_is)
    (case k19 => k_is)
    (case a20 => k_is)
    (case l20 => k_is)
    (case c20 => k_is)
    (case k20 => k_is)
    (case a21 => k_is)
    (case l21 => k_is)
    (case c21 => k_is)
    (case k21 => k_is)
    (case a22 => k_is)
    (case l22 => k_is)
    (case c22 => k_is)
    (case k22 => k_is)
    (case a23 => k_is)
    (case l23 => k_is)
    (case c23 => k_is)
    (case k23 => k_is)
    (case a24 => k_is)
    (case l24 => k_is)
    (case c24 => k_is)
    (case k24 => k_is)
    (case a25 => k_is)
    (case l25 => k_is)
    (case c25 => k_is)
    (case k25 => k_is)
    (case a26 => k_is)
    (case l26 => k_is)
    (case c26 => k_is)
    (case k26 => k_is)
    (case a27 => k_is)
    (case l27 => k_is)
    (case c27 => k_is)
    (case k27 => k_is)
    (case a28 => k_is)
    (case l28 => k_is)
    (case c28 => k_is)
    (case k28 => k_is)
    (case a29 => k_is)
    (case l29 => k_is)
    (case c29 => k_is)
    (case k29 => k_is)
    (case a30 => k_is)
    (case l30 => k_is)
    (case c30 => k_is)
    (case k30 => k_is)
    (case a31 => k_is)
    (case l31 => k_is)
    (case c31 => k_is)
    (case k31 => k_is)
    (case a32 => k_is)
    (case l32 => k_is)
    (case c32 => k_is)
    (case k32 => k_is)
    (case a33 => k_is)
    (case l33 => k_is)
    (case c33 => k_is)
    (case k33 => k_is)
    (case a34 => k_is)
    (case l34 => k_is)
    (case c34 => k_is)
    (case k34 => k_is)
    (case a35 => k_is)
    (case l35 => k_is)
    (case c35 => k_is)
    (case k35 => k_is)
    (case a36 => k_is)
    (case l36 => k_is)
    (case c36 => k_is)
    (case k36 => k_is)
    (case a37 => k_is)
    (case l37 => k_is)
    (case c37 => k_is)
    (case k37 => k_is)
    (case a38 => k_is)
    (case l38 => k_is)
    (case c38 => k_is)
    (case k38 => k_is)
    (case a39 => k_is)
    (case l39 => k_is)
    (case c39 => k_is)
    (case k39 => k_is)
    (case z_len => k_is)
    (case z_zip => k_is)
    (case z_tuple => k_is)
    (case z_list => k_is)
    (case z_range => k_is)
    (case z_all => k_is)
    (case z_int => k_is)
    (case z_bool => k_is)
    (case z_isinstance => k_is)
    (case z_abs => k_is)
    (case z_min => k_is)
    (case z_repr => k_is)
    (case z_enumerate => k_is)
    (case ac0 => k_is)
    (case ac1 => k_is)
    (case ac2 => k_is)
    (case ac3 => k_is)
    (case ac4 => k_is)
    (case bc0 => k_is)
    (case tc0 => k_is)
    (case dc0_ => k_is)
    (case kc1 => k_is)
    (case xc1 => k_exc)
    (case bc1 => k_is)
    (case tc1 => k_is)
    (case s10 => k_is)
    (case eg1 => k_is)
    (case ek1 => k_is)
    (case ed1 => k_is)
    (case ea1 => k_is)
    (case em1 => k_is)
    (case kc2 => k_is)
    (case xc2 => k_exc)
    (case bc2 => k_is)
    (case tc2 => k_is)
    (case s20 => k_is)
    (case eg2 => k_is)
    (case ek2 => k_is)
    (case ed2 => k_is)
    (case ea2 => k_is)
    (case em2 => k_is)
    (case kc3 => k_is)
    (case xc3 => k_exc)
    (case bc3 => k_is)
    (case tc3 => k_is)
    (case s30 => k_is)
    (case eg3 => k_is)
    (case ek3 => k_is)
    (case ed3 => k_is)
    (case ea3 => k_is)
    (case em3 => k_is)
    (case kc4 => k_is)
    (case xc4 => k_exc)
    (case bc4 => k_is)
    (case tc4 => k_is)
    (case s40 => k_is)
    (case eg4 => k_is)
    (case ek4 => k_is)
    (case ed4 => k_is)
    (case ea4 => k_is)
    (case em4 => k_is)
    (case en => k_is)
    (case et => k_is)
    (case lc => k_is)
    (case vT => rfl)
    (case hCode => kernel_rfl)
    (case nP => kernel_rfl)
    (case tP => exact PySem.W.km_tabs_of Y _ (by simp))

