import PyProof.Rows.All
import Wide.All
import OpenK.AllK
import Wide.FinOn
import HandS.ForMost
import HandS.ForExc
import HandS.ExcInit
import HandS.ExcField
import HandS.IsInst
import HandS.ClsMeth
import HandS.Walk
import HandS.Conv
import HandS.Style
import HandS.TupAny
import HandS.Property
import HandS.MakeKwOnly
import HandS.Deep
import HandS.Codes
import PyProof.ReprReads
import PyProof.ReprRoads
import HandS.FStr
import PyProof.P3In
import KE.KeyNested
import HandS.Lambda
import HandS.TupMul
import KE.GoesEnum
import HandS.NoneIn
import HandS.Defaults
import HandS.SortInts
import HandS.SetKeys
import KE.KCallOwn
import HandS.Text
import HandS.IterVal
import KE.KOwnIter
import HandS.TryMany
import HandS.ExcIs
import KE.KExcIs
import HandS.StrMore
import KE.KExcInit
import KE.KStar
import HandS.DictComp
import HandS.TupLen
import HandS.WordsDict
import PyProof.DictMoreH
import KE.SortKeyHeap
import HandS.SortKw
import HandS.Zip
import HandS.Ends
import HandS.EndTab
import KE.KNestM
import PyProof.DictRoadsH
import KE.KDictSum
import HandS.SetFor
import KE.SortData
import PySem.Challenge.RW_strongbit_k07_whole_one_text_one_end
set_option Elab.async false
set_option linter.all false
set_option maxRecDepth 100000
set_option maxHeartbeats 2000000
namespace Sb
open PySem L2
variable {X : Cx}
theorem op_powB : OpR X (binaryOp .Pow) (rI (fun i j => 0 ≤ j ∧ (Builtin.Int.intBits i : Int) * j ≤ 2 ^ 27) fun i j => .int (i ^ j.toNat)) :=
  opI fun _ _ _ _ _ _ _ c q => PyProof.Rows.pow_int c.1 c.2 q
theorem pow_fits {i : Int} {k : Nat} {j : Int} (h : i.natAbs < 2 ^ k) (h0 : 0 ≤ j) (hj : (k : Int) * j ≤ 2 ^ 27) : 0 ≤ j ∧ (Builtin.Int.intBits i : Int) * j ≤ 2 ^ 27 := by
  have hb : Builtin.Int.intBits i ≤ k := PyProof.Rows.intBits_le h
  refine ⟨h0, Int.le_trans (Int.mul_le_mul_of_nonneg_right (by omega) h0) hj⟩
/-- an own exception class with its __init__ -/
structure Ox (P : Program) (w : World) (K : PySem.W.Frag) (mg : Str → Option Value) (base : Heap) (k : Nat) (x : Str) (C f : Addr) (fd : FuncData) (ps : List Str) (sp : Sp) : Prop where
  c : OexC K C
  iC : PySem.W.findIn K (.ref C) "__init__" = some (some (.ref f))
  tI : PySem.W.typeIn K (.ref f) = some (.type "function")
  ok : FnOk P w K mg base CX0 k f fd ps sp
  bd : Binds K fd ps []
  mg : mg x = some (.ref C)
/-- BadEnd(v1, v2) is raised: its own dict is new -/
def BadAt (C : Addr) (H : Hp) (v1 v2 : V) (E : XK) : Prop := ∀ (H' : Hp) (d : Addr), Same H H' → H d = none → H' d = some (.xd [("row", v2), ("part", v1)]) → E (.ref C) (some d) H'
theorem BadAt.same {C : Addr} {H H1 : Hp} {v1 v2 : V} {E : XK} (s : Same H H1) (h : BadAt C H v1 v2 E) : BadAt C H1 v1 v2 E := fun H' d s' n e => h H' d (s.trans s') (s.free n) e
/-- all that stood stands, but at p -/
def But (p : Addr) (H H' : Hp) : Prop := ∀ b o, H b = some o → b ≠ p → H' b = some o
theorem But.refl {p : Addr} {H : Hp} : But p H H := fun _ _ h _ => h
theorem But.trans {p : Addr} {H H1 H2 : Hp} (a : But p H H1) (b : But p H1 H2) : But p H H2 := fun c o h n => b c o (a c o h n) n
theorem But.same {p : Addr} {H H1 : Hp} (a : Same H H1) : But p H H1 := fun c o h _ => a c o h
theorem Same.upd {p : Addr} {H : Hp} {o : HO} (n : H p = none) : Same H (upd H p o) := fun c u h => by
  rw [upd_ne (ne_of_none h n)]
  exact h
theorem sqT_same {K : PySem.W.Frag} {H H' : Hp} {a : Addr} {xs : List V} (e : Same H H') (h : SqT K H a xs) : SqT K H' a xs := by
  rcases h with (h | ⟨o, h⟩) | h
  · exact .inl (.inl (e _ _ h))
  · exact .inl (.inr ⟨o, e _ _ h⟩)
  · exact .inr h
/-- the bag at p: three numbers; n bounds how often it was asked -/
def Bag (H : Hp) (p : Addr) (n : Nat) : Prop := ∃ g b c : Int, H p = some (.lst [.int g, .int b, .int c]) ∧ 0 ≤ g ∧ 0 ≤ b ∧ b < 2 ^ 100 ∧ 0 ≤ c ∧ c ≤ n
theorem Bag.mono {H : Hp} {p : Addr} {n m : Nat} (h : Bag H p n) (l : n ≤ m) : Bag H p m := by
  obtain ⟨g, b, c, e, h0, h1, h2, h3, h4⟩ := h
  exact ⟨g, b, c, e, h0, h1, h2, h3, by omega⟩
theorem Bag.same {H H' : Hp} {p : Addr} {n : Nat} (h : Bag H p n) (s : Same H H') : Bag H' p n := by
  obtain ⟨g, b, c, e, r⟩ := h
  exact ⟨g, b, c, s _ _ e, r⟩
theorem hu65 {A : Around} {k : Nat} (hr : Room k A) : A.units + 65 < cLine := Nat.lt_of_le_of_lt (Nat.add_le_add_left (by omega : 65 ≤ 16 * k + 200) _) (by have := hr.un; omega)
/-- what follows in a row: another row, or a word -/
inductive Pl where
  | num (n : Nat) | word (s : Str)
  deriving DecidableEq
def Pl.v : Pl → V
  | .num n => .int (n : Int)
  | .word s => .str s
def Pl.key : Pl → Key
  | .num n => .inl (n : Int)
  | .word s => .inr s
theorem Pl.key_inj {p q : Pl} (h : p.key = q.key) : p = q := by
  cases p <;> cases q <;> simp_all [Pl.key] <;> omega
/-- it fits into a machine of so many rows with these words -/
def Pl.Ok (many : Nat) (ws : List Str) : Pl → Prop
  | .num n => n < many
  | .word s => s ∈ ws
instance {many : Nat} {ws : List Str} (p : Pl) : Decidable (p.Ok many ws) := match p with
  | .num n => inferInstanceAs (Decidable (n < many))
  | .word s => inferInstanceAs (Decidable (s ∈ ws))
structure Row where
  put : Nat
  a : Pl
  b : Pl
  deriving DecidableEq
def Row.vs (r : Row) : List V := [.int (r.put : Int), r.a.v, r.b.v]
def Row.Ok (many : Nat) (ws : List Str) (r : Row) : Prop := (r.put = 0 ∨ r.put = 1) ∧ r.a.Ok many ws ∧ r.b.Ok many ws
instance {many : Nat} {ws : List Str} (r : Row) : Decidable (r.Ok many ws) := inferInstanceAs (Decidable ((r.put = 0 ∨ r.put = 1) ∧ r.a.Ok many ws ∧ r.b.Ok many ws))
/-- v is a row of H -/
def RowAt (H : Hp) (v : V) (r : Row) : Prop := ∃ a, v = .ref a ∧ H a = some (.tup r.vs)
/-- the values vs are the rows rs -/
def RowsV (H : Hp) (vs : List V) (rs : List Row) : Prop := Paired (RowAt H) vs rs
theorem RowAt.same {H H' : Hp} {v : V} {r : Row} (s : Same H H') (h : RowAt H v r) : RowAt H' v r := by
  obtain ⟨a, e, x⟩ := h
  exact ⟨a, e, s _ _ x⟩
theorem RowsV.imp {H H' : Hp} {vs : List V} {rs : List Row} (f : ∀ v r, RowAt H v r → RowAt H' v r) (h : RowsV H vs rs) : RowsV H' vs rs := Paired.mapP h f
theorem RowsV.same {H H' : Hp} {vs : List V} {rs : List Row} (s : Same H H') (h : RowsV H vs rs) : RowsV H' vs rs := h.imp fun _ _ => RowAt.same s
theorem RowsV.get : ∀ {H : Hp} {vs : List V} {rs : List Row}, RowsV H vs rs → ∀ (i : Nat) (v : V), vs[i]? = some v → ∃ r, rs[i]? = some r ∧ RowAt H v r
  | _, _, _, .nil, i, v, e => by simp at e
  | _, _, _, .cons h t, 0, v, e => by
    simp at e
    subst e
    exact ⟨_, rfl, h⟩
  | _, _, _, .cons h t, i + 1, v, e => by
    obtain ⟨r, e1, e2⟩ := RowsV.get (vs := _) t i v (by simpa using e)
    exact ⟨r, by simpa using e1, e2⟩
theorem RowsV.get' : ∀ {H : Hp} {vs : List V} {rs : List Row}, RowsV H vs rs → ∀ (i : Nat) (r : Row), rs[i]? = some r → ∃ v, vs[i]? = some v ∧ RowAt H v r
  | _, _, _, .nil, i, v, e => by simp at e
  | _, _, _, .cons h t, 0, v, e => by
    simp at e
    subst e
    exact ⟨_, rfl, h⟩
  | _, _, _, .cons h t, i + 1, v, e => by
    obtain ⟨r, e1, e2⟩ := RowsV.get' (vs := _) t i v (by simpa using e)
    exact ⟨r, by simpa using e1, e2⟩
theorem RowsV.len {H : Hp} {vs : List V} {rs : List Row} (h : RowsV H vs rs) : vs.length = rs.length := Paired.length h
theorem RowsV.snoc {H : Hp} {v : V} {r : Row} (x : RowAt H v r) : ∀ {vs : List V} {rs : List Row}, RowsV H vs rs → RowsV H (vs ++ [v]) (rs ++ [r])
  | _, _, .nil => .cons x .nil
  | _, _, .cons h t => .cons h (RowsV.snoc x t)
end Sb
set_option Elab.async false
set_option linter.all false
set_option maxRecDepth 100000
set_option maxHeartbeats 2000000
namespace Sb
open PySem PySem.Spec PyProof.Rows L2
/-- what a def keeps where no guard stands -/
structure FnG (P : Program) (w : World) (K : PySem.W.Frag) (mg : Str → Option Value) (base : Heap) (CX : CXT) (k : Nat) (f : Addr) (fd : FuncData) (ps : List Str) (sp : Sp) : Prop where
  size : ∀ xs H Q E, sp xs H Q E → xs.length = ps.length
  go : ∀ (A : Around) (st : List Env) (s : Shared) (H : Hp) (args : Args) (us : List Value) (xs : List V) (Q : VK) (E : XK), A.guards = some [] → Room k A → Env0 P w K mg base A st s H → BindsTo s fd args (ps.zip us) → Vals xs us → sp xs H Q E →
    codeAny (model P w) A (.call (.ref f) args) (CR CX st P w H s Q E) s
section
variable {CX : CXT} {P : Program} {w : World} {K : PySem.W.Frag} {mg : Str → Option Value} {base : Heap} {k : Nat} {f : Addr}
theorem guards_in {A : Around} {e : Env} (h : A.guards = some []) : (A.deeper e).guards = some [] := by
  first
    | exact h
    | (show (A.deeper e).guards = some []; simp [Around.deeper, h])
/-- a def's promise from its body, no guard standing -/
theorem fnG {nm ql : Str} {pr : Arguments} {bd : List Stmt} {sc : Scope} {dV kV doc pm cdv ct oc : Value} {an od : Option Addr} {osl : Array (Option Value)} {N ps : List Str} {sp : Sp}
    (at_ : K.lookup f = some ⟨oc, od, .func (PySem.W.fnOf nm ql pr bd sc dV kV doc pm an cdv ct), osl⟩) (cd_ : PySem.W.codeIn K cdv ql = true) (Z : FnScope N ps sc) (size : ∀ xs H Q E, sp xs H Q E → xs.length = ps.length)
    (hb : ∀ (A : Around) (st : List Env) (s : Shared) (H : Hp) (xs : List V) (Q : VK) (E : XK), A.guards = some [] → Room k (A.deeper (envOfC ql sc s.heap.objs.size f cdv)) → sp xs H Q E →
      ∃ t, PSs (cxOf CX P w K mg base N ql sc f cdv A st s H E) bd t ∧ t { nx := fun _ H' => Q .non H', rt := Q } (start N xs) H) :
    FnG P w K mg base CX (k + 1) f (PySem.W.fnOf nm ql pr bd sc dV kV doc pm an cdv ct) ps sp := by
  refine ⟨size, fun A st s H args us xs Q E hg hr e0 bnd r hs => ?_⟩
  have hlen := size _ _ _ _ hs
  have inK : K.In s.heap := e0.mod.kin.keeps fun b o e => (e0.bs b o e).1
  have nol : s.heap.NoLimit := e0.mod.nolimit.keeps fun b o e => (e0.bs b o e).1
  refine codeAny_call_function hr.depth (inK _ _ at_) rfl Z.co Z.gen rfl (PySem.W.codeRec_of inK cd_) (bnd _ _ _ _ ?_)
  refine wpAny_newFunctionEnv_cells Z.kind (fun ⟨n, v⟩ hy => ?_) fun env he s1 x => ?_
  · rcases Z.par n (List.of_mem_zip hy).1 with q | q
    · exact .inl q
    · exact .inr ⟨q, PySem.W.cellsFrom_some _ _ _ (.inl q)⟩
  subst he
  refine ⟨nol.keeps x.toInCall.keep, codeAny_func ?_⟩
  obtain ⟨t, ht, hq⟩ := hb A st s H xs Q E hg (hr.deeper _) hs
  have I : Inv (cxOf CX P w K mg base N ql sc f cdv A st s H E) [] (start N xs) H s1 := inv_start Z hr.hd e0 hlen r x
  refine wpAny_mono (ht.run [] s1 (start N xs) H _ I hq) (fun fl s' z => ?_) fun e s' z => z
  match fl, z with
  | .ret u, ⟨v, σ', H', J, rv, q⟩ => exact ⟨v, H', J.os, J.bare, J.base, J.hok, rv, q⟩
  | .next, ⟨σ', H', J, q⟩ => exact ⟨V.non, H', J.os, J.bare, J.base, J.hok, rfl, q⟩
  | .brk, ⟨_, _, _, q⟩ => exact False.elim q
  | .cont, ⟨_, _, _, q⟩ => exact False.elim q
/-- the same in the words of a def -/
theorem okG {x qual : Str} {st : Stmt} {fd : FuncData} {N ps : List Str} {sp : Sp} (F : Fun K x qual st f fd) (Z : FnScope N ps (defScope st)) (size : ∀ xs H Q E, sp xs H Q E → xs.length = ps.length)
    (hb : ∀ (cdv : Value) (A : Around) (out : List Env) (s : Shared) (H : Hp) (xs : List V) (Q : VK) (E : XK), A.guards = some [] → Room k (A.deeper (envOfC qual (defScope st) s.heap.objs.size f cdv)) → sp xs H Q E →
      ∃ t, PSs (cxOf CX0 P w K mg base N qual (defScope st) f cdv A out s H E).nox (defBody st) t ∧ t { nx := fun _ H' => Q .non H', rt := Q } (start N xs) H) : FnG P w K mg base CX0 (k + 1) f fd ps sp := by
  obtain ⟨oc, od, kV, doc, pm, an, cdv, ct, osl, rfl, at_, cd_⟩ := F.ex
  refine fnG at_ cd_ Z size fun A out s H xs Q E hg hr hs => ?_
  obtain ⟨t, h, q⟩ := hb cdv A out s H xs Q E hg hr hs
  exact ⟨t, h.nox, q⟩
end
end Sb
set_option Elab.async false
set_option linter.all false
set_option maxHeartbeats 2000000
namespace Sb
open PySem L2
/-- p follows row i -/
def Fol (rows : List Row) (i : Nat) (p : Pl) : Prop := ∃ r, rows[i]? = some r ∧ (p = r.a ∨ p = r.b)
/-- some heard bits lead from row b to p -/
inductive Reach (rows : List Row) (b : Nat) : Pl → Prop where
  | base : Reach rows b (.num b)
  | step {i : Nat} {p : Pl} (h : Reach rows b (.num i)) (f : Fol rows i p) : Reach rows b p
def Pl.isNum : Pl → Bool
  | .num _ => true
  | .word _ => false
/-- what holds of the found ones and of those ahead; k (where it is some row) waits for its followers but the first j -/
structure RInv (rows : List Row) (b : Nat) (fs : List Pl) (as : List Nat) (hold : Option (Nat × Nat)) : Prop where
  nd : fs.Nodup
  sound : ∀ x, x ∈ fs → Reach rows b x
  start : Pl.num b ∈ fs
  sub : ∀ i, i ∈ as → Pl.num i ∈ fs
  small : ∀ i, Pl.num i ∈ fs → i < rows.length
  closed : ∀ i, Pl.num i ∈ fs → i ∉ as → (∀ j, hold ≠ some (i, j)) → ∀ p, Fol rows i p → p ∈ fs
  held : ∀ i j, hold = some (i, j) → Pl.num i ∈ fs ∧ ∀ r, rows[i]? = some r → (1 ≤ j → r.a ∈ fs) ∧ (2 ≤ j → r.b ∈ fs)
theorem RInv.begin {rows : List Row} {b : Nat} (h : b < rows.length) : RInv rows b [.num b] [b] none :=
  ⟨by simp, fun x hx => by simp at hx; subst hx; exact .base, by simp, fun i hi => by simp at hi; simp [hi], fun i hi => by simp at hi; omega,
   fun i hi ha => by simp at hi; simp [hi] at ha, fun i j z => by cases z⟩
theorem RInv.pop {rows : List Row} {b i : Nat} {fs : List Pl} {as : List Nat} (h : RInv rows b fs (as ++ [i]) none) : RInv rows b fs as (some (i, 0)) :=
  ⟨h.nd, h.sound, h.start, fun j hj => h.sub j (by simp [hj]), h.small, fun j hj ha hn p hp => h.closed j hj (by
      intro z
      rcases List.mem_append.mp z with z | z
      · exact ha z
      · simp at z
        exact hn 0 (by rw [z])) (by intro k z; cases z) p hp,
    fun k j e => by
      cases e
      exact ⟨h.sub i (by simp), fun r _ => ⟨fun z => absurd z (by omega), fun z => absurd z (by omega)⟩⟩⟩
theorem RInv.done {rows : List Row} {b i : Nat} {fs : List Pl} {as : List Nat} (h : RInv rows b fs as (some (i, 2))) : RInv rows b fs as none :=
  ⟨h.nd, h.sound, h.start, h.sub, h.small, fun j hj ha _ p hp => by
      by_cases e : j = i
      · subst e
        obtain ⟨r, hr, hp⟩ := hp
        obtain ⟨_, q⟩ := h.held j 2 rfl
        obtain ⟨q1, q2⟩ := q r hr
        rcases hp with rfl | rfl
        · exact q1 (by omega)
        · exact q2 (by omega)
      · exact h.closed j hj ha (fun k z => by cases z; exact e rfl) p hp, fun k j z => by cases z⟩
/-- the j-th follower is found already -/
theorem RInv.skip {rows : List Row} {b i j : Nat} {fs : List Pl} {as : List Nat} {r : Row} {p : Pl} (h : RInv rows b fs as (some (i, j))) (hr : rows[i]? = some r) (hp : (j = 0 ∧ p = r.a) ∨ (j = 1 ∧ p = r.b)) (hf : p ∈ fs) :
    RInv rows b fs as (some (i, j + 1)) :=
  ⟨h.nd, h.sound, h.start, h.sub, h.small, fun k hk ha hn => h.closed k hk ha (fun l z => by cases z; exact hn _ rfl), fun k l z => by
    cases z
    obtain ⟨q0, q⟩ := h.held i j rfl
    refine ⟨q0, fun r' hr' => ?_⟩
    rw [hr] at hr'
    cases hr'
    obtain ⟨q1, q2⟩ := q r hr
    rcases hp with ⟨rfl, rfl⟩ | ⟨rfl, rfl⟩
    · exact ⟨fun _ => hf, fun z => absurd z (by omega)⟩
    · exact ⟨fun _ => q1 (by omega), fun _ => hf⟩⟩
/-- a row that is new is ahead -/
def more (as : List Nat) : Pl → List Nat
  | .num k => as ++ [k]
  | .word _ => as
/-- it is new -/
theorem RInv.add {rows : List Row} {b i j : Nat} {fs : List Pl} {as : List Nat} {r : Row} {p : Pl} (h : RInv rows b fs as (some (i, j))) (hr : rows[i]? = some r) (hp : (j = 0 ∧ p = r.a) ∨ (j = 1 ∧ p = r.b)) (hf : p ∉ fs)
    (hs : ∀ k, p = .num k → k < rows.length) : RInv rows b (fs ++ [p]) (more as p) (some (i, j + 1)) := by
  have hi : Pl.num i ∈ fs := (h.held i j rfl).1
  have fol : Fol rows i p := ⟨r, hr, by rcases hp with ⟨_, e⟩ | ⟨_, e⟩ <;> simp [e]⟩
  have mem_as : ∀ k, k ∈ (more as p) → k ∈ as ∨ p = .num k := fun k hk => by
    cases p with
    | num m =>
      rcases List.mem_append.mp hk with z | z
      · exact .inl z
      · simp at z
        exact .inr (by rw [z])
    | word z => exact .inl hk
  have as_mem : ∀ k, k ∈ as → k ∈ (more as p) := fun k hk => by
    cases p with
    | num m => exact List.mem_append_left _ hk
    | word z => exact hk
  refine ⟨?_, ?_, by simp [h.start], ?_, ?_, ?_, ?_⟩
  · rw [List.nodup_append]
    refine ⟨h.nd, by simp, fun x hx y hy => ?_⟩
    simp at hy
    subst hy
    rintro rfl
    exact hf hx
  · intro x hx
    rcases List.mem_append.mp hx with z | z
    · exact h.sound x z
    · simp at z
      subst z
      exact .step (h.sound _ hi) fol
  · intro k hk
    rcases mem_as k hk with z | z
    · exact List.mem_append_left _ (h.sub k z)
    · rw [← z]
      simp
  · intro k hk
    rcases List.mem_append.mp hk with z | z
    · exact h.small k z
    · simp at z
      exact hs k z.symm
  · intro k hk ha hn q hq
    rcases List.mem_append.mp hk with z | z
    · exact List.mem_append_left _ (h.closed k z (fun y => ha (as_mem k y)) (fun l y => by cases y; exact hn _ rfl) q hq)
    · simp at z
      subst z
      exact absurd (List.mem_append_right _ (by simp)) ha
  · intro k l z
    cases z
    obtain ⟨_, q⟩ := h.held i j rfl
    refine ⟨List.mem_append_left _ hi, fun r' hr' => ?_⟩
    rw [hr] at hr'
    cases hr'
    obtain ⟨q1, q2⟩ := q r hr
    rcases hp with ⟨rfl, rfl⟩ | ⟨rfl, rfl⟩
    · exact ⟨fun _ => by simp, fun z => absurd z (by omega)⟩
    · exact ⟨fun _ => List.mem_append_left _ (q1 (by omega)), fun _ => by simp⟩
/-- nothing is ahead: just what is led to is found -/
theorem RInv.all {rows : List Row} {b : Nat} {fs : List Pl} (h : RInv rows b fs [] none) (x : Pl) : x ∈ fs ↔ Reach rows b x := by
  refine ⟨h.sound x, fun z => ?_⟩
  induction z with
  | base => exact h.start
  | step _ f ih => exact h.closed _ ih (by simp) (by intro k z; cases z) _ f
/-- the first row that is none -/
def firstBad (n : Nat) (ws : List Str) : List Row → Nat → Option Nat
  | [], _ => none
  | r :: t, i => if r.Ok n ws then firstBad n ws t (i + 1) else some i
def hearerWords : List Str := ["taken", "lost"]
def senderWords : List Str := ["done", "again"]
/-- how many rows are found -/
def nums (fs : List Pl) : Nat := (fs.filter Pl.isNum).length
theorem nodup_len {l : List Nat} : ∀ {n : Nat}, l.Nodup → (∀ x, x ∈ l → x < n) → l.length ≤ n := by
  intro n
  induction n generalizing l with
  | zero =>
    intro _ h
    cases l with
    | nil => simp
    | cons x r => exact absurd (h x (by simp)) (by omega)
  | succ n ih =>
    intro nd h
    have e : l.length ≤ (l.erase n).length + 1 := by
      rw [List.length_erase]
      split <;> omega
    have := ih (l := l.erase n) (nd.erase n) fun x hx => by
      have h1 := h x (List.mem_of_mem_erase hx)
      have h2 : x ≠ n := fun z => by
        subst z
        exact (List.Nodup.not_mem_erase nd) hx
      omega
    omega
theorem nums_le {fs : List Pl} {n : Nat} (nd : fs.Nodup) (h : ∀ i, Pl.num i ∈ fs → i < n) : nums fs ≤ n := by
  have e : nums fs = (fs.filterMap fun p => match p with | .num i => some i | .word _ => none).length := by
    unfold nums
    clear nd h
    induction fs with
    | nil => rfl
    | cons p r ih =>
      cases p with
      | num i => simp [Pl.isNum, List.filter_cons, ih]
      | word z => simp [Pl.isNum, List.filter_cons, ih]
  rw [e]
  refine nodup_len ?_ fun x hx => ?_
  · refine List.Pairwise.filterMap _ ?_ nd
    intro p q hpq x hx y hy
    cases p <;> cases q <;> simp_all
  · obtain ⟨p, hp, hx⟩ := List.mem_filterMap.mp hx
    cases p with
    | num i =>
      simp at hx
      subst hx
      exact h i hp
    | word z => simp at hx
theorem nums_snoc {fs : List Pl} {p : Pl} : nums (fs ++ [p]) = nums fs + (match p with | .num _ => 1 | .word _ => 0) := by
  unfold nums
  cases p <;> simp [Pl.isNum, List.filter_append, List.filter_cons]
end Sb
set_option Elab.async false
set_option linter.all false
set_option maxHeartbeats 2000000
namespace Sb
open PySem L2
def unTaken : Pl → Pl
  | .num n => .num n
  | .word s => if s = "taken" then .word "lost" else .word s
theorem unTaken_word (s : Str) : unTaken (.word s) = if s = "taken" then .word "lost" else .word s := rfl
def unRow (r : Row) : Row := ⟨r.put, unTaken r.a, unTaken r.b⟩
/-- the rows at these places without "taken" -/
def unRows (rows : List Row) (is : List Nat) : List Row := is.foldl (fun rs i => match rs[i]? with | some r => rs.set i (unRow r) | none => rs) rows
theorem unTaken_twice (p : Pl) : unTaken (unTaken p) = unTaken p := by
  cases p with
  | num n => rfl
  | word s =>
    unfold unTaken
    by_cases h : s = "taken"
    · simp only [if_pos h]
      rw [if_neg (by decide +kernel)]
    · simp only [if_neg h]
theorem unRows_snoc (rows : List Row) (is : List Nat) (i : Nat) : unRows rows (is ++ [i]) = match (unRows rows is)[i]? with | some r => (unRows rows is).set i (unRow r) | none => unRows rows is := by
  unfold unRows
  rw [List.foldl_append]
  rfl
theorem unRows_len (rows : List Row) : ∀ is : List Nat, (unRows rows is).length = rows.length := by
  intro is
  induction hN : is.length generalizing is with
  | zero =>
    have : is = [] := List.length_eq_zero_iff.mp hN
    subst this
    rfl
  | succ k ih =>
    rcases List.eq_nil_or_concat is with z | ⟨p, i, z⟩
    · subst z
      simp at hN
    · have z' : is = p ++ [i] := by simpa using z
      subst z'
      rw [unRows_snoc]
      have := ih p (by simpa using hN)
      split
      · rw [List.length_set, this]
      · exact this
theorem unRows_get (rows : List Row) : ∀ (is : List Nat) (i : Nat) (r : Row), rows[i]? = some r → (unRows rows is)[i]? = some (if i ∈ is then unRow r else r) := by
  intro is
  induction hN : is.length generalizing is with
  | zero =>
    have : is = [] := List.length_eq_zero_iff.mp hN
    subst this
    intro i r h
    simpa [unRows] using h
  | succ k ih =>
    rcases List.eq_nil_or_concat is with z | ⟨p, j, z⟩
    · subst z
      simp at hN
    · have z' : is = p ++ [j] := by simpa using z
      subst z'
      intro i r h
      have hi := ih p (by simpa using hN) i r h
      rw [unRows_snoc]
      have hlen : i < rows.length := (List.getElem?_eq_some_iff.mp h).1
      by_cases hj : i = j
      · subst hj
        rw [hi]
        simp only []
        rw [List.getElem?_set_self (by rw [unRows_len]; exact hlen)]
        rw [if_pos (show i ∈ p ++ [i] by simp)]
        by_cases hp : i ∈ p
        · rw [if_pos hp]
          simp [unRow, unTaken_twice]
        · rw [if_neg hp]
      · have e : (i ∈ p ++ [j]) ↔ i ∈ p := by simp [hj]
        have e2 : (if i ∈ p ++ [j] then unRow r else r) = if i ∈ p then unRow r else r := by
          by_cases hp : i ∈ p
          · rw [if_pos hp, if_pos (e.mpr hp)]
          · rw [if_neg hp, if_neg fun z => hp (e.mp z)]
        rw [e2]
        split
        · rw [List.getElem?_set_ne (fun z => hj z.symm)]
          exact hi
        · exact hi
theorem unTaken_ok {n : Nat} {ws : List Str} (h : ("lost" : Str) ∈ ws) {p : Pl} (hp : p.Ok n ws) : (unTaken p).Ok n ws := by
  cases p with
  | num k => exact hp
  | word s =>
    rw [unTaken_word]
    by_cases c : s = "taken"
    · rw [if_pos c]
      exact h
    · rw [if_neg c]
      exact hp
theorem unRows_ok {rows : List Row} {is : List Nat} {n : Nat} {ws : List Str} (h : ("lost" : Str) ∈ ws) (hok : ∀ r, r ∈ rows → r.Ok n ws) : ∀ r, r ∈ unRows rows is → r.Ok n ws := by
  intro r hr
  obtain ⟨i, hi⟩ := List.getElem?_of_mem hr
  have hlt : i < rows.length := by
    have := (List.getElem?_eq_some_iff.mp hi).1
    rwa [unRows_len] at this
  have e := unRows_get rows is i rows[i] (List.getElem?_eq_getElem hlt)
  rw [hi] at e
  have h0 := hok rows[i] (List.getElem_mem hlt)
  cases Option.some.inj e
  split
  · exact ⟨h0.1, unTaken_ok h h0.2.1, unTaken_ok h h0.2.2⟩
  · exact h0
theorem unTaken_num {p : Pl} {n : Nat} (h : unTaken p = .num n) : p = .num n := by
  cases p with
  | num k => exact h
  | word s =>
    rw [unTaken_word] at h
    by_cases c : s = "taken"
    · rw [if_pos c] at h
      cases h
    · rw [if_neg c] at h
      cases h
theorem unTaken_taken {p : Pl} : unTaken p ≠ .word "taken" := by
  intro h
  cases p with
  | num k => cases h
  | word s =>
    rw [unTaken_word] at h
    by_cases c : s = "taken"
    · rw [if_pos c] at h
      exact absurd (Pl.word.inj h) (by decide +kernel)
    · rw [if_neg c] at h
      exact c (Pl.word.inj h)
/-- without "taken" on all that row 1 leads to, it leads to no "taken" -/
theorem unRows_body {rows : List Row} {is : List Nat} {b : Nat} (h : ∀ i, Reach rows b (.num i) → i ∈ is) : ¬ Reach (unRows rows is) b (.word "taken") := by
  have back : ∀ x, Reach (unRows rows is) b x → (∀ i, x = .num i → Reach rows b (.num i)) ∧ x ≠ .word "taken" := by
    intro x hx
    induction hx with
    | base => exact ⟨fun i e => by cases e; exact .base, fun e => by cases e⟩
    | @step i p hr f ih =>
      have hi := ih.1 i rfl
      obtain ⟨r, hr', hp⟩ := f
      have hlt : i < rows.length := by
        have := (List.getElem?_eq_some_iff.mp hr').1
        rwa [unRows_len] at this
      have e := unRows_get rows is i rows[i] (List.getElem?_eq_getElem hlt)
      rw [hr', if_pos (h i hi)] at e
      cases Option.some.inj e
      refine ⟨fun j ej => ?_, fun z => ?_⟩
      · subst ej
        refine .step hi ⟨rows[i], List.getElem?_eq_getElem hlt, ?_⟩
        rcases hp with hp | hp
        · exact .inl (unTaken_num hp.symm).symm
        · exact .inr (unTaken_num hp.symm).symm
      · subst z
        rcases hp with hp | hp
        · exact unTaken_taken hp.symm
        · exact unTaken_taken hp.symm
  intro h1
  exact (back _ h1).2 rfl
/-- a machine of a hearer as it is drawn -/
def HearerOk (rows : List Row) : Prop := 2 ≤ rows.length ∧ rows.length ≤ 100 ∧ (∀ r, r ∈ rows → r.Ok rows.length hearerWords) ∧ ¬ Reach rows 1 (.word "taken")
def SenderOk (rows : List Row) : Prop := 1 ≤ rows.length ∧ rows.length ≤ 100 ∧ ∀ r, r ∈ rows → r.Ok rows.length senderWords
end Sb
set_option Elab.async false
set_option linter.all false
set_option maxRecDepth 100000
set_option maxHeartbeats 2000000
namespace Sb
open PySem PySem.Spec PyProof.Rows L2
section
variable {X : Cx} {CX : CXT} {k : Nat} {C f : Addr} {fd : FuncData} {ps : List Str} {sp : Sp} {E : XK}
/-- x == y, x of an own class with its own __eq__ -/
def rEqOwn (K : PySem.W.Frag) (C : Addr) (sp : Sp) (E : XK) : R2 := fun x y H Q => ∃ (a dx : Addr) (fs : List (Str × V)) (t : Value), x = .ref a ∧ H a = some (.ins C dx fs) ∧ TyX K H y t ∧ PySem.W.notFirst K C t = true ∧
  sp [x, y] H (fun v H' => ∃ b, v = .bl b ∧ Q (.bl b) H') E
/-- len(x) by an own __len__ -/
def rLenOwn (C : Addr) (sp : Sp) (E : XK) : List V → Hp → VK → Prop := fun xs H Q => ∃ (a dx : Addr) (fs : List (Str × V)), xs = [.ref a] ∧ H a = some (.ins C dx fs) ∧ sp [.ref a] H (fun v H' => ∃ n : Int, v = .int n ∧ 0 ≤ n ∧ n < 2 ^ 63 ∧ Q (.int n) H') E
end
/-- a built-in class is not asked first -/
theorem not_first {K : PySem.W.Frag} {C : Addr} {n : String} {l : List Value} (e : fastBuiltinMro n = some l) (h : l.contains (.ref C) = false) : PySem.W.notFirst K C (.type n) = true := by
  have e1 : PySem.W.subIn K (.type n) (.ref C) = some false := by
    show (fastBuiltinMro n).map (·.contains (.ref C)) = some false
    rw [e]
    simpa using h
  unfold PySem.W.notFirst
  rw [e1]
  simp
theorem first_self {K : PySem.W.Frag} {C : Addr} : PySem.W.notFirst K C (.ref C) = true := by simp [PySem.W.notFirst]
end Sb
set_option Elab.async false
set_option linter.all false
set_option maxHeartbeats 2000000
namespace Sb
open PySem L2
/-- a way from row 1 on which no row comes twice -/
inductive Way (rows : List Row) : List Nat → Prop where
  | one : Way rows [1]
  | more {p : List Nat} {i j : Nat} (w : Way rows (p ++ [i])) (f : Fol rows i (.num j)) (n : j ∉ p ++ [i]) : Way rows (p ++ [i] ++ [j])
theorem Way.last {rows : List Row} {q : List Nat} (w : Way rows q) : ∃ p i, q = p ++ [i] := by
  cases w with
  | one => exact ⟨[], 1, rfl⟩
  | more w f n => exact ⟨_, _, rfl⟩
theorem Way.pos {rows : List Row} {q : List Nat} (w : Way rows q) : 1 ≤ q.length := by
  obtain ⟨p, i, rfl⟩ := w.last
  simp
theorem Way.small {rows : List Row} {q : List Nat} {n : Nat} (hn : 1 < n) (hf : ∀ i j, Fol rows i (.num j) → j < n) (w : Way rows q) : ∀ x, x ∈ q → x < n := by
  induction w with
  | one =>
    intro x hx
    simp at hx
    omega
  | more w f n' ih =>
    intro x hx
    rcases List.mem_append.mp hx with z | z
    · exact ih x z
    · simp at z
      subst z
      exact hf _ _ f
/-- a way to each row on a way -/
theorem Way.cut {rows : List Row} {q : List Nat} (w : Way rows q) : ∀ x, x ∈ q → ∃ p, Way rows (p ++ [x]) := by
  induction w with
  | one =>
    intro x hx
    simp at hx
    subst hx
    exact ⟨[], .one⟩
  | more w f n ih =>
    intro x hx
    rcases List.mem_append.mp hx with z | z
    · exact ih x z
    · simp at z
      subst z
      exact ⟨_, .more w f n⟩
end Sb
set_option Elab.async false
set_option linter.all false
set_option maxHeartbeats 2000000
namespace Sb
open PySem L2
/-- the rows met so far, the first t of them looked at -/
structure LInv (rows : List Row) (b : Nat) (fs : List Nat) (t : Nat) : Prop where
  nd : fs.Nodup
  sound : ∀ i, i ∈ fs → Reach rows b (.num i)
  start : b ∈ fs
  small : ∀ i, i ∈ fs → i < rows.length
  closed : ∀ c i, c < t → fs[c]? = some i → ∀ j, Fol rows i (.num j) → j ∈ fs
theorem LInv.begin {rows : List Row} {b : Nat} (h : b < rows.length) : LInv rows b [b] 0 :=
  ⟨by simp, fun i hi => by simp at hi; subst hi; exact .base, by simp, fun i hi => by simp at hi; omega, fun c i hc => by omega⟩
theorem LInv.add {rows : List Row} {b t i j : Nat} {fs : List Nat} (h : LInv rows b fs t) (hi : i ∈ fs) (f : Fol rows i (.num j)) (hj : j ∉ fs) (hs : j < rows.length) (ht : t ≤ fs.length) : LInv rows b (fs ++ [j]) t := by
  refine ⟨?_, fun x hx => ?_, by simp [h.start], fun x hx => ?_, fun c i' hc hi' k hk => ?_⟩
  · rw [List.nodup_append]
    refine ⟨h.nd, by simp, fun x hx y hy => ?_⟩
    simp at hy
    subst hy
    rintro rfl
    exact hj hx
  · rcases List.mem_append.mp hx with z | z
    · exact h.sound x z
    · simp at z
      subst z
      exact .step (h.sound i hi) f
  · rcases List.mem_append.mp hx with z | z
    · exact h.small x z
    · simp at z
      omega
  · rw [List.getElem?_append_left (by omega)] at hi'
    exact List.mem_append_left _ (h.closed c i' hc hi' k hk)
theorem LInv.next {rows : List Row} {b t i : Nat} {fs : List Nat} (h : LInv rows b fs t) (hi : fs[t]? = some i) (hc : ∀ j, Fol rows i (.num j) → j ∈ fs) : LInv rows b fs (t + 1) :=
  ⟨h.nd, h.sound, h.start, h.small, fun c i' hc' hi' j hj => by
    by_cases e : c = t
    · subst e
      rw [hi] at hi'
      cases hi'
      exact hc j hj
    · exact h.closed c i' (by omega) hi' j hj⟩
theorem LInv.all {rows : List Row} {b : Nat} {fs : List Nat} {t : Nat} (h : LInv rows b fs t) (ht : fs.length ≤ t) (i : Nat) : i ∈ fs ↔ Reach rows b (.num i) := by
  refine ⟨h.sound i, fun hr => ?_⟩
  generalize e : Pl.num i = x at hr
  induction hr generalizing i with
  | base =>
    cases e
    exact h.start
  | @step k p hk f ih =>
    subst e
    have hm := ih k rfl
    obtain ⟨c, hc⟩ := List.getElem?_of_mem hm
    exact h.closed c k (by have := (List.getElem?_eq_some_iff.mp hc).1; omega) hc i f
end Sb
set_option Elab.async false
set_option linter.all false
set_option maxRecDepth 100000
set_option maxHeartbeats 2000000
namespace Sb
open PySem PySem.Spec PyProof.Rows L2
theorem pi_or {X : Cx} {tg l : Expr} {w1 w2 : TI} (h1 : PI X tg l w1) (h2 : PI X tg l w2) : PI X tg l (fun σ H R => w1 σ H R ∨ w2 σ H R) :=
  ⟨fun pins s σ H R I h => h.elim (fun z => h1.run pins s σ H R I z) (fun z => h2.run pins s σ H R I z)⟩
theorem passNo {X : Cx} : Passes (L2.CX X.prog X.w) X E0 := fun _ _ _ _ _ _ _ c => by
  obtain ⟨_, _, _, _, _, _, _, _, _, _, _, _, z⟩ := c
  exact z.elim
/-- a property of a class that hands one attribute out -/
structure Px (P : Program) (w : World) (K : PySem.W.Frag) (mg : Str → Option Value) (base : Heap) (C p g : Addr) (fd : FuncData) (f at_ : Str) : Prop where
  pof : PropOf K C f p g
  ok : FnOk P w K mg base CX0 1 g fd ["self"] (getSp C at_)
  bd : Binds K fd ["self"] []
/-- one bit on -/
def stepPl (rs : List Row) (p : Pl) (b : Nat) : Pl := match p with
  | .num i => match rs[i]? with
    | some r => if b = 0 then r.a else r.b
    | none => .num i
  | .word s => .word s
def walkPl (rs : List Row) (p : Pl) (bs : List Nat) : Pl := bs.foldl (stepPl rs) p
def putOf (rs : List Row) (i : Nat) : Nat := (rs[i]?.map Row.put).getD 0
def seenD (rs : List Row) : Pl → PyData
  | .num i => .tuple [.str "put", .int (putOf rs i : Int)]
  | .word s => .tuple [.str "word", .str s]
theorem walk_snoc (rs : List Row) (p : Pl) (bs : List Nat) (b : Nat) : walkPl rs p (bs ++ [b]) = stepPl rs (walkPl rs p bs) b := by
  unfold walkPl
  rw [List.foldl_append]
  rfl
/-- a word of a machine -/
def isWords (ws : List Str) : Prop := ws = hearerWords ∨ ws = senderWords
end Sb
set_option Elab.async false
set_option linter.all false
set_option maxRecDepth 100000
set_option maxHeartbeats 2000000
namespace Sb
open PySem PySem.Spec PyProof.Rows L2
def plD : Pl → PyData
  | .num n => .int (n : Int)
  | .word s => .str s
def rowD (r : Row) : PyData := .tuple [.int (r.put : Int), plD r.a, plD r.b]
def rowsD (rs : List Row) : List PyData := rs.map rowD
/-- a word that the machines know -/
def okWord (s : Str) : Prop := s ∈ hearerWords ∨ s ∈ senderWords
def okPl : Pl → Prop
  | .num _ => True
  | .word s => okWord s
theorem okPl_of {many : Nat} {ws : List Str} (hw : isWords ws) {p : Pl} (h : p.Ok many ws) : okPl p := by
  cases p with
  | num n => exact True.intro
  | word s =>
    rcases hw with rfl | rfl
    · exact .inl h
    · exact .inr h
theorem okWord_cases {s : Str} (h : okWord s) : s = "taken" ∨ s = "lost" ∨ s = "done" ∨ s = "again" := by
  rcases h with h | h <;> (simp only [hearerWords, senderWords, List.mem_cons, List.not_mem_nil, or_false] at h; rcases h with rfl | rfl <;> simp)
end Sb
set_option Elab.async false
set_option linter.all false
set_option maxRecDepth 100000
set_option maxHeartbeats 2000000
namespace Sb
open PySem PySem.Spec PySem.Calls PyProof.Rows L2
section
variable {X : Cx} {CX : CXT} {k : Nat} {C f : Addr} {fd : FuncData} {ps : List Str} {sp : Sp} {E : XK}
/-- y in x, x of an own class with its own __contains__ -/
def rInOwn (neg : Bool) (C : Addr) (sp : Sp) (E : XK) : R2 := fun y x H Q => ∃ (a dx : Addr) (fs : List (Str × V)), x = .ref a ∧ H a = some (.ins C dx fs) ∧ sp [x, y] H (fun v H' => ∃ b, v = .bl b ∧ Q (.bl (if neg then !b else b)) H') E
end
section
variable {X : Cx}
/-- x in a tuple of data -/
def rInT (K : PySem.W.Frag) : R2 := fun x y H Q => ∃ d ds, Dp K H x d ∧ Dp K H y (.tuple ds) ∧ SeqAt.shaped d = true ∧ SeqAt.shaped (.tuple ds) = true ∧ Q (.bl (ds.any fun z => PyData.eqv z d)) H
theorem op_inT (hu : X.A.units + 66 < cLine) : OpR X (compareOp .In) (rInT X.K) := by
  intro pins s σ H x y v u Q I rx ry h
  obtain ⟨d, ds, hd, he, sd, se, q⟩ := h
  obtain ⟨as, r1⟩ := Dp.reads I d x v hd rx
  obtain ⟨bs, r2⟩ := Dp.reads I (.tuple ds) y u he ry
  have dd : d.depth ≤ 64 := by
    have h' : (d.canLay0 && decide (d.depth ≤ 64)) = true := sd
    rw [Bool.and_eq_true] at h'
    exact of_decide_eq_true h'.2
  have cs : PyData.canLayAll0 ds = true := by
    have := SeqAt.canLay_of_shaped se
    simpa [PyData.canLay0] using this
  exact SeqAt.in_tuple_reads r2 r1 cs (SeqAt.canLay_of_shaped sd) (by have := Nat.min_le_right (PyData.depthAll ds) d.depth; omega) ⟨.bl _, H, I, rfl, q⟩
theorem any_range (bs : List Bool) : (List.range bs.length).any (fun i => bs.getD i false) = bs.any id := by
  rw [Bool.eq_iff_iff, List.any_eq_true, List.any_eq_true]
  constructor
  · rintro ⟨i, hi, e⟩
    have hi' : i < bs.length := List.mem_range.mp hi
    refine ⟨bs[i], List.getElem_mem hi', ?_⟩
    simpa [List.getD, hi'] using e
  · rintro ⟨b, hb, e⟩
    obtain ⟨i, hi, rfl⟩ := List.getElem_of_mem hb
    exact ⟨i, List.mem_range.mpr hi, by simpa [List.getD, hi] using e⟩
/-- any(e), e a list of truths -/
def rAnyB (K : PySem.W.Frag) : List V → Hp → VK → Prop := fun xs H Q => ∃ (p : Addr) (bs : List Bool), xs = [.ref p] ∧ SqL K H p (bs.map V.bl) ∧ Q (.bl (bs.any id)) H
theorem call_anyB (hd : X.A.handled = none) : CallR X (.builtin "any") (rAnyB X.K) := by
  intro pins s σ H xs us Q I r h
  obtain ⟨p, bs, rfl, hq, q⟩ := h
  obtain ⟨u, rfl, ru⟩ := vals1 r
  cases (show u = Value.ref p from ru)
  obtain ⟨its, rv, pl, hz⟩ := I.list hq
  have hp : p < s.heap.objs.size := by
    obtain ⟨o, n, z, _⟩ := pl
    exact Heap.lt_size z
  have tr : ∀ (i : Nat) (v : Value), its.toArray[i]? = some v → v = .bool (bs.getD i false) := by
    intro i v e
    have e' : its[i]? = some v := by simpa using e
    have hi : i < its.length := (List.getElem?_eq_some_iff.mp e').1
    have hl := rv.length
    have hb : i < bs.length := by
      rw [List.length_map] at hl
      omega
    obtain ⟨w', hw, rw'⟩ := rv.get (show (bs.map V.bl)[i]? = some (.bl bs[i]) by simp [hb])
    rw [e'] at hw
    cases Option.some.inj hw
    have : v = Value.bool bs[i] := rw'
    rw [this]
    simp [List.getD, hb]
  have nn : its.toArray.size = bs.length := by
    have hl := rv.length
    rw [List.length_map] at hl
    rw [List.size_toArray]
    exact hl.symm
  refine call_any_walk (wpAny_pyIter_list pl.isList ?_)
  refine ⟨s.heap.objs.size, _, _, _, _, _, fun i => bs.getD i false, rfl, Walks.list (A := X.A.in1) hd s.heap.objs.size p (Nat.ne_of_lt hp) its.toArray, ⟨⟨_, Heap.get?_push_size _ rfl, rfl, rfl⟩, ?_⟩, fun i v s' Q' E' hP hQ => ?_, fun h' tk hk => ?_⟩
  · exact pl.isList.at fun o e => Heap.get?_push_of_some _ e
  · rw [tr i v hP]
    exact wpAny_truthy_bool hQ
  · rw [nn, any_range]
    refine ⟨.bl _, H, I.kept (t' := tk) fun b o e => hk b o (fun z => ?_) (Heap.get?_push_of_some _ e), rfl, q⟩
    have z' : b = s.heap.objs.size := by simpa using z
    have lt : b < s.heap.objs.size := Heap.lt_size e
    rw [z'] at lt
    exact Nat.lt_irrefl _ lt
end
end Sb
set_option Elab.async false
set_option linter.all false
set_option maxRecDepth 100000
set_option maxHeartbeats 2000000
namespace Vl
open PySem PySem.Spec PyProof.Rows L2 Sb
/-- a value as data: what stands at addresses is held by value -/
inductive D where
  | non | bl (b : Bool) | int (i : Int) | str (s : Str)
  | tup (l : List D) | lst (l : List D)
  /-- a tuple that may be a written one: it is no key -/
  | ctup (l : List D)
  | ob (c : Str) (l : List D)
  | dk (ks : List Key) (l : List D) | dt (ks : List (List Key)) (l : List D)
  /-- a list of ints that is read alone (the script) -/
  | scr (ns : List Int)
  /-- an own class -/
  | cl (c : Str)
  /-- a part of a thing that is owned with it -/
  | bx (d : D)
  /-- a dict with keys of any depth -/
  | nk (ks l : List D)
  /-- an own exception, kept as a value -/
  | ex (c : Str) (l : List D)
mutual
/-- the key that data is -/
def D.key : D → Option NestedKey
  | .non => some .none
  | .int i => some (.num i)
  | .str s => some (.text s)
  | .tup l => (D.keys l).map .tup
  | .ctup l => (D.keys l).map .tup
  | _ => none
def D.keys : List D → Option (List NestedKey)
  | [] => some []
  | d :: l => (D.key d).bind fun k => (D.keys l).map (k :: ·)
end
/-- a tuple that is a key -/
def D.kt : D → Option NestedKey
  | .tup l => ((D.keys l).map NestedKey.tup).bind fun k => if k.depth ≤ 8 then some k else none
  | .ctup l => ((D.keys l).map NestedKey.tup).bind fun k => if k.depth ≤ 8 then some k else none
  | _ => none
/-- the entries of a dict with such keys -/
abbrev NEs := List (NestedKey × Addr × V)
/-- the one object of a dict with such keys -/
def NkObj (w : World) (a : Addr) (es : NEs) (h : Heap) : Prop :=
  es.length ≤ sizeLine ∧ (a == sysModules) = false ∧ ∃ xs : List (NestedKey × Addr × Value),
    Paired (fun (p : NestedKey × Addr × V) (q : NestedKey × Addr × Value) => p.1 = q.1 ∧ p.2.1 = q.2.1 ∧ RelV p.2.2 q.2.2) es xs ∧
    ∃ o os ep, h.get? a = some o ∧ o.ExactDict ∧ o.data = .dict os ep ∧ os.toList = xs.map (fun x => (⟨x.1.hash w, .ref x.2.1, x.2.2⟩ : DictEntry)) ∧ (xs.map (·.1)).Nodup
/-- the classes' addresses and their fields; the world -/
structure Ct where
  fn : Str → Option (Addr × List Str)
  w : World
instance : CoeFun Ct fun _ => Str → Option (Addr × List Str) := ⟨Ct.fn⟩
section
variable (K : PySem.W.Frag) (ct : Ct)
mutual
/-- v is d in the heap F -/
inductive Rp (F : Hp) : V → D → Prop
  | non : Rp F .non .non
  | bl (b : Bool) : Rp F (.bl b) (.bl b)
  | int (i : Int) : Rp F (.int i) (.int i)
  | str (s : Str) : Rp F (.str s) (.str s)
  | tup {a : Addr} {vs : List V} {l : List D} (h : F a = some (.tup vs)) (t : Rps F vs l) : Rp F (.ref a) (.tup l)
  | ctup {a : Addr} {vs : List V} {l : List D} (h : SqT K F a vs) (t : Rps F vs l) : Rp F (.ref a) (.ctup l)
  | lst {a : Addr} {vs : List V} {l : List D} (h : F a = some (.lst vs)) (t : Rps F vs l) : Rp F (.ref a) (.lst l)
  | ob {a C dx : Addr} {ns : List Str} {vs : List V} {c : Str} {l : List D} (hc : ct c = some (C, ns)) (hl : vs.length ≤ ns.length) (h : F a = some (.ins C dx (ns.zip vs))) (t : Rps F vs l) : Rp F (.ref a) (.ob c l)
  | dk {a : Addr} {ks : List Key} {vs : List V} {l : List D} (hl : ks.length = vs.length) (h : F a = some (.dK (ks.zip vs))) (t : Rps F vs l) : Rp F (.ref a) (.dk ks l)
  | dt {a : Addr} {ks : List (List Key)} {vs : List V} {l : List D} (hl : ks.length = vs.length) (h : F a = some (.dT (ks.zip vs))) (t : Rps F vs l) : Rp F (.ref a) (.dt ks l)
  | scr {a : Addr} {ns : List Int} (h : SqL K F a (ns.map V.int)) : Rp F (.ref a) (.scr ns)
  | cl {C : Addr} {ns : List Str} {c : Str} (hc : ct c = some (C, ns)) : Rp F (.ref C) (.cl c)
  | nk {a : Addr} {es : NEs} {vks vs : List V} {ks l : List D} (h : F a = some (.ext (NkObj ct.w a es))) (e1 : vks = es.map fun e => V.ref e.2.1) (e2 : vs = es.map (·.2.2)) (hk : ks.map D.kt = es.map fun e => some e.1) (tk : Rps F vks ks) (t : Rps F vs l) : Rp F (.ref a) (.nk ks l)
  | ex {a C dx : Addr} {ns : List Str} {vs : List V} {c : Str} {l : List D} (hc : ct c = some (C, ns)) (hl : vs.length = ns.length) (h : F a = some (exo a C (some dx))) (hd : F dx = some (exd dx (ns.zip vs))) (t : Rps F vs l) : Rp F (.ref a) (.ex c l)
  | ex0 {a C : Addr} {ns : List Str} {c : Str} (hc : ct c = some (C, ns)) (h : F a = some (exo a C none)) : Rp F (.ref a) (.ex c [])
inductive Rps (F : Hp) : List V → List D → Prop
  | nil : Rps F [] []
  | cons {v : V} {vs : List V} {d : D} {l : List D} (h : Rp F v d) (t : Rps F vs l) : Rps F (v :: vs) (d :: l)
end
end
section
variable {K : PySem.W.Frag} {ct : Ct} {F F' : Hp}
mutual
theorem Rp.mono (s : Same F F') : ∀ {v : V} {d : D}, Rp K ct F v d → Rp K ct F' v d
  | _, _, .non => .non
  | _, _, .bl b => .bl b
  | _, _, .int i => .int i
  | _, _, .str x => .str x
  | _, _, .tup a h => .tup (s _ _ a) (Rps.mono s h)
  | _, _, .ctup a h => .ctup (sqT_same s a) (Rps.mono s h)
  | _, _, .lst a h => .lst (s _ _ a) (Rps.mono s h)
  | _, _, .scr a => .scr (s.seq a)
  | _, _, .cl hc => .cl hc
  | _, _, .ob hc hl a h => .ob hc hl (s _ _ a) (Rps.mono s h)
  | _, _, .dk hl a h => .dk hl (s _ _ a) (Rps.mono s h)
  | _, _, .dt hl a h => .dt hl (s _ _ a) (Rps.mono s h)
  | _, _, .nk h e1 e2 hk tk t => .nk (s _ _ h) e1 e2 hk (Rps.mono s tk) (Rps.mono s t)
  | _, _, .ex hc hl h hd t => .ex hc hl (s _ _ h) (s _ _ hd) (Rps.mono s t)
  | _, _, .ex0 hc h => .ex0 hc (s _ _ h)
theorem Rps.mono (s : Same F F') : ∀ {vs : List V} {l : List D}, Rps K ct F vs l → Rps K ct F' vs l
  | _, _, .nil => .nil
  | _, _, .cons h t => .cons (Rp.mono s h) (Rps.mono s t)
end
theorem Rps.len : ∀ {vs : List V} {l : List D}, Rps K ct F vs l → vs.length = l.length
  | _, _, .nil => rfl
  | _, _, .cons _ t => by simp [Rps.len t]
theorem Rps.get : ∀ {vs : List V} {l : List D} {i : Nat} {v : V}, Rps K ct F vs l → vs[i]? = some v → ∃ d, l[i]? = some d ∧ Rp K ct F v d
  | _, _, _, _, .nil, e => by simp at e
  | _, _, 0, _, .cons h _, e => by
    simp at e
    subst e
    exact ⟨_, rfl, h⟩
  | _, _, i + 1, _, .cons _ t, e => by
    obtain ⟨d, h1, h2⟩ := Rps.get (i := i) t (by simpa using e)
    exact ⟨d, by simpa using h1, h2⟩
theorem Rps.get' : ∀ {vs : List V} {l : List D} {i : Nat} {d : D}, Rps K ct F vs l → l[i]? = some d → ∃ v, vs[i]? = some v ∧ Rp K ct F v d
  | _, _, _, _, .nil, e => by simp at e
  | _, _, 0, _, .cons h _, e => by
    simp at e
    subst e
    exact ⟨_, rfl, h⟩
  | _, _, i + 1, _, .cons _ t, e => by
    obtain ⟨v, h1, h2⟩ := Rps.get' (i := i) t (by simpa using e)
    exact ⟨v, by simpa using h1, h2⟩
theorem Rps.app : ∀ {vs ws : List V} {l m : List D}, Rps K ct F vs l → Rps K ct F ws m → Rps K ct F (vs ++ ws) (l ++ m)
  | _, _, _, _, .nil, s => s
  | _, _, _, _, .cons h t, s => .cons h (Rps.app t s)
theorem Rps.one {v : V} {d : D} (h : Rp K ct F v d) : Rps K ct F [v] [d] := .cons h .nil
theorem Rps.set {v : V} {d : D} (h : Rp K ct F v d) : ∀ {vs : List V} {l : List D} (i : Nat), Rps K ct F vs l → Rps K ct F (vs.set i v) (l.set i d)
  | _, _, _, .nil => .nil
  | _, _, 0, .cons _ t => .cons h t
  | _, _, i + 1, .cons g t => .cons g (Rps.set h i t)
theorem Rps.take : ∀ {vs : List V} {l : List D} (n : Nat), Rps K ct F vs l → Rps K ct F (vs.take n) (l.take n)
  | _, _, 0, _ => .nil
  | _, _, _ + 1, .nil => .nil
  | _, _, n + 1, .cons h t => .cons h (Rps.take n t)
theorem Rps.drop : ∀ {vs : List V} {l : List D} (n : Nat), Rps K ct F vs l → Rps K ct F (vs.drop n) (l.drop n)
  | _, _, 0, r => r
  | _, _, _ + 1, .nil => .nil
  | _, _, n + 1, .cons _ t => Rps.drop n t
end
mutual
def D.py : D → PyData
  | .non => .none
  | .bl b => .bool b
  | .int i => .int i
  | .str s => .str s
  | .tup l => .tuple (D.pyAll l)
  | .ctup l => .tuple (D.pyAll l)
  | .lst l => .list (D.pyAll l)
  | _ => .none
def D.pyAll : List D → List PyData
  | [] => []
  | d :: l => D.py d :: D.pyAll l
end
mutual
/-- no object, no dict within -/
def D.plain : D → Bool
  | .tup l => D.plainAll l
  | .ctup l => D.plainAll l
  | .lst l => D.plainAll l
  | .ob _ _ => false
  | .dk _ _ => false
  | .dt _ _ => false
  | .scr _ => false
  | .cl _ => false
  | .bx _ => false
  | .nk _ _ => false
  | .ex _ _ => false
  | _ => true
def D.plainAll : List D → Bool
  | [] => true
  | d :: l => D.plain d && D.plainAll l
end
section
variable {K : PySem.W.Frag} {ct : Ct} {F : Hp}
mutual
theorem Rp.dp : ∀ {v : V} {d : D}, Rp K ct F v d → d.plain = true → Dp K F v d.py
  | _, _, .non, _ => .non
  | _, _, .bl b, _ => .bl b
  | _, _, .int i, _ => .int i
  | _, _, .str x, _ => .str x
  | _, _, .tup a h, p => by
    simp only [D.py]
    exact .tup (SqT.of a) (Rps.dp h (by simpa only [D.plain] using p))
  | _, _, .ctup a h, p => by
    simp only [D.py]
    exact .tup a (Rps.dp h (by simpa only [D.plain] using p))
  | _, _, .lst a h, p => by
    simp only [D.py]
    exact .lst (SqL.of a) (Rps.dp h (by simpa only [D.plain] using p))
  | _, _, .ob _ _ _ _, p => by simp [D.plain] at p
  | _, _, .dk _ _ _, p => by simp [D.plain] at p
  | _, _, .ex _ _ _ _ _, p => by simp [D.plain] at p
  | _, _, .ex0 _ _, p => by simp [D.plain] at p
  | _, _, .dt _ _ _, p => by simp [D.plain] at p
  | _, _, .scr _, p => by simp [D.plain] at p
  | _, _, .cl _, p => by simp [D.plain] at p
  | _, _, .nk _ _ _ _ _ _, p => by simp [D.plain] at p
theorem Rps.dp : ∀ {vs : List V} {l : List D}, Rps K ct F vs l → D.plainAll l = true → DpAll K F vs (D.pyAll l)
  | _, _, .nil, _ => .nil
  | _, _, .cons h t, p => by
    simp only [D.plainAll, Bool.and_eq_true] at p
    exact .cons (Rp.dp h p.1) (Rps.dp t p.2)
end
end
open Classical in
noncomputable def off (S : Addr → Prop) (H : Hp) : Hp := fun a => if S a then none else H a
section
variable {S : Addr → Prop} {H H' : Hp} {a : Addr} {o : HO}
theorem off_inv (h : off S H a = some o) : ¬ S a ∧ H a = some o := by
  unfold off at h
  by_cases c : S a
  · rw [if_pos c] at h
    cases h
  · rw [if_neg c] at h
    exact ⟨c, h⟩
theorem off_at (n : ¬ S a) : off S H a = H a := by
  unfold off
  rw [if_neg n]
theorem off_le : Same (off S H) H := fun _ _ h => (off_inv h).2
theorem off_same (s : Same H H') : Same (off S H) (off S H') := fun _ _ h => by
  obtain ⟨n, e⟩ := off_inv h
  rw [off_at n]
  exact s _ _ e
end
/-- what is hidden, the address that a slot owns, and those of the parts of a tree that a slot owns -/
structure Gh where
  S : Addr → Prop
  r : Nat → Option Addr
  t : Nat → List Nat → Option Addr
/-- no slot's -/
def Gh.un (G : Gh) (p : Addr) : Prop := (∀ i, G.r i ≠ some p) ∧ ∀ i π, G.t i π ≠ some p
structure Mono (G : Gh) (H : Hp) (G' : Gh) (H' : Hp) : Prop where
  same : Same (off G.S H) (off G'.S H')
  tmp : ∀ p, G.S p → G.un p → G'.S p ∧ G'.un p ∧ H' p = H p
  dom : ∀ p, H p ≠ none → H' p ≠ none
theorem Mono.refl {G : Gh} {H : Hp} : Mono G H G H := ⟨Same.refl _, fun _ h n => ⟨h, n, rfl⟩, fun _ h => h⟩
theorem upd_dom {H : Hp} {a : Addr} {o : HO} : ∀ p, H p ≠ none → upd H a o p ≠ none := fun p h => by
  by_cases e : p = a
  · rw [e, upd_same]
    exact Option.some_ne_none _
  · rw [upd_ne e]
    exact h
theorem same_dom {H H' : Hp} (s : Same H H') : ∀ p, H p ≠ none → H' p ≠ none := fun p h => by
  cases e : H p with
  | none => exact absurd e h
  | some o =>
    rw [s _ _ e]
    exact Option.some_ne_none _
theorem Mono.trans {G G1 G2 : Gh} {H H1 H2 : Hp} (a : Mono G H G1 H1) (b : Mono G1 H1 G2 H2) : Mono G H G2 H2 :=
  ⟨a.same.trans b.same, fun p h n => by
    obtain ⟨h1, n1, e1⟩ := a.tmp p h n
    obtain ⟨h2, n2, e2⟩ := b.tmp p h1 n1
    exact ⟨h2, n2, e2.trans e1⟩, fun p h => b.dom p (a.dom p h)⟩
theorem Mono.grow {G : Gh} {H H' : Hp} (l : ∀ a, G.S a → H a ≠ none) (s : Same H H') : Mono G H G H' :=
  ⟨off_same s, fun p h n => ⟨h, n, by
    cases e : H p with
    | none => exact absurd e (l p h)
    | some o => exact s _ _ e⟩, same_dom s⟩
/-- at a the owned thing d; its parts are in F -/
def OwnAt (K : PySem.W.Frag) (ct : Ct) (H F : Hp) (a : Addr) : D → Prop
  | .lst l => ∃ vs, H a = some (.lst vs) ∧ Rps K ct F vs l
  | .dk ks l => ∃ vs, ks.length = vs.length ∧ H a = some (.dK (ks.zip vs)) ∧ Rps K ct F vs l
  | .dt ks l => ∃ vs, ks.length = vs.length ∧ H a = some (.dT (ks.zip vs)) ∧ Rps K ct F vs l
  | .ob c l => ∃ C dx ns vs, ct c = some (C, ns) ∧ vs.length ≤ ns.length ∧ H a = some (.ins C dx (ns.zip vs)) ∧ Rps K ct F vs l
  | .nk ks l => ∃ es : NEs, H a = some (.ext (NkObj ct.w a es)) ∧ ks.map D.kt = es.map (fun e => some e.1) ∧ Rps K ct F (es.map fun e => V.ref e.2.1) ks ∧ Rps K ct F (es.map (·.2.2)) l
  | _ => False
theorem OwnAt.mono {K : PySem.W.Frag} {ct : Ct} {H H' F F' : Hp} {a : Addr} {d : D} (h : OwnAt K ct H F a d) (e : H' a = H a) (s : Same F F') : OwnAt K ct H' F' a d := by
  cases d with
  | lst l =>
    obtain ⟨vs, h1, h2⟩ := h
    exact ⟨vs, e.trans h1, h2.mono s⟩
  | dk ks l =>
    obtain ⟨vs, h0, h1, h2⟩ := h
    exact ⟨vs, h0, e.trans h1, h2.mono s⟩
  | dt ks l =>
    obtain ⟨vs, h0, h1, h2⟩ := h
    exact ⟨vs, h0, e.trans h1, h2.mono s⟩
  | ob c l =>
    obtain ⟨C, dx, ns, vs, h0, h3, h1, h2⟩ := h
    exact ⟨C, dx, ns, vs, h0, h3, e.trans h1, h2.mono s⟩
  | nk ks l =>
    obtain ⟨es, h1, h2, h3, h4⟩ := h
    exact ⟨es, e.trans h1, h2, h3.mono s, h4.mono s⟩
  | _ => exact h.elim
theorem OwnAt.some {K : PySem.W.Frag} {ct : Ct} {H F : Hp} {a : Addr} {d : D} (h : OwnAt K ct H F a d) : H a ≠ none := by
  cases d with
  | lst l =>
    obtain ⟨vs, h1, h2⟩ := h
    rw [h1]
    exact Option.some_ne_none _
  | dk ks l =>
    obtain ⟨vs, h0, h1, h2⟩ := h
    rw [h1]
    exact Option.some_ne_none _
  | dt ks l =>
    obtain ⟨vs, h0, h1, h2⟩ := h
    rw [h1]
    exact Option.some_ne_none _
  | ob c l =>
    obtain ⟨C, dx, ns, vs, h0, h3, h1, h2⟩ := h
    rw [h1]
    exact Option.some_ne_none _
  | nk ks l =>
    obtain ⟨es, h1, h2⟩ := h
    rw [h1]
    exact Option.some_ne_none _
  | _ => exact h.elim
/-- an owned thing that is no longer hidden -/
theorem OwnAt.rp {K : PySem.W.Frag} {ct : Ct} {H F : Hp} {a : Addr} {d : D} (h : OwnAt K ct H F a d) (e : F a = H a) : Rp K ct F (.ref a) d := by
  cases d with
  | lst l =>
    obtain ⟨vs, h1, h2⟩ := h
    exact .lst (e.trans h1) h2
  | dk ks l =>
    obtain ⟨vs, h0, h1, h2⟩ := h
    exact .dk h0 (e.trans h1) h2
  | dt ks l =>
    obtain ⟨vs, h0, h1, h2⟩ := h
    exact .dt h0 (e.trans h1) h2
  | ob c l =>
    obtain ⟨C, dx, ns, vs, h0, h3, h1, h2⟩ := h
    exact .ob h0 h3 (e.trans h1) h2
  | nk ks l =>
    obtain ⟨es, h1, h2, h3, h4⟩ := h
    exact .nk (e.trans h1) rfl rfl h2 h3 h4
  | _ => exact h.elim
section
variable (K : PySem.W.Frag) (ct : Ct) (H F : Hp) (r : List Nat → Option Addr)
mutual
/-- at the path π (the last step first) stands the owned tree d; what is not boxed is shared -/
inductive TrAt : List Nat → D → Prop
  | lst {π : List Nat} {a : Addr} {vs : List V} {l : List D} (h0 : r π = some a) (h : H a = some (.lst vs)) (t : TrsAt π 0 vs l) : TrAt π (.lst l)
  | dk {π : List Nat} {a : Addr} {ks : List Key} {vs : List V} {l : List D} (h0 : r π = some a) (hl : ks.length = vs.length) (h : H a = some (.dK (ks.zip vs))) (t : TrsAt π 0 vs l) : TrAt π (.dk ks l)
  | dt {π : List Nat} {a : Addr} {ks : List (List Key)} {vs : List V} {l : List D} (h0 : r π = some a) (hl : ks.length = vs.length) (h : H a = some (.dT (ks.zip vs))) (t : TrsAt π 0 vs l) : TrAt π (.dt ks l)
  | ob {π : List Nat} {a C dx : Addr} {ns : List Str} {vs : List V} {c : Str} {l : List D} (h0 : r π = some a) (hc : ct c = some (C, ns)) (hl : vs.length ≤ ns.length) (h : H a = some (.ins C dx (ns.zip vs))) (t : TrsAt π 0 vs l) : TrAt π (.ob c l)
  | nk {π : List Nat} {a : Addr} {es : NEs} {vks vs : List V} {ks l : List D} (h0 : r π = some a) (h : H a = some (.ext (NkObj ct.w a es))) (e1 : vks = es.map fun e => V.ref e.2.1) (e2 : vs = es.map (·.2.2)) (hk : ks.map D.kt = es.map fun e => some e.1) (tk : Rps K ct F vks ks) (t : TrsAt π 0 vs l) : TrAt π (.nk ks l)
inductive TrsAt : List Nat → Nat → List V → List D → Prop
  | nil {π : List Nat} {j : Nat} : TrsAt π j [] []
  | sh {π : List Nat} {j : Nat} {v : V} {vs : List V} {d : D} {l : List D} (h : Rp K ct F v d) (t : TrsAt π (j + 1) vs l) : TrsAt π j (v :: vs) (d :: l)
  | bx {π : List Nat} {j : Nat} {b : Addr} {vs : List V} {d : D} {l : List D} (h0 : r (j :: π) = some b) (h : TrAt (j :: π) d) (t : TrsAt π (j + 1) vs l) : TrsAt π j (.ref b :: vs) (.bx d :: l)
end
end
section
variable {K : PySem.W.Frag} {ct : Ct} {H H' F F' : Hp} {r r' : List Nat → Option Addr} {P : List Nat → Prop}
mutual
theorem TrAt.keep (hP : ∀ π j, P π → P (j :: π)) (hH : ∀ π a, P π → r π = some a → r' π = some a ∧ H' a = H a) (s : Same F F') : ∀ {π : List Nat} {d : D}, P π → TrAt K ct H F r π d → TrAt K ct H' F' r' π d
  | _, _, hp, .lst h0 h t => .lst (hH _ _ hp h0).1 ((hH _ _ hp h0).2.trans h) (TrsAt.keep hP hH s hp t)
  | _, _, hp, .dk h0 hl h t => .dk (hH _ _ hp h0).1 hl ((hH _ _ hp h0).2.trans h) (TrsAt.keep hP hH s hp t)
  | _, _, hp, .dt h0 hl h t => .dt (hH _ _ hp h0).1 hl ((hH _ _ hp h0).2.trans h) (TrsAt.keep hP hH s hp t)
  | _, _, hp, .ob h0 hc hl h t => .ob (hH _ _ hp h0).1 hc hl ((hH _ _ hp h0).2.trans h) (TrsAt.keep hP hH s hp t)
  | _, _, hp, .nk h0 h e1 e2 hk tk t => .nk (hH _ _ hp h0).1 ((hH _ _ hp h0).2.trans h) e1 e2 hk (tk.mono s) (TrsAt.keep hP hH s hp t)
theorem TrsAt.keep (hP : ∀ π j, P π → P (j :: π)) (hH : ∀ π a, P π → r π = some a → r' π = some a ∧ H' a = H a) (s : Same F F') : ∀ {π : List Nat} {j : Nat} {vs : List V} {l : List D}, P π → TrsAt K ct H F r π j vs l → TrsAt K ct H' F' r' π j vs l
  | _, _, _, _, _, .nil => .nil
  | _, _, _, _, hp, .sh h t => .sh (h.mono s) (TrsAt.keep hP hH s hp t)
  | _, _, _, _, hp, .bx h0 h t => .bx (hH _ _ (hP _ _ hp) h0).1 (TrAt.keep hP hH s (hP _ _ hp) h) (TrsAt.keep hP hH s hp t)
end
theorem TrAt.same (hH : ∀ π a, r π = some a → H' a = H a) (s : Same F F') {π : List Nat} {d : D} (h : TrAt K ct H F r π d) : TrAt K ct H' F' r π d :=
  TrAt.keep (P := fun _ => True) (fun _ _ h => h) (fun π a _ h => ⟨h, hH π a h⟩) s trivial h
theorem TrAt.root {π : List Nat} {d : D} (h : TrAt K ct H F r π d) : ∃ a, r π = some a ∧ H a ≠ none := by
  cases h with
  | lst h0 h t => exact ⟨_, h0, by rw [h]; exact Option.some_ne_none _⟩
  | dk h0 hl h t => exact ⟨_, h0, by rw [h]; exact Option.some_ne_none _⟩
  | dt h0 hl h t => exact ⟨_, h0, by rw [h]; exact Option.some_ne_none _⟩
  | ob h0 hc hl h t => exact ⟨_, h0, by rw [h]; exact Option.some_ne_none _⟩
  | nk h0 h e1 e2 hk tk t => exact ⟨_, h0, by rw [h]; exact Option.some_ne_none _⟩
end
inductive Slot where
  | un | sh (d : D) | ow (d : D) | io (d : D)
  /-- a tree; b: a parameter's -/
  | tr (b : Bool) (d : D)
structure Bs where
  ct : Ct
  io : Nat → Option Addr
  H0 : Hp
  it : Nat → List Nat → Option Addr
/-- without tables: nothing that is only looked at makes a lambda -/
abbrev Bs.nt (B : Bs) : Bs := ⟨B.ct, B.io, B.H0, fun _ _ => none⟩
/-- the index of no slot: there stand the tables of code objects, each at the path that its name spells -/
abbrev ph : Nat := 4000
abbrev enc (q : Str) : List Nat := q.cps.toList
theorem enc_inj {q r : Str} (h : enc q = enc r) : q = r := by
  obtain ⟨⟨a⟩⟩ := q
  obtain ⟨⟨b⟩⟩ := r
  have h : a = b := h
  rw [h]
/-- the table at P: its code objects are seen, and bear the name q -/
def TabG (F H : Hp) (P : Addr) (q : Str) : Prop := ∃ ps : Array Value, H P = some (.tbl ps) ∧ TriplesOk ps.toList ∧ ∀ (pos : Pos) (cv : Value), codeAmong pos ps.toList = some cv → ∃ c, cv = .ref c ∧ F c = some (LamX.CodeO c q)
theorem TabG.keep {F F' H H' : Hp} {P : Addr} {q : Str} (t : TabG F H P q) (e : H' P = H P) (s : ∀ c, F c = some (LamX.CodeO c q) → F' c = some (LamX.CodeO c q)) : TabG F' H' P q := by
  obtain ⟨ps, h1, h2, h3⟩ := t
  refine ⟨ps, e.trans h1, h2, fun pos cv h => ?_⟩
  obtain ⟨c, e1, e2⟩ := h3 pos cv h
  exact ⟨c, e1, s c e2⟩
theorem TabG.mono {F F' H H' : Hp} {P : Addr} {q : Str} (t : TabG F H P q) (e : H' P = H P) (s : Same F F') : TabG F' H' P q := t.keep e fun _ h => s _ _ h
/-- the trees of the slots -/
structure Trees (K : PySem.W.Frag) (B : Bs) (G : Gh) (env : List Slot) (σ : L2.St) (H : Hp) : Prop where
  at_ : ∀ (i : Nat) (b : Bool) (d : D), env[i]? = some (.tr b d) → ∃ a, G.t i [] = some a ∧ σ[i]? = some (some (.ref a)) ∧ TrAt K B.ct H (off G.S H) (G.t i) [] d
  hid : ∀ (i : Nat) (π : List Nat) (a : Addr), G.t i π = some a → G.S a
  inj : ∀ (i : Nat) (π : List Nat) (j : Nat) (ρ : List Nat) (a : Addr), G.t i π = some a → G.t j ρ = some a → i = j ∧ π = ρ
  far : ∀ (i : Nat) (π : List Nat) (j : Nat) (a : Addr), G.t i π = some a → G.r j ≠ some a
  io : ∀ (i : Nat) (d : D), env[i]? = some (.tr true d) → G.t i [] = B.it i []
  new : ∀ (i : Nat) (π : List Nat) (a : Addr) (b : Bool) (d : D), env[i]? = some (.tr b d) → G.t i π = some a → B.H0 a = none ∨ (b = true ∧ ∃ ρ, B.it i ρ = some a)
  tab : ∀ (q : Str) (P : Addr), B.it ph (enc q) = some P → (∀ (b : Bool) (d : D), env[ph]? ≠ some (.tr b d)) ∧ G.t ph (enc q) = some P ∧ TabG (off G.S H) H P q
/-- a slot with a tree is not where the tables stand -/
theorem Trees.off_ph {K : PySem.W.Frag} {B : Bs} {G : Gh} {env : List Slot} {σ : L2.St} {H : Hp} {q : Str} {P : Addr} {i : Nat} {b : Bool} {d : D} (T : Trees K B G env σ H) (hq : B.it ph (enc q) = some P) (he : env[i]? = some (.tr b d)) : i ≠ ph := fun z => (T.tab q P hq).1 b d (z ▸ he)
theorem Trees.keep {K : PySem.W.Frag} {B : Bs} {G G' : Gh} {env env' : List Slot} {σ σ' : L2.St} {H H' : Hp} (T : Trees K B G env σ H) (ht : G'.t = G.t) (hS : ∀ (i : Nat) (π : List Nat) (a : Addr), G.t i π = some a → G'.S a ∧ H' a = H a ∧ ∀ j, G'.r j ≠ some a) (s : Same (off G.S H) (off G'.S H'))
    (he : ∀ (i : Nat) (b : Bool) (d : D), env'[i]? = some (.tr b d) → env[i]? = some (.tr b d) ∧ σ'[i]? = σ[i]?) : Trees K B G' env' σ' H' := by
  refine ⟨fun i b d e => ?_, fun i π a h => ?_, fun i π j ρ a h1 h2 => ?_, fun i π j a h => ?_, fun i d e => ?_, fun i π a b d e h => ?_, fun q P hq => ?_⟩
  · obtain ⟨e1, e2⟩ := he i b d e
    obtain ⟨a, h1, h2, h3⟩ := T.at_ i b d e1
    refine ⟨a, by rw [ht]; exact h1, e2.trans h2, ?_⟩
    rw [ht]
    exact h3.same (fun π a h => (hS i π a h).2.1) s
  · rw [ht] at h
    exact (hS i π a h).1
  · rw [ht] at h1 h2
    exact T.inj i π j ρ a h1 h2
  · rw [ht] at h
    exact (hS i π a h).2.2 j
  · rw [ht]
    exact T.io i d (he i true d e).1
  · rw [ht] at h
    exact T.new i π a b d (he i b d e).1 h
  · obtain ⟨n, h1, h2⟩ := T.tab q P hq
    exact ⟨fun b d e => n b d (he ph b d e).1, by rw [ht]; exact h1, h2.mono (hS ph _ P h1).2.1 s⟩
/-- the slots hold env -/
structure Cfg (K : PySem.W.Frag) (B : Bs) (G : Gh) (env : List Slot) (σ : L2.St) (H : Hp) : Prop where
  len : env.length = σ.length
  sh : ∀ (i : Nat) (d : D), env[i]? = some (.sh d) → ∃ v, σ[i]? = some (some v) ∧ Rp K B.ct (off G.S H) v d
  ow : ∀ (i : Nat) (d : D), env[i]? = some (.ow d) → ∃ a, G.r i = some a ∧ σ[i]? = some (some (.ref a)) ∧ OwnAt K B.ct H (off G.S H) a d
  io : ∀ (i : Nat) (d : D), env[i]? = some (.io d) → ∃ a, G.r i = some a ∧ B.io i = some a ∧ σ[i]? = some (some (.ref a)) ∧ OwnAt K B.ct H (off G.S H) a d
  hid : ∀ (i : Nat) (a : Addr), G.r i = some a → G.S a
  inj : ∀ (i j : Nat) (a : Addr), G.r i = some a → G.r j = some a → i = j
  live : ∀ (a : Addr), G.S a → H a ≠ none
  frs : ∀ (i : Nat) (d : D) (a : Addr), env[i]? = some (.ow d) → G.r i = some a → B.H0 a = none
  dom0 : ∀ (a : Addr), B.H0 a ≠ none → H a ≠ none
  trs : Trees K B G env σ H
section
variable {K : PySem.W.Frag} {B : Bs} {G : Gh} {env : List Slot} {σ : L2.St} {H H' : Hp}
theorem Cfg.same (c : Cfg K B G env σ H) (s : Same H H') : Cfg K B G env σ H' := by
  have keep : ∀ a, G.S a → H' a = H a := fun a h => by
    cases e : H a with
    | none => exact absurd e (c.live a h)
    | some o => exact s _ _ e
  refine ⟨c.len, fun i d e => ?_, fun i d e => ?_, fun i d e => ?_, c.hid, c.inj, fun a h => by rw [keep a h]; exact c.live a h, c.frs, fun a h => same_dom s a (c.dom0 a h), c.trs.keep rfl (fun i π a h => ⟨c.trs.hid i π a h, keep a (c.trs.hid i π a h), fun j => c.trs.far i π j a h⟩) (off_same s) fun i b d e => ⟨e, rfl⟩⟩
  · obtain ⟨v, h1, h2⟩ := c.sh i d e
    exact ⟨v, h1, h2.mono (off_same s)⟩
  · obtain ⟨a, h1, h2, h3⟩ := c.ow i d e
    exact ⟨a, h1, h2, h3.mono (keep a (c.hid i a h1)) (off_same s)⟩
  · obtain ⟨a, h1, h0, h2, h3⟩ := c.io i d e
    exact ⟨a, h1, h0, h2, h3.mono (keep a (c.hid i a h1)) (off_same s)⟩
theorem Cfg.mono (c : Cfg K B G env σ H) (s : Same H H') : Mono G H G H' := Mono.grow c.live s
/-- slot i is forgotten, and what it owned is hidden no more -/
def Gh.free (G : Gh) (i : Nat) (a : Addr) : Gh := ⟨fun c => G.S c ∧ c ≠ a, fun j => if j = i then none else G.r j, G.t⟩
theorem Mono.free {i : Nat} {a : Addr} (h : G.r i = some a) (hid : ∀ i a, G.r i = some a → G.S a) (inj : ∀ i j a, G.r i = some a → G.r j = some a → i = j) : Mono G H (G.free i a) H :=
  ⟨fun c o e => by
    obtain ⟨n, e⟩ := off_inv e
    rw [off_at fun z => n z.1]
    exact e, fun p hp n => ⟨⟨hp, fun z => n.1 i (by rw [z]; exact h)⟩, ⟨fun j z => by
      have z' : (if j = i then none else G.r j) = some p := z
      by_cases e : j = i
      · rw [if_pos e] at z'
        cases z'
      · rw [if_neg e] at z'
        exact n.1 j z', n.2⟩, rfl⟩, fun _ h => h⟩
theorem set_get {env : List Slot} {i j : Nat} {s t : Slot} (h : (env.set i s)[j]? = some t) : (i = j ∧ s = t ∧ i < env.length) ∨ (i ≠ j ∧ env[j]? = some t) := by
  by_cases e : i = j
  · subst e
    have hl : i < env.length := by
      have := (List.getElem?_eq_some_iff.mp h).1
      simpa using this
    rw [List.getElem?_set_self hl] at h
    exact .inl ⟨rfl, Option.some.inj h, hl⟩
  · rw [List.getElem?_set_ne e] at h
    exact .inr ⟨e, h⟩
theorem Cfg.freeze {i : Nat} {d : D} (c : Cfg K B G env σ H) (e : env[i]? = some (.ow d)) : ∃ a, G.r i = some a ∧ σ[i]? = some (some (.ref a)) ∧ Mono G H (G.free i a) H ∧ Cfg K B (G.free i a) (env.set i (.sh d)) σ H ∧ Rp K B.ct (off (G.free i a).S H) (.ref a) d := by
  obtain ⟨a, h1, h2, h3⟩ := c.ow i d e
  have m : Mono G H (G.free i a) H := Mono.free h1 c.hid c.inj
  have hr : Rp K B.ct (off (G.free i a).S H) (.ref a) d := (h3.mono rfl m.same).rp (off_at fun z => z.2 rfl)
  refine ⟨a, h1, h2, m, ⟨by rw [List.length_set]; exact c.len, fun j d' ej => ?_, fun j d' ej => ?_, fun j d' ej => ?_, fun j b z => ?_, fun j k b z1 z2 => ?_, fun b z => c.live b z.1, fun j d' b ej z => ?_, c.dom0, ?_⟩, hr⟩
  · rcases set_get ej with ⟨rfl, z, _⟩ | ⟨_, z⟩
    · cases z
      exact ⟨_, h2, hr⟩
    · obtain ⟨v, g1, g2⟩ := c.sh j d' z
      exact ⟨v, g1, g2.mono m.same⟩
  · rcases set_get ej with ⟨rfl, z, _⟩ | ⟨n, z⟩
    · cases z
    · obtain ⟨b, g1, g2, g3⟩ := c.ow j d' z
      exact ⟨b, by show (if j = i then none else G.r j) = some b; rw [if_neg (Ne.symm n)]; exact g1, g2, g3.mono rfl m.same⟩
  · rcases set_get ej with ⟨rfl, z, _⟩ | ⟨n, z⟩
    · cases z
    · obtain ⟨b, g1, g0, g2, g3⟩ := c.io j d' z
      exact ⟨b, by show (if j = i then none else G.r j) = some b; rw [if_neg (Ne.symm n)]; exact g1, g0, g2, g3.mono rfl m.same⟩
  · have z' : (if j = i then none else G.r j) = some b := z
    by_cases ej : j = i
    · rw [if_pos ej] at z'
      cases z'
    · rw [if_neg ej] at z'
      refine ⟨c.hid j b z', fun eb => ej ?_⟩
      subst eb
      exact c.inj j i b z' h1
  · have z1' : (if j = i then none else G.r j) = some b := z1
    have z2' : (if k = i then none else G.r k) = some b := z2
    by_cases ej : j = i
    · rw [if_pos ej] at z1'
      cases z1'
    · by_cases ek : k = i
      · rw [if_pos ek] at z2'
        cases z2'
      · rw [if_neg ej] at z1'
        rw [if_neg ek] at z2'
        exact c.inj j k b z1' z2'
  · have z' : (if j = i then none else G.r j) = some b := z
    rcases set_get ej with ⟨rfl, q, _⟩ | ⟨n, q⟩
    · cases q
    · rw [if_neg (Ne.symm n)] at z'
      exact c.frs j d' b q z'
  · refine c.trs.keep rfl (fun j π b h => ⟨⟨c.trs.hid j π b h, fun z => c.trs.far j π i b h (by rw [z]; exact h1)⟩, rfl, fun k z => ?_⟩) m.same fun j b d' ej => ?_
    · have z' : (if k = i then none else G.r k) = some b := z
      by_cases ek : k = i
      · rw [if_pos ek] at z'
        cases z'
      · rw [if_neg ek] at z'
        exact c.trs.far j π k b h z'
    · rcases set_get ej with ⟨_, q, _⟩ | ⟨_, q⟩
      · cases q
      · exact ⟨q, rfl⟩
/-- a slot that is no parameter of both ways is given a value -/
theorem Cfg.put {i : Nat} {v : V} {d : D} (c : Cfg K B G env σ H) (r : Rp K B.ct (off G.S H) v d) : Cfg K B G (env.set i (.sh d)) (σ.set i (some v)) H := by
  have ne : ∀ {j : Nat} {x : Option V}, i ≠ j → σ[j]? = some x → (σ.set i (some v))[j]? = some x := fun n h => by rw [List.getElem?_set_ne n]; exact h
  refine ⟨by simp [c.len], fun j d' ej => ?_, fun j d' ej => ?_, fun j d' ej => ?_, c.hid, c.inj, c.live, fun j d' b ej z => ?_, c.dom0, c.trs.keep rfl (fun j π a h => ⟨c.trs.hid j π a h, rfl, fun k => c.trs.far j π k a h⟩) (Same.refl _) fun j b d' ej => ?_⟩
  · rcases set_get ej with ⟨rfl, z, l⟩ | ⟨n, z⟩
    · cases z
      exact ⟨v, List.getElem?_set_self (by rw [← c.len]; exact l), r⟩
    · obtain ⟨w, g1, g2⟩ := c.sh j d' z
      exact ⟨w, ne n g1, g2⟩
  · rcases set_get ej with ⟨rfl, z, _⟩ | ⟨n, z⟩
    · cases z
    · obtain ⟨b, g1, g2, g3⟩ := c.ow j d' z
      exact ⟨b, g1, ne n g2, g3⟩
  · rcases set_get ej with ⟨rfl, z, _⟩ | ⟨n, z⟩
    · cases z
    · obtain ⟨b, g1, g0, g2, g3⟩ := c.io j d' z
      exact ⟨b, g1, g0, ne n g2, g3⟩
  · rcases set_get ej with ⟨rfl, q, _⟩ | ⟨n, q⟩
    · cases q
    · exact c.frs j d' b q z
  · rcases set_get ej with ⟨_, q, _⟩ | ⟨n, q⟩
    · cases q
    · exact ⟨q, List.getElem?_set_ne n⟩
/-- a slot gets a new object of its own -/
def Gh.take (G : Gh) (i : Nat) (p : Addr) : Gh := ⟨fun c => G.S c ∨ c = p, fun j => if j = i then some p else G.r j, G.t⟩
theorem Mono.take {i : Nat} {p : Addr} {o : HO} (hp : H p = none) (live : ∀ a, G.S a → H a ≠ none) : Mono G H (G.take i p) (upd H p o) :=
  ⟨fun c u e => by
    obtain ⟨n, e⟩ := off_inv e
    have ne : c ≠ p := fun z => by
      rw [z, hp] at e
      cases e
    rw [off_at (show ¬ (G.S c ∨ c = p) from fun z => z.elim n ne), upd_ne ne]
    exact e, fun q hq n => by
      have ne : q ≠ p := fun z => live q hq (by rw [z]; exact hp)
      refine ⟨.inl hq, ⟨fun j z => ?_, n.2⟩, by rw [upd_ne ne]⟩
      have z' : (if j = i then some p else G.r j) = some q := z
      by_cases e : j = i
      · rw [if_pos e] at z'
        exact ne (Option.some.inj z').symm
      · rw [if_neg e] at z'
        exact n.1 j z', upd_dom⟩
theorem Cfg.take {i : Nat} {p : Addr} {o : HO} {d : D} (c : Cfg K B G env σ H) (hp : H p = none) (h : OwnAt K B.ct (upd H p o) (off G.S H) p d) : Cfg K B (G.take i p) (env.set i (.ow d)) (σ.set i (some (.ref p))) (upd H p o) := by
  have m : Mono G H (G.take i p) (upd H p o) := Mono.take hp c.live
  have ne : ∀ {j : Nat} {x : Option V}, i ≠ j → σ[j]? = some x → (σ.set i (some (.ref p)))[j]? = some x := fun n h => by rw [List.getElem?_set_ne n]; exact h
  have neS : ∀ {a : Addr}, G.S a → a ≠ p := fun h z => c.live _ h (by rw [z]; exact hp)
  refine ⟨by simp [c.len], fun j d' ej => ?_, fun j d' ej => ?_, fun j d' ej => ?_, fun j b z => ?_, fun j k b z1 z2 => ?_, fun b z => ?_, fun j d' b ej z => ?_, fun b z => upd_dom b (c.dom0 b z), c.trs.keep rfl (fun j π a h => ⟨.inl (c.trs.hid j π a h), upd_ne (neS (c.trs.hid j π a h)), fun k z => ?_⟩) m.same fun j b d' ej => ?_⟩
  · rcases set_get ej with ⟨rfl, z, l⟩ | ⟨n, z⟩
    · cases z
    · obtain ⟨w, g1, g2⟩ := c.sh j d' z
      exact ⟨w, ne n g1, g2.mono m.same⟩
  · rcases set_get ej with ⟨rfl, z, l⟩ | ⟨n, z⟩
    · cases z
      exact ⟨p, if_pos rfl, List.getElem?_set_self (by rw [← c.len]; exact l), h.mono rfl m.same⟩
    · obtain ⟨b, g1, g2, g3⟩ := c.ow j d' z
      exact ⟨b, by show (if j = i then some p else G.r j) = some b; rw [if_neg (Ne.symm n)]; exact g1, ne n g2, g3.mono (upd_ne (neS (c.hid j b g1))) m.same⟩
  · rcases set_get ej with ⟨rfl, z, _⟩ | ⟨n, z⟩
    · cases z
    · obtain ⟨b, g1, g0, g2, g3⟩ := c.io j d' z
      exact ⟨b, by show (if j = i then some p else G.r j) = some b; rw [if_neg (Ne.symm n)]; exact g1, g0, ne n g2, g3.mono (upd_ne (neS (c.hid j b g1))) m.same⟩
  · have z' : (if j = i then some p else G.r j) = some b := z
    by_cases ej : j = i
    · rw [if_pos ej] at z'
      exact .inr (Option.some.inj z').symm
    · rw [if_neg ej] at z'
      exact .inl (c.hid j b z')
  · have z1' : (if j = i then some p else G.r j) = some b := z1
    have z2' : (if k = i then some p else G.r k) = some b := z2
    by_cases ej : j = i
    · by_cases ek : k = i
      · rw [ej, ek]
      · rw [if_pos ej] at z1'
        rw [if_neg ek] at z2'
        exact absurd (Option.some.inj z1').symm (neS (c.hid k b z2'))
    · rw [if_neg ej] at z1'
      by_cases ek : k = i
      · rw [if_pos ek] at z2'
        exact absurd (Option.some.inj z2').symm (neS (c.hid j b z1'))
      · rw [if_neg ek] at z2'
        exact c.inj j k b z1' z2'
  · by_cases e : b = p
    · rw [e, upd_same]
      exact Option.some_ne_none _
    · rw [upd_ne e]
      exact c.live b (z.elim id fun q => absurd q e)
  · have z' : (if j = i then some p else G.r j) = some b := z
    rcases set_get ej with ⟨rfl, q, _⟩ | ⟨n, q⟩
    · rw [if_pos rfl] at z'
      cases z'
      cases e0 : B.H0 p with
      | none => rfl
      | some u => exact absurd hp (c.dom0 p (by rw [e0]; exact Option.some_ne_none _))
    · rw [if_neg (Ne.symm n)] at z'
      exact c.frs j d' b q z'
  · have z' : (if k = i then some p else G.r k) = some a := z
    by_cases ek : k = i
    · rw [if_pos ek] at z'
      exact neS (c.trs.hid j π a h) (Option.some.inj z').symm
    · rw [if_neg ek] at z'
      exact c.trs.far j π k a h z'
  · rcases set_get ej with ⟨_, q, _⟩ | ⟨n, q⟩
    · cases q
    · exact ⟨q, List.getElem?_set_ne n⟩
/-- an owned thing is changed -/
theorem Mono.chg {i : Nat} {a : Addr} {o : HO} (h : G.r i = some a) (hs : G.S a) : Mono G H G (upd H a o) :=
  ⟨fun c u e => by
    obtain ⟨n, e⟩ := off_inv e
    have ne : c ≠ a := fun z => n (by rw [z]; exact hs)
    rw [off_at n, upd_ne ne]
    exact e, fun q hq n => ⟨hq, n, upd_ne fun z => n.1 i (by rw [z]; exact h)⟩, upd_dom⟩
def own (b : Bool) (d : D) : Slot := if b then .io d else .ow d
theorem Cfg.chg {i : Nat} {a : Addr} {o : HO} {b : Bool} {d d' : D} (c : Cfg K B G env σ H) (h : G.r i = some a) (e : env[i]? = some (own b d)) (hn : OwnAt K B.ct (upd H a o) (off G.S H) a d') : Cfg K B G (env.set i (own b d')) σ (upd H a o) := by
  have m : Mono G H G (upd H a o) := Mono.chg h (c.hid i a h)
  have neS : ∀ {j : Nat} {x : Addr}, i ≠ j → G.r j = some x → x ≠ a := fun {j x} n g z => n (c.inj i j a h (by rw [← z]; exact g))
  have hd := (off_same (S := G.S) (Same.refl H))
  refine ⟨by simp [c.len], fun j d1 ej => ?_, fun j d1 ej => ?_, fun j d1 ej => ?_, c.hid, c.inj, fun x hx => ?_, fun j d1 x ej z => ?_, fun x hx => upd_dom x (c.dom0 x hx), c.trs.keep rfl (fun j π x g => ⟨c.trs.hid j π x g, upd_ne fun z => c.trs.far j π i x g (by rw [z]; exact h), fun k => c.trs.far j π k x g⟩) m.same fun j b' d1 ej => ?_⟩
  · rcases set_get ej with ⟨rfl, z, l⟩ | ⟨n, z⟩
    · cases b <;> cases z
    · obtain ⟨w, g1, g2⟩ := c.sh j d1 z
      exact ⟨w, g1, g2.mono m.same⟩
  · rcases set_get ej with ⟨rfl, z, l⟩ | ⟨n, z⟩
    · cases b with
      | true => cases z
      | false =>
        cases z
        obtain ⟨b', g1, g2, g3⟩ := c.ow i d e
        rw [h] at g1
        cases g1
        exact ⟨a, h, g2, hn.mono rfl m.same⟩
    · obtain ⟨b', g1, g2, g3⟩ := c.ow j d1 z
      exact ⟨b', g1, g2, g3.mono (upd_ne (neS n g1)) m.same⟩
  · rcases set_get ej with ⟨rfl, z, l⟩ | ⟨n, z⟩
    · cases b with
      | false => cases z
      | true =>
        cases z
        obtain ⟨b', g1, g0, g2, g3⟩ := c.io i d e
        rw [h] at g1
        cases g1
        exact ⟨a, h, g0, g2, hn.mono rfl m.same⟩
    · obtain ⟨b', g1, g0, g2, g3⟩ := c.io j d1 z
      exact ⟨b', g1, g0, g2, g3.mono (upd_ne (neS n g1)) m.same⟩
  · by_cases ex : x = a
    · rw [ex, upd_same]
      exact Option.some_ne_none _
    · rw [upd_ne ex]
      exact c.live x hx
  · rcases set_get ej with ⟨rfl, q, _⟩ | ⟨n, q⟩
    · cases b with
      | true => cases q
      | false => exact c.frs i d x e z
    · exact c.frs j d1 x q z
  · rcases set_get ej with ⟨_, q, _⟩ | ⟨n, q⟩
    · cases b <;> cases q
    · exact ⟨q, rfl⟩
theorem Cfg.own {i : Nat} {b : Bool} {d : D} (c : Cfg K B G env σ H) (e : env[i]? = some (own b d)) : ∃ a, G.r i = some a ∧ σ[i]? = some (some (.ref a)) ∧ OwnAt K B.ct H (off G.S H) a d := by
  cases b with
  | true =>
    obtain ⟨a, h1, _, h2, h3⟩ := c.io i d e
    exact ⟨a, h1, h2, h3⟩
  | false => exact c.ow i d e
/-- a thing that is hidden, and no slot's -/
def Gh.hide (G : Gh) (a : Addr) : Gh := ⟨fun c => G.S c ∨ c = a, G.r, G.t⟩
/-- slot i owns what was hidden -/
def Gh.own (G : Gh) (i : Nat) (p : Addr) : Gh := ⟨G.S, fun j => if j = i then some p else G.r j, G.t⟩
theorem Mono.own {G1 : Gh} {H1 : Hp} {i : Nat} {p : Addr} (m : Mono G1 H1 G H) (h1 : ¬ G1.S p) : Mono G1 H1 (G.own i p) H :=
  ⟨m.same, fun q hq n => by
    obtain ⟨x1, x2, x3⟩ := m.tmp q hq n
    refine ⟨x1, ⟨fun j z => ?_, x2.2⟩, x3⟩
    have z' : (if j = i then some p else G.r j) = some q := z
    by_cases e : j = i
    · rw [if_pos e] at z'
      cases z'
      exact h1 hq
    · rw [if_neg e] at z'
      exact x2.1 j z', m.dom⟩
theorem Cfg.adopt {i : Nat} {p : Addr} {d : D} (c : Cfg K B G env σ H) (hs : G.S p) (hn : G.un p) (h : OwnAt K B.ct H (off G.S H) p d) (h0 : B.H0 p = none) : Cfg K B (G.own i p) (env.set i (.ow d)) (σ.set i (some (.ref p))) H := by
  have ne : ∀ {j : Nat} {x : Option V}, i ≠ j → σ[j]? = some x → (σ.set i (some (.ref p)))[j]? = some x := fun n h => by rw [List.getElem?_set_ne n]; exact h
  refine ⟨by simp [c.len], fun j d' ej => ?_, fun j d' ej => ?_, fun j d' ej => ?_, fun j b z => ?_, fun j k b z1 z2 => ?_, c.live, fun j d' b ej z => ?_, c.dom0, c.trs.keep rfl (fun j π a g => ⟨c.trs.hid j π a g, rfl, fun k z => ?_⟩) (Same.refl _) fun j b d' ej => ?_⟩
  · rcases set_get ej with ⟨rfl, z, l⟩ | ⟨n, z⟩
    · cases z
    · obtain ⟨w, g1, g2⟩ := c.sh j d' z
      exact ⟨w, ne n g1, g2⟩
  · rcases set_get ej with ⟨rfl, z, l⟩ | ⟨n, z⟩
    · cases z
      exact ⟨p, if_pos rfl, List.getElem?_set_self (by rw [← c.len]; exact l), h⟩
    · obtain ⟨b, g1, g2, g3⟩ := c.ow j d' z
      exact ⟨b, by show (if j = i then some p else G.r j) = some b; rw [if_neg (Ne.symm n)]; exact g1, ne n g2, g3⟩
  · rcases set_get ej with ⟨rfl, z, _⟩ | ⟨n, z⟩
    · cases z
    · obtain ⟨b, g1, g0, g2, g3⟩ := c.io j d' z
      exact ⟨b, by show (if j = i then some p else G.r j) = some b; rw [if_neg (Ne.symm n)]; exact g1, g0, ne n g2, g3⟩
  · have z' : (if j = i then some p else G.r j) = some b := z
    by_cases ej : j = i
    · rw [if_pos ej] at z'
      cases z'
      exact hs
    · rw [if_neg ej] at z'
      exact c.hid j b z'
  · have z1' : (if j = i then some p else G.r j) = some b := z1
    have z2' : (if k = i then some p else G.r k) = some b := z2
    by_cases ej : j = i
    · by_cases ek : k = i
      · rw [ej, ek]
      · rw [if_pos ej] at z1'
        rw [if_neg ek] at z2'
        cases z1'
        exact absurd z2' (hn.1 k)
    · rw [if_neg ej] at z1'
      by_cases ek : k = i
      · rw [if_pos ek] at z2'
        cases z2'
        exact absurd z1' (hn.1 j)
      · rw [if_neg ek] at z2'
        exact c.inj j k b z1' z2'
  · have z' : (if j = i then some p else G.r j) = some b := z
    rcases set_get ej with ⟨rfl, q, _⟩ | ⟨n, q⟩
    · rw [if_pos rfl] at z'
      cases z'
      exact h0
    · rw [if_neg (Ne.symm n)] at z'
      exact c.frs j d' b q z'
  · have z' : (if k = i then some p else G.r k) = some a := z
    by_cases ek : k = i
    · rw [if_pos ek] at z'
      cases z'
      exact hn.2 j π g
    · rw [if_neg ek] at z'
      exact c.trs.far j π k a g z'
  · rcases set_get ej with ⟨_, q, _⟩ | ⟨n, q⟩
    · cases q
    · exact ⟨q, List.getElem?_set_ne n⟩
theorem Cfg.new0 {p : Addr} (c : Cfg K B G env σ H) (hp : H p = none) : B.H0 p = none := by
  cases e0 : B.H0 p with
  | none => rfl
  | some u => exact absurd hp (c.dom0 p (by rw [e0]; exact Option.some_ne_none _))
theorem Cfg.unS {p : Addr} (c : Cfg K B G env σ H) (hp : H p = none) : ¬ G.S p := fun z => c.live p z hp
theorem Cfg.newUn {p : Addr} (c : Cfg K B G env σ H) (hp : H p = none) : G.un p := ⟨fun i z => c.unS hp (c.hid i p z), fun i π z => c.unS hp (c.trs.hid i π p z)⟩
theorem Mono.hide {a : Addr} {o : HO} (hp : H a = none) (live : ∀ c, G.S c → H c ≠ none) : Mono G H (G.hide a) (upd H a o) :=
  ⟨fun c u e => by
    obtain ⟨n, e⟩ := off_inv e
    have ne : c ≠ a := fun z => by
      rw [z, hp] at e
      cases e
    rw [off_at (show ¬ (G.S c ∨ c = a) from fun z => z.elim n ne), upd_ne ne]
    exact e, fun q hq n => ⟨.inl hq, n, upd_ne fun z => live q hq (by rw [z]; exact hp)⟩, upd_dom⟩
theorem Cfg.hide {a : Addr} {o : HO} (c : Cfg K B G env σ H) (hp : H a = none) : Cfg K B (G.hide a) env σ (upd H a o) := by
  have m : Mono G H (G.hide a) (upd H a o) := Mono.hide hp c.live
  have neS : ∀ {x : Addr}, G.S x → x ≠ a := fun h z => c.live _ h (by rw [z]; exact hp)
  refine ⟨c.len, fun j d e => ?_, fun j d e => ?_, fun j d e => ?_, fun i x h => .inl (c.hid i x h), c.inj, fun x h => ?_, c.frs, fun x h => upd_dom x (c.dom0 x h), c.trs.keep rfl (fun j π x g => ⟨.inl (c.trs.hid j π x g), upd_ne (neS (c.trs.hid j π x g)), fun k => c.trs.far j π k x g⟩) m.same fun j b d e => ⟨e, rfl⟩⟩
  · obtain ⟨w, g1, g2⟩ := c.sh j d e
    exact ⟨w, g1, g2.mono m.same⟩
  · obtain ⟨b, g1, g2, g3⟩ := c.ow j d e
    exact ⟨b, g1, g2, g3.mono (upd_ne (neS (c.hid j b g1))) m.same⟩
  · obtain ⟨b, g1, g0, g2, g3⟩ := c.io j d e
    exact ⟨b, g1, g0, g2, g3.mono (upd_ne (neS (c.hid j b g1))) m.same⟩
  · by_cases ex : x = a
    · rw [ex, upd_same]
      exact Option.some_ne_none _
    · rw [upd_ne ex]
      exact c.live x (h.elim id fun q => absurd q ex)
end
end Vl
set_option Elab.async false
set_option linter.all false
set_option maxRecDepth 100000
set_option maxHeartbeats 2000000
namespace Vl
open PySem PySem.Spec PyProof.Rows L2 Sb
/-- what comes of a piece of code -/
inductive Out (α : Type) where
  | stuck | val (a : α) (env : List Slot) | exc (c : Str) (as : List D) (env : List Slot)
def Out.bind {α β : Type} (o : Out α) (k : α → List Slot → Out β) : Out β := match o with
  | .stuck => .stuck
  | .val a e => k a e
  | .exc c as e => .exc c as e
def Out.opt {α : Type} (o : Option α) (e : List Slot) : Out α := match o with
  | some a => .val a e
  | none => .stuck
abbrev Ev (α : Type) := List Slot → Out α
abbrev ZX := Str → List D → List Slot → Gh → L2.St → Hp → Addr → Prop
/-- the own dict of an exception -/
def ExcAt (K : PySem.W.Frag) (ct : Ct) (F : Hp) (dd : Addr) (c : Str) (as : List D) : Prop := ∃ C ns vs, ct c = some (C, ns) ∧ ns.length = vs.length ∧ F dd = some (.xd (ns.zip vs)) ∧ Rps K ct F vs as
def postG {α : Type} (K : PySem.W.Frag) (B : Bs) (Z : ZX) (G : Gh) (σ : L2.St) (H : Hp) (o : Out α) (R : α → List Slot → Gh → Hp → Prop) : Prop := match o with
  | .stuck => False
  | .val a env => ∀ G' H', Mono G H G' H' → Cfg K B G' env σ H' → R a env G' H'
  | .exc c as env => ∀ G' H' dd, Mono G H G' H' → Cfg K B G' env σ H' → ExcAt K B.ct (off G'.S H') dd c as → Z c as env G' σ H' dd
section
variable {K : PySem.W.Frag} {B : Bs} {Z : ZX} {G G1 : Gh} {σ : L2.St} {H H1 : Hp} {α β : Type}
theorem post_bind {o : Out α} {k : α → List Slot → Out β} {R : β → List Slot → Gh → Hp → Prop} (h : postG K B Z G σ H (o.bind k) R) : postG K B Z G σ H o (fun a e G1 H1 => postG K B Z G1 σ H1 (k a e) R) := by
  cases o with
  | stuck => exact h
  | val a e =>
    intro G1 H1 m1 c1
    have h : postG K B Z G σ H (k a e) R := h
    generalize k a e = q at h
    cases q with
    | stuck => exact h
    | val b e2 => exact fun G2 H2 m2 c2 => h G2 H2 (m1.trans m2) c2
    | exc c as e2 => exact fun G2 H2 dd m2 c2 x => h G2 H2 dd (m1.trans m2) c2 x
  | exc c as e => exact h
theorem post_later {o : Out α} {R : α → List Slot → Gh → Hp → Prop} (m : Mono G H G1 H1) (h : postG K B Z G σ H o R) : postG K B Z G1 σ H1 o R := by
  cases o with
  | stuck => exact h
  | val a e => exact fun G2 H2 m2 c => h _ _ (m.trans m2) c
  | exc c as e => exact fun G2 H2 dd m2 c x => h _ _ dd (m.trans m2) c x
theorem post_imp {o : Out α} {R R' : α → List Slot → Gh → Hp → Prop} (h : postG K B Z G σ H o R) (k : ∀ a e G1 H1, Mono G H G1 H1 → Cfg K B G1 e σ H1 → R a e G1 H1 → R' a e G1 H1) : postG K B Z G σ H o R' := by
  cases o with
  | stuck => exact h
  | val a e => exact fun G1 H1 m c => k _ _ _ _ m c (h G1 H1 m c)
  | exc c as e => exact h
end
/-- readings of code over data -/
def liftE (K : PySem.W.Frag) (B : Bs) (Z : ZX) (f : Ev D) : TE := fun σ H Q => ∃ G env, Cfg K B G env σ H ∧ postG K B Z G σ H (f env) (fun d _ G' H' => ∀ v, Rp K B.ct (off G'.S H') v d → Q v H')
def liftA (K : PySem.W.Frag) (B : Bs) (Z : ZX) (f : Ev (List D)) : TA := fun σ H Q => ∃ G env, Cfg K B G env σ H ∧ postG K B Z G σ H (f env) (fun d _ G' H' => ∀ v, Rps K B.ct (off G'.S H') v d → Q v H')
def liftT (K : PySem.W.Frag) (B : Bs) (Z : ZX) (f : Ev Bool) : TT := fun σ H Q => ∃ G env, Cfg K B G env σ H ∧ postG K B Z G σ H (f env) (fun b _ G' H' => Q b H')
def liftO (K : PySem.W.Frag) (B : Bs) (Z : ZX) (f : Ev (Option Int)) : TO := fun σ H Q => ∃ G env, Cfg K B G env σ H ∧ postG K B Z G σ H (f env) (fun b _ G' H' => Q b H')
structure DE (X : Cx) (B : Bs) (Z : ZX) (e : Expr) (f : Ev D) : Prop where
  pe : PE X e (liftE X.K B Z f)
structure DA (X : Cx) (B : Bs) (Z : ZX) (e : List Expr) (f : Ev (List D)) : Prop where
  pa : PA X e (liftA X.K B Z f)
structure DT (X : Cx) (B : Bs) (Z : ZX) (e : Expr) (f : Ev Bool) : Prop where
  pt : PT X e (liftT X.K B Z f)
structure DW (X : Cx) (B : Bs) (Z : ZX) (e : Expr) (f : Ev Bool) : Prop where
  pw : PW X e (liftT X.K B Z f)
structure DO (X : Cx) (B : Bs) (Z : ZX) (e : Option Expr) (f : Ev (Option Int)) : Prop where
  po : PO X e (liftO X.K B Z f)
section
variable {X : Cx} {e : Expr} {es : List Expr} {oe : Option Expr}
theorem PE.weak {t t' : TE} (h : PE X e t) (k : ∀ σ H Q, t' σ H Q → t σ H Q) : PE X e t' := ⟨fun pins s σ H Q I q => h.run pins s σ H Q I (k σ H Q q)⟩
theorem PT.weak {t t' : TT} (h : PT X e t) (k : ∀ σ H Q, t' σ H Q → t σ H Q) : PT X e t' := ⟨fun pins s σ H Q I q => h.run pins s σ H Q I (k σ H Q q)⟩
theorem PW.weak {t t' : TT} (h : PW X e t) (k : ∀ σ H Q, t' σ H Q → t σ H Q) : PW X e t' := ⟨fun w pins s σ H Q I q => h.run w pins s σ H Q I (k σ H Q q)⟩
theorem PA.weak {t t' : TA} (h : PA X es t) (k : ∀ σ H Q, t' σ H Q → t σ H Q) : PA X es t' := ⟨fun pos pins s σ H Q I q => h.run pos pins s σ H Q I (k σ H Q q)⟩
theorem PO.weak {t t' : TO} (h : PO X oe t) (k : ∀ σ H Q, t' σ H Q → t σ H Q) : PO X oe t' := ⟨fun pins s σ H Q I q => h.run pins s σ H Q I (k σ H Q q)⟩
end
/-- an operation by values is one by data -/
def OpV (K : PySem.W.Frag) (ct : Ct) (r : R2) (o : D → D → Option D) : Prop := ∀ (S : Addr → Prop) (H : Hp) (x y : V) (d e z : D) (Q : VK), (∀ a, S a → H a ≠ none) → Rp K ct (off S H) x d → Rp K ct (off S H) y e → o d e = some z →
  (∀ v H', Same H H' → Rp K ct (off S H') v z → Q v H') → r x y H Q
def CallV (K : PySem.W.Frag) (ct : Ct) (r : List V → Hp → VK → Prop) (o : List D → Option D) : Prop := ∀ (S : Addr → Prop) (H : Hp) (xs : List V) (ds : List D) (z : D) (Q : VK), (∀ a, S a → H a ≠ none) → Rps K ct (off S H) xs ds → o ds = some z →
  (∀ v H', Same H H' → Rp K ct (off S H') v z → Q v H') → r xs H Q
def SlV (K : PySem.W.Frag) (ct : Ct) (r : V → Option Int → Option Int → Hp → VK → Prop) (o : D → Option Int → Option Int → Option D) : Prop := ∀ (S : Addr → Prop) (H : Hp) (x : V) (d z : D) (lo hi : Option Int) (Q : VK), (∀ a, S a → H a ≠ none) → Rp K ct (off S H) x d → o d lo hi = some z →
  (∀ v H', Same H H' → Rp K ct (off S H') v z → Q v H') → r x lo hi H Q
section
variable {K : PySem.W.Frag} {ct : Ct} {S : Addr → Prop} {H : Hp}
theorem new_lst {p : Addr} {vs : List V} {l : List D} (live : ∀ a, S a → H a ≠ none) (hp : H p = none) (r : Rps K ct (off S H) vs l) : Rp K ct (off S (upd H p (.lst vs))) (.ref p) (.lst l) :=
  .lst (by rw [off_at fun z => live p z hp]; exact upd_same) (r.mono (off_same (Sb.Same.upd hp)))
theorem new_tup {p : Addr} {vs : List V} {l : List D} (live : ∀ a, S a → H a ≠ none) (hp : H p = none) (r : Rps K ct (off S H) vs l) : Rp K ct (off S (upd H p (.tup vs))) (.ref p) (.tup l) :=
  .tup (by rw [off_at fun z => live p z hp]; exact upd_same) (r.mono (off_same (Sb.Same.upd hp)))
end
def oI (g : Int → Int → D) : D → D → Option D
  | .int i, .int j => some (g i j)
  | _, _ => none
def oIC (c : Int → Int → Bool) (g : Int → Int → D) : D → D → Option D
  | .int i, .int j => if c i j then some (g i j) else none
  | _, _ => none
section
variable {K : PySem.W.Frag} {ct : Ct} {F : Hp} {v : V}
theorem Rp.intE {i : Int} (h : Rp K ct F v (.int i)) : v = .int i := by cases h; rfl
theorem Rp.blE {i : Bool} (h : Rp K ct F v (.bl i)) : v = .bl i := by cases h; rfl
theorem Rp.strE {i : Str} (h : Rp K ct F v (.str i)) : v = .str i := by cases h; rfl
theorem Rp.nonE (h : Rp K ct F v .non) : v = .non := by cases h; rfl
theorem Rp.lstE {l : List D} (h : Rp K ct F v (.lst l)) : ∃ a vs, v = .ref a ∧ F a = some (.lst vs) ∧ Rps K ct F vs l := by
  cases h with
  | lst h t => exact ⟨_, _, rfl, h, t⟩
theorem Rp.tupP {l : List D} (h : Rp K ct F v (.tup l)) : ∃ a vs, v = .ref a ∧ F a = some (.tup vs) ∧ Rps K ct F vs l := by
  cases h with
  | tup h t => exact ⟨_, _, rfl, h, t⟩
theorem Rp.tupE {l : List D} (h : Rp K ct F v (.tup l)) : ∃ a vs, v = .ref a ∧ SqT K F a vs ∧ Rps K ct F vs l := by
  cases h with
  | tup h t => exact ⟨_, _, rfl, SqT.of h, t⟩
theorem Rp.ctupE {l : List D} (h : Rp K ct F v (.ctup l)) : ∃ a vs, v = .ref a ∧ SqT K F a vs ∧ Rps K ct F vs l := by
  cases h with
  | ctup h t => exact ⟨_, _, rfl, h, t⟩
theorem Rp.obE {c : Str} {l : List D} (h : Rp K ct F v (.ob c l)) : ∃ a C dx ns vs, v = .ref a ∧ ct c = some (C, ns) ∧ vs.length ≤ ns.length ∧ F a = some (.ins C dx (ns.zip vs)) ∧ Rps K ct F vs l := by
  cases h with
  | ob h1 h2 h3 t => exact ⟨_, _, _, _, _, rfl, h1, h2, h3, t⟩
theorem Rp.scrE {ns : List Int} (h : Rp K ct F v (.scr ns)) : ∃ a, v = .ref a ∧ SqL K F a (ns.map V.int) := by
  cases h with
  | scr h => exact ⟨_, rfl, h⟩
theorem Rps.nilE {vs : List V} (h : Rps K ct F vs []) : vs = [] := by cases h; rfl
theorem Rps.consE {vs : List V} {d : D} {l : List D} (h : Rps K ct F vs (d :: l)) : ∃ v ws, vs = v :: ws ∧ Rp K ct F v d ∧ Rps K ct F ws l := by
  cases h with
  | cons h t => exact ⟨_, _, rfl, h, t⟩
end
theorem sqT_le {K : PySem.W.Frag} {S : Addr → Prop} {H : Hp} {a : Addr} {vs : List V} (h : SqT K (off S H) a vs) : SqT K H a vs := sqT_same off_le h
theorem opv_I0 {K : PySem.W.Frag} {ct : Ct} {g' : Int → Int → V} (g : Int → Int → D) (h : ∀ F i j, Rp K ct F (g' i j) (g i j)) : OpV K ct (rI0 g') (oI g) := by
  intro S H x y d e z Q live rx ry ho hq
  unfold oI at ho
  split at ho
  · cases ho
    exact ⟨_, _, rx.intE, ry.intE, hq _ H (Same.refl _) (h _ _ _)⟩
  · cases ho
theorem opv_IC {K : PySem.W.Frag} {ct : Ct} {C : Int → Int → Prop} {g' : Int → Int → V} (c : Int → Int → Bool) (g : Int → Int → D) (hc : ∀ i j, c i j = true → C i j) (h : ∀ F i j, Rp K ct F (g' i j) (g i j)) : OpV K ct (rI C g') (oIC c g) := by
  intro S H x y d e z Q live rx ry ho hq
  unfold oIC at ho
  split at ho
  · split at ho
    · cases ho
      exact ⟨_, _, rx.intE, ry.intE, hc _ _ (by assumption), hq _ H (Same.refl _) (h _ _ _)⟩
    · cases ho
  · cases ho
section
variable {X : Cx} {ct : Ct}
theorem opv_add : OpV X.K ct (rI0 fun i j => .int (i + j)) (oI fun i j => .int (i + j)) := opv_I0 _ fun _ _ _ => .int _
theorem opv_sub : OpV X.K ct (rI0 fun i j => .int (i - j)) (oI fun i j => .int (i - j)) := opv_I0 _ fun _ _ _ => .int _
def cMul (i j : Int) : Bool := decide (i.natAbs < 2 ^ 60) || decide (j.natAbs < 2 ^ 60)
theorem opv_mul : OpV X.K ct (rI CMul fun i j => .int (i * j)) (oIC cMul fun i j => .int (i * j)) := opv_IC _ _ (fun i j h => by
  have h' : i.natAbs < 2 ^ 60 ∨ j.natAbs < 2 ^ 60 := by
    unfold cMul at h
    rw [Bool.or_eq_true] at h
    exact h.imp of_decide_eq_true of_decide_eq_true
  have e : (2 : Nat) ^ 60 = 1152921504606846976 := by decide
  rw [e] at h'
  rcases h' with h' | h'
  · exact .inl ⟨by omega, by omega⟩
  · exact .inr ⟨by omega, by omega⟩) fun _ _ _ => .int _
theorem opv_mod : OpV X.K ct (rI (fun _ j => 0 < j) fun i j => .int (i % j)) (oIC (fun _ j => decide (0 < j)) fun i j => .int (i % j)) := opv_IC _ _ (fun i j h => of_decide_eq_true h) fun _ _ _ => .int _
theorem opv_fdiv : OpV X.K ct (rI CDiv fun i j => .int (i / j)) (oIC (fun _ j => decide (0 < j) && decide (j < 1073741824)) fun i j => .int (i / j)) := opv_IC _ _ (fun i j h => by
  rw [Bool.and_eq_true] at h
  exact ⟨of_decide_eq_true h.1, of_decide_eq_true h.2⟩) fun _ _ _ => .int _
theorem opv_lt : OpV X.K ct (rI0 fun i j => .bl (decide (i < j))) (oI fun i j => .bl (decide (i < j))) := opv_I0 _ fun _ _ _ => .bl _
theorem opv_le : OpV X.K ct (rI0 fun i j => .bl (decide (i ≤ j))) (oI fun i j => .bl (decide (i ≤ j))) := opv_I0 _ fun _ _ _ => .bl _
theorem opv_gt : OpV X.K ct (rI0 fun i j => .bl (decide (j < i))) (oI fun i j => .bl (decide (j < i))) := opv_I0 _ fun _ _ _ => .bl _
theorem opv_ge : OpV X.K ct (rI0 fun i j => .bl (decide (j ≤ i))) (oI fun i j => .bl (decide (j ≤ i))) := opv_I0 _ fun _ _ _ => .bl _
/-- texts added -/
def oAddS : D → D → Option D
  | .str i, .str j => if i.length + j.length ≤ sizeLine then some (.str (i ++ j)) else none
  | _, _ => none
theorem opv_addS : OpV X.K ct (fun x y H Q => ∃ i j, x = .str i ∧ y = .str j ∧ i.length + j.length ≤ sizeLine ∧ Q (.str (i ++ j)) H) oAddS := by
  intro S H x y d e z Q live rx ry ho hq
  unfold oAddS at ho
  split at ho
  · split at ho
    · cases ho
      exact ⟨_, _, rx.strE, ry.strE, by assumption, hq _ H (Same.refl _) (.str _)⟩
    · cases ho
  · cases ho
/-- lists added -/
def oCat : D → D → Option D
  | .lst l, .lst m => if l.length + m.length ≤ sizeLine then some (.lst (l ++ m)) else none
  | _, _ => none
theorem opv_cat : OpV X.K ct rCat oCat := by
  intro S H x y d e z Q live rx ry ho hq
  unfold oCat at ho
  split at ho
  · rename_i l m
    split at ho
    · rename_i c
      cases ho
      obtain ⟨a, vs, rfl, h1, t1⟩ := rx.lstE
      obtain ⟨b, ws, rfl, h2, t2⟩ := ry.lstE
      exact ⟨_, _, _, _, rfl, rfl, off_le _ _ h1, off_le _ _ h2, by rw [t1.len, t2.len]; exact c, fun p hp => hq _ _ (Sb.Same.upd hp) (new_lst live hp (t1.app t2))⟩
    · cases ho
  · cases ho
/-- a list repeated -/
def oRep : D → D → Option D
  | .lst l, .int k => if k < 2 ^ 20 ∧ -(2 ^ 20) < k ∧ l.length * k.toNat ≤ sizeLine then some (.lst (List.replicate k.toNat l).flatten) else none
  | _, _ => none
theorem Rps.rep {F : Hp} {K : PySem.W.Frag} {vs : List V} {l : List D} (h : Rps K ct F vs l) : ∀ n : Nat, Rps K ct F (List.replicate n vs).flatten (List.replicate n l).flatten
  | 0 => .nil
  | n + 1 => by
    rw [List.replicate_succ, List.replicate_succ, List.flatten_cons, List.flatten_cons]
    exact h.app (Rps.rep h n)
theorem opv_rep : OpV X.K ct rRep oRep := by
  intro S H x y d e z Q live rx ry ho hq
  unfold oRep at ho
  split at ho
  · rename_i l k
    split at ho
    · rename_i c
      cases ho
      obtain ⟨a, vs, rfl, h1, t1⟩ := rx.lstE
      have e : (2 : Int) ^ 20 = 1048576 := by decide
      have e3 : (2 : Int) ^ 63 = 9223372036854775808 := by decide
      obtain ⟨c1, c2, c3⟩ := c
      rw [e] at c1 c2
      exact ⟨_, _, _, rfl, ry.intE, off_le _ _ h1, by omega, by omega, by rw [t1.len]; exact c3, fun p hp => hq _ _ (Sb.Same.upd hp) (new_lst live hp (t1.rep _))⟩
    · cases ho
  · cases ho
/-- data that can be compared -/
def D.eok (d : D) : Bool := d.plain && SeqAt.shaped d.py
def oEq (neg : Bool) (d e : D) : Option D := if d.eok && e.eok then some (.bl (if neg then !PyData.eqv d.py e.py else PyData.eqv d.py e.py)) else none
theorem opv_eqD : OpV X.K ct (rEqD X.K) (oEq false) := by
  intro S H x y d e z Q live rx ry ho hq
  unfold oEq at ho
  split at ho
  · rename_i c
    cases ho
    simp only [D.eok, Bool.and_eq_true] at c
    exact ⟨_, _, (rx.mono off_le).dp c.1.1, (ry.mono off_le).dp c.2.1, c.1.2, c.2.2, hq _ H (Same.refl _) (.bl _)⟩
  · cases ho
theorem opv_neD : OpV X.K ct (rNeD X.K) (oEq true) := by
  intro S H x y d e z Q live rx ry ho hq
  unfold oEq at ho
  split at ho
  · rename_i c
    cases ho
    simp only [D.eok, Bool.and_eq_true] at c
    exact ⟨_, _, (rx.mono off_le).dp c.1.1, (ry.mono off_le).dp c.2.1, c.1.2, c.2.2, hq _ H (Same.refl _) (.bl _)⟩
  · cases ho
/-- plain things compared: ints, texts, truths, None -/
def oEqS (neg : Bool) : D → D → Option D
  | .int i, .int j => some (.bl (if neg then !decide (i = j) else decide (i = j)))
  | .str i, .str j => some (.bl (if neg then !decide (i = j) else decide (i = j)))
  | .bl i, .bl j => some (.bl (if neg then !decide (i = j) else decide (i = j)))
  | .non, .non => some (.bl (if neg then false else true))
  | .int _, .str _ => some (.bl neg)
  | .str _, .int _ => some (.bl neg)
  | .non, .int _ => some (.bl neg)
  | .int _, .non => some (.bl neg)
  | .non, .str _ => some (.bl neg)
  | .str _, .non => some (.bl neg)
  | _, _ => none
theorem dec_int {i j : Int} : decide (V.int i = V.int j) = decide (i = j) := by simp
theorem dec_str {i j : Str} : decide (V.str i = V.str j) = decide (i = j) := by simp
theorem dec_bl {i j : Bool} : decide (V.bl i = V.bl j) = decide (i = j) := by simp
theorem opv_eqS : OpV X.K ct rEq (oEqS false) := by
  intro S H x y d e z Q live rx ry ho hq
  unfold oEqS at ho
  split at ho <;> (first | cases ho)
  · rw [rx.intE, ry.intE]
    exact ⟨rfl, by rw [dec_int]; exact hq _ H (Same.refl _) (.bl _)⟩
  · rw [rx.strE, ry.strE]
    exact ⟨rfl, by rw [dec_str]; exact hq _ H (Same.refl _) (.bl _)⟩
  · rw [rx.blE, ry.blE]
    exact ⟨rfl, by rw [dec_bl]; exact hq _ H (Same.refl _) (.bl _)⟩
  · rw [rx.nonE, ry.nonE]
    exact ⟨rfl, hq _ H (Same.refl _) (.bl _)⟩
  · rw [rx.intE, ry.strE]
    exact ⟨rfl, hq _ H (Same.refl _) (.bl _)⟩
  · rw [rx.strE, ry.intE]
    exact ⟨rfl, hq _ H (Same.refl _) (.bl _)⟩
  · rw [rx.nonE, ry.intE]
    exact ⟨rfl, hq _ H (Same.refl _) (.bl _)⟩
  · rw [rx.intE, ry.nonE]
    exact ⟨rfl, hq _ H (Same.refl _) (.bl _)⟩
  · rw [rx.nonE, ry.strE]
    exact ⟨rfl, hq _ H (Same.refl _) (.bl _)⟩
  · rw [rx.strE, ry.nonE]
    exact ⟨rfl, hq _ H (Same.refl _) (.bl _)⟩
theorem opv_neS : OpV X.K ct rNe (oEqS true) := by
  intro S H x y d e z Q live rx ry ho hq
  unfold oEqS at ho
  split at ho <;> (first | cases ho)
  · rw [rx.intE, ry.intE]
    exact ⟨rfl, by rw [dec_int]; exact hq _ H (Same.refl _) (.bl _)⟩
  · rw [rx.strE, ry.strE]
    exact ⟨rfl, by rw [dec_str]; exact hq _ H (Same.refl _) (.bl _)⟩
  · rw [rx.blE, ry.blE]
    exact ⟨rfl, by rw [dec_bl]; exact hq _ H (Same.refl _) (.bl _)⟩
  · rw [rx.nonE, ry.nonE]
    exact ⟨rfl, hq _ H (Same.refl _) (.bl _)⟩
  · rw [rx.intE, ry.strE]
    exact ⟨rfl, hq _ H (Same.refl _) (.bl _)⟩
  · rw [rx.strE, ry.intE]
    exact ⟨rfl, hq _ H (Same.refl _) (.bl _)⟩
  · rw [rx.nonE, ry.intE]
    exact ⟨rfl, hq _ H (Same.refl _) (.bl _)⟩
  · rw [rx.intE, ry.nonE]
    exact ⟨rfl, hq _ H (Same.refl _) (.bl _)⟩
  · rw [rx.nonE, ry.strE]
    exact ⟨rfl, hq _ H (Same.refl _) (.bl _)⟩
  · rw [rx.strE, ry.nonE]
    exact ⟨rfl, hq _ H (Same.refl _) (.bl _)⟩
/-- None asked -/
def D.isNon : D → Bool
  | .non => true
  | _ => false
def oIsN (neg : Bool) (d e : D) : Option D := if e.isNon then some (.bl (if neg then !d.isNon else d.isNon)) else none
theorem isNon_v {K : PySem.W.Frag} {F : Hp} {v : V} {d : D} (h : Rp K ct F v d) : decide (v = .non) = d.isNon := by
  cases h <;> simp [D.isNon]
theorem opv_isN : OpV X.K ct (fun x y H Q => y = .non ∧ Q (.bl (decide (x = .non))) H) (oIsN false) := by
  intro S H x y d e z Q live rx ry ho hq
  unfold oIsN at ho
  split at ho
  · rename_i c
    cases ho
    have ee : e = .non := by cases e <;> first | rfl | cases c
    subst ee
    exact ⟨ry.nonE, by rw [isNon_v rx]; exact hq _ H (Same.refl _) (.bl _)⟩
  · cases ho
/-- an item -/
def oIx : D → D → Option D
  | .lst l, .int i => atI l i
  | .tup l, .int i => atI l i
  | .ctup l, .int i => atI l i
  | .str s, .int i => if s.length ≤ sizeLine then (atI s.cps.toList i).map fun c => .str ⟨#[c]⟩ else none
  | .scr ns, .int i => (atI ns i).map D.int
  | _, _ => none
theorem at_map {α β : Type} {f : α → β} {l : List α} {i : Int} {x : α} (h : atI l i = some x) : atI (l.map f) i = some (f x) := by
  unfold atI at h ⊢
  rw [List.length_map]
  cases e : ixN l.length i with
  | none =>
    rw [e] at h
    cases h
  | some j =>
    rw [e] at h
    have h : l[j]? = some x := h
    show (l.map f)[j]? = some (f x)
    rw [List.getElem?_map, h]
    rfl
theorem Rps.at {K : PySem.W.Frag} {F : Hp} {vs : List V} {l : List D} {i : Int} {d : D} (h : Rps K ct F vs l) (e : atI l i = some d) : ∃ v, atI vs i = some v ∧ Rp K ct F v d := by
  unfold atI at e ⊢
  rw [h.len]
  cases q : ixN l.length i with
  | none =>
    rw [q] at e
    cases e
  | some j =>
    rw [q] at e
    exact h.get' e
theorem opv_ix : OpV X.K ct (rIx X.K) oIx := by
  intro S H x y d e z Q live rx ry ho hq
  unfold oIx at ho
  split at ho
  · obtain ⟨a, vs, rfl, h1, t1⟩ := rx.lstE
    obtain ⟨v, e1, r1⟩ := t1.at ho
    exact .inl ⟨_, _, _, _, rfl, ry.intE, SqL.of (off_le _ _ h1), e1, hq _ H (Same.refl _) r1⟩
  · obtain ⟨a, vs, rfl, h1, t1⟩ := rx.tupE
    obtain ⟨v, e1, r1⟩ := t1.at ho
    exact .inr (.inl ⟨_, _, _, _, rfl, ry.intE, sqT_le h1, e1, hq _ H (Same.refl _) r1⟩)
  · obtain ⟨a, vs, rfl, h1, t1⟩ := rx.ctupE
    obtain ⟨v, e1, r1⟩ := t1.at ho
    exact .inr (.inl ⟨_, _, _, _, rfl, ry.intE, sqT_le h1, e1, hq _ H (Same.refl _) r1⟩)
  · rename_i s i
    split at ho
    · cases q : atI s.cps.toList i with
      | none =>
        rw [q] at ho
        cases ho
      | some c =>
        rw [q] at ho
        cases ho
        exact .inr (.inr ⟨_, _, _, rx.strE, ry.intE, by assumption, q, hq _ H (Same.refl _) (.str _)⟩)
    · cases ho
  · rename_i ns i
    cases q : atI ns i with
    | none =>
      rw [q] at ho
      cases ho
    | some n =>
      rw [q] at ho
      cases ho
      obtain ⟨a, rfl, h1⟩ := rx.scrE
      exact .inl ⟨_, _, _, _, rfl, ry.intE, off_le.seq h1, at_map q, hq _ H (Same.refl _) (.int _)⟩
  · cases ho
/-- x in y -/
def oIn (neg : Bool) (d : D) : D → Option D
  | .lst l => if d.eok && (D.lst l).eok then some (.bl (if neg then !(l.any fun z => PyData.eqv z.py d.py) else l.any fun z => PyData.eqv z.py d.py)) else none
  | _ => none
theorem pyAll_map : ∀ l : List D, D.pyAll l = l.map D.py
  | [] => by simp [D.pyAll]
  | d :: l => by simp [D.pyAll, pyAll_map l]
theorem any_py (l : List D) (d : PyData) : ((D.pyAll l).any fun z => PyData.eqv z d) = l.any fun z => PyData.eqv z.py d := by
  rw [pyAll_map, List.any_map]
  rfl
theorem opv_inD : OpV X.K ct (rInD X.K) (oIn false) := by
  intro S H x y d e z Q live rx ry ho hq
  unfold oIn at ho
  split at ho
  · rename_i l
    split at ho
    · rename_i c
      cases ho
      simp only [D.eok, Bool.and_eq_true] at c
      have h2 := (ry.mono off_le).dp c.2.1
      simp only [D.py] at h2 c
      refine ⟨_, D.pyAll l, (rx.mono off_le).dp c.1.1, h2, c.1.2, c.2.2, ?_⟩
      rw [any_py]
      exact hq _ H (Same.refl _) (.bl _)
    · cases ho
  · cases ho
theorem opv_notInD : OpV X.K ct (rNotInD X.K) (oIn true) := by
  intro S H x y d e z Q live rx ry ho hq
  unfold oIn at ho
  split at ho
  · rename_i l
    split at ho
    · rename_i c
      cases ho
      simp only [D.eok, Bool.and_eq_true] at c
      have h2 := (ry.mono off_le).dp c.2.1
      simp only [D.py] at h2 c
      refine ⟨_, D.pyAll l, (rx.mono off_le).dp c.1.1, h2, c.1.2, c.2.2, ?_⟩
      rw [any_py]
      exact hq _ H (Same.refl _) (.bl _)
    · cases ho
  · cases ho
theorem opv_pow : OpV X.K ct (rI (fun i j => 0 ≤ j ∧ (Builtin.Int.intBits i : Int) * j ≤ 2 ^ 27) fun i j => .int (i ^ j.toNat)) (oIC (fun i j => decide (0 ≤ j) && decide ((Builtin.Int.intBits i : Int) * j ≤ 2 ^ 27)) fun i j => .int (i ^ j.toNat)) := opv_IC _ _ (fun i j h => by
  rw [Bool.and_eq_true] at h
  exact ⟨of_decide_eq_true h.1, of_decide_eq_true h.2⟩) fun _ _ _ => .int _
def oInT (neg : Bool) (d : D) : D → Option D
  | .tup l => if d.eok && (D.tup l).eok then some (.bl (if neg then !(l.any fun z => PyData.eqv z.py d.py) else l.any fun z => PyData.eqv z.py d.py)) else none
  | .ctup l => if d.eok && (D.ctup l).eok then some (.bl (if neg then !(l.any fun z => PyData.eqv z.py d.py) else l.any fun z => PyData.eqv z.py d.py)) else none
  | _ => none
theorem opv_inT : OpV X.K ct (rInT X.K) (oInT false) := by
  intro S H x y d e z Q live rx ry ho hq
  unfold oInT at ho
  split at ho <;> first | cases ho | skip
  all_goals
    rename_i l
    split at ho
    · rename_i c
      cases ho
      simp only [D.eok, Bool.and_eq_true] at c
      have h2 := (ry.mono off_le).dp c.2.1
      simp only [D.py] at h2 c
      refine ⟨_, D.pyAll l, (rx.mono off_le).dp c.1.1, h2, c.1.2, c.2.2, ?_⟩
      rw [any_py]
      exact hq _ H (Same.refl _) (.bl _)
    · cases ho
end
end Vl
set_option Elab.async false
set_option linter.all false
set_option maxRecDepth 100000
set_option maxHeartbeats 2000000
namespace Vl
open PySem PySem.Spec PyProof.Rows L2 Sb
section
variable {X : Cx} {B : Bs} {Z : ZX} {a b c e : Expr} {es : List Expr} {pos : Pos} {f g h : Ev D} {fs : Ev (List D)} {ft gt : Ev Bool}
def fVar (i : Nat) : Ev D := fun env => match env[i]? with
  | some (.sh d) => .val d env
  | some (.ow d) => .val d (env.set i (.sh d))
  | _ => .stuck
theorem de_var {x : Str} {i : Nat} (hN : X.N[i]? = some x) (hv : Vis X.env.scope x) (hd : (x == ("__debug__" : Str)) = false := by decide) (hcd : (x == ("__classdict__" : Str)) = false := by decide) : DE X B Z (.Name x pos) (fVar i) := by
  refine ⟨PE.weak (pe_var hN hv hd hcd) fun σ H Q ⟨G, env, c, p⟩ => ?_⟩
  unfold fVar at p
  split at p
  · rename_i d hd
    obtain ⟨v, h1, h2⟩ := c.sh i d hd
    exact ⟨v, h1, p G H Mono.refl c v h2⟩
  · rename_i d hd
    obtain ⟨a, h1, h2, m, c', r⟩ := c.freeze hd
    exact ⟨_, h2, p _ H m c' _ r⟩
  · exact p.elim
def fC (d : D) : Ev D := fun env => .val d env
theorem de_const {v : V} {d : D} (h : PE X e (tC v)) (r : ∀ F, Rp X.K B.ct F v d) : DE X B Z e (fC d) :=
  ⟨PE.weak h fun σ H Q ⟨G, env, c, p⟩ => p G H Mono.refl c v (r _)⟩
theorem de_int {i j pos} : DE X B Z (.Constant (.int i) j pos) (fC (.int i)) := de_const pe_int fun _ => .int _
theorem de_bl {b j pos} : DE X B Z (.Constant (.bool b) j pos) (fC (.bl b)) := de_const pe_bl fun _ => .bl _
theorem de_non {j pos} : DE X B Z (.Constant .none j pos) (fC .non) := de_const pe_non fun _ => .non
theorem de_str {x j pos} : DE X B Z (.Constant (.str x) j pos) (fC (.str x)) := de_const pe_str fun _ => .str _
def fOp (o : D → D → Option D) (f g : Ev D) : Ev D := fun env => (f env).bind fun d e1 => (g e1).bind fun e e2 => Out.opt (o d e) e2
theorem lift_op {r : R2} {o : D → D → Option D} (ov : OpV X.K B.ct r o) (σ : L2.St) (H : Hp) (Q : VK) (hq : liftE X.K B Z (fOp o f g) σ H Q) : tOp r (liftE X.K B Z f) (liftE X.K B Z g) σ H Q := by
  obtain ⟨G, env, c, p⟩ := hq
  refine ⟨G, env, c, post_imp (post_bind p) fun d e1 G1 H1 m1 c1 p1 v rv => ⟨G1, e1, c1, post_imp (post_bind p1) fun d2 e2 G2 H2 m2 c2 p2 w rw' => ?_⟩⟩
  cases ho : o d d2 with
  | none =>
    rw [ho] at p2
    exact p2.elim
  | some z =>
    rw [ho] at p2
    exact ov G2.S H2 v w d d2 z Q c2.live (rv.mono m2.same) rw' ho fun u H' s' ru => p2 G2 H' (c2.mono s') (c2.same s') u ru
theorem de_op {op : Operator} {r : R2} {o : D → D → Option D} (ho : OpR X (binaryOp op) r) (ov : OpV X.K B.ct r o) (ha : DE X B Z a f) (hb : DE X B Z b g) : DE X B Z (.BinOp a op b pos) (fOp o f g) :=
  ⟨PE.weak (pe_op ho ha.pe hb.pe) (lift_op ov)⟩
theorem de_cmp {op : CmpOp} {r : R2} {o : D → D → Option D} (ho : OpR X (compareOp op) r) (ov : OpV X.K B.ct r o) (ha : DE X B Z a f) (hb : DE X B Z b g) (hm : behindInMarks op b = false) : DE X B Z (.Compare a [op] [b] pos) (fOp o f g) :=
  ⟨PE.weak (pe_cmpR ho ha.pe hb.pe hm) (lift_op ov)⟩
theorem de_ix (ov : OpV X.K B.ct (rIx X.K) oIx) (ha : DE X B Z a f) (hb : DE X B Z b g) (hs : PlainIx b) : DE X B Z (.Subscript a b pos) (fOp oIx f g) :=
  ⟨PE.weak (pe_ix ix_seq ha.pe hb.pe hs) (lift_op ov)⟩
/-- x[e], x an owned thing that stays so -/
def fIxO (i : Nat) (g : Ev D) : Ev D := fun env => match env[i]? with
  | some (.ow (.lst l)) => (g env).bind fun e e2 => match e2[i]? with
    | some (.ow (.lst m)) => Out.opt (oIx (.lst m) e) e2
    | _ => .stuck
  | some (.io (.lst l)) => (g env).bind fun e e2 => match e2[i]? with
    | some (.io (.lst m)) => Out.opt (oIx (.lst m) e) e2
    | _ => .stuck
  | _ => .stuck
theorem ix_own {b : Bool} {i : Nat} {m : List D} {env : List Slot} {G : Gh} {σ : L2.St} {H : Hp} {w : V} {d z : D} {Q : VK} (c : Cfg X.K B G env σ H) (he : env[i]? = some (own b (.lst m))) (rw' : Rp X.K B.ct (off G.S H) w d) (ho : oIx (.lst m) d = some z)
    (q : ∀ v, Rp X.K B.ct (off G.S H) v z → Q v H) : ∃ a, σ[i]? = some (some (.ref a)) ∧ rIx X.K (.ref a) w H Q := by
  obtain ⟨a, h1, h2, vs, h3, h4⟩ := c.own he
  cases d with
  | int k =>
    obtain ⟨v, e1, r1⟩ := h4.at ho
    exact ⟨a, h2, .inl ⟨_, _, _, _, rfl, rw'.intE, SqL.of h3, e1, q v r1⟩⟩
  | _ => cases ho
theorem de_ixO {x : Str} {i : Nat} {apos : Pos} (hN : X.N[i]? = some x) (hv : Vis X.env.scope x) (hb : DE X B Z b g) (hs : PlainIx b) (hd : (x == ("__debug__" : Str)) = false := by decide) (hcd : (x == ("__classdict__" : Str)) = false := by decide) :
    DE X B Z (.Subscript (.Name x apos) b pos) (fIxO i g) := by
  refine ⟨PE.weak (pe_ix ix_seq (pe_var hN hv hd hcd) hb.pe hs) fun σ H Q ⟨G, env, c, p⟩ => ?_⟩
  have key : ∀ {e2 : List Slot} {G2 : Gh} {H2 : Hp} {b : Bool} {m : List D} {d : D} {w : V} (a : Addr), σ[i]? = some (some (.ref a)) → Cfg X.K B G2 e2 σ H2 → e2[i]? = some (own b (.lst m)) → Rp X.K B.ct (off G2.S H2) w d →
      postG X.K B Z G2 σ H2 (Out.opt (oIx (.lst m) d) e2) (fun d _ G' H' => ∀ v, Rp X.K B.ct (off G'.S H') v d → Q v H') → rIx X.K (.ref a) w H2 Q := by
    intro e2 G2 H2 b m d w a ha c2 he rw' p2
    cases ho : oIx (.lst m) d with
    | none =>
      rw [ho] at p2
      exact p2.elim
    | some z =>
      rw [ho] at p2
      obtain ⟨a', h2, h3⟩ := ix_own c2 he rw' ho fun v rv => p2 G2 H2 Mono.refl c2 v rv
      rw [ha] at h2
      cases h2
      exact h3
  unfold fIxO at p
  split at p
  · rename_i l hl
    obtain ⟨a, h1, h2, _⟩ := c.own (b := false) hl
    refine ⟨_, h2, G, env, c, post_imp (post_bind p) fun d e2 G2 H2 m2 c2 p2 w rw' => ?_⟩
    split at p2
    · exact key (b := false) a h2 c2 (by assumption) rw' p2
    · exact p2.elim
  · rename_i l hl
    obtain ⟨a, h1, h2, _⟩ := c.own (b := true) hl
    refine ⟨_, h2, G, env, c, post_imp (post_bind p) fun d e2 G2 H2 m2 c2 p2 w rw' => ?_⟩
    split at p2
    · exact key (b := true) a h2 c2 (by assumption) rw' p2
    · exact p2.elim
  · exact p.elim
def fNil : Ev (List D) := fun env => .val [] env
def fCons (f : Ev D) (fs : Ev (List D)) : Ev (List D) := fun env => (f env).bind fun d e1 => (fs e1).bind fun l e2 => .val (d :: l) e2
theorem da_nil : DA X B Z [] fNil := ⟨PA.weak pa_nil fun σ H Q ⟨G, env, c, p⟩ => p G H Mono.refl c [] .nil⟩
theorem da_cons (ha : DE X B Z e f) (hr : DA X B Z es fs) (hs : starEach (e :: es) X.env = (false, eval e X.env) :: starEach es X.env := by rfl) : DA X B Z (e :: es) (fCons f fs) :=
  ⟨PA.weak (pa_cons ha.pe hr.pa hs) fun σ H Q ⟨G, env, c, p⟩ =>
    ⟨G, env, c, post_imp (post_bind p) fun d e1 G1 H1 m1 c1 p1 v rv => ⟨G1, e1, c1, post_imp (post_bind p1) fun l e2 G2 H2 m2 c2 p2 vs rvs => p2 G2 H2 Mono.refl c2 (v :: vs) (.cons (rv.mono m2.same) rvs)⟩⟩⟩
def fTup (fs : Ev (List D)) : Ev D := fun env => (fs env).bind fun l e => if l.length ≤ 1000 then .val (.tup l) e else .stuck
theorem small_line {n : Nat} (h : n ≤ 1000) : n ≤ sizeLine := Nat.le_trans h (by decide)
theorem de_tup {k} (h : DA X B Z es fs) : DE X B Z (.Tuple es k pos) (fTup fs) :=
  ⟨PE.weak (pe_tup h.pa) fun σ H Q ⟨G, env, c, p⟩ => ⟨G, env, c, post_imp (post_bind p) fun l e1 G1 H1 m1 c1 p1 vs rvs => by
    by_cases hl : l.length ≤ 1000
    · rw [if_pos hl] at p1
      exact ⟨by rw [rvs.len]; exact small_line hl, fun q hq => p1 G1 _ (c1.mono (Sb.Same.upd hq)) (c1.same (Sb.Same.upd hq)) _ (new_tup c1.live hq rvs)⟩
    · rw [if_neg hl] at p1
      exact p1.elim⟩⟩
def fLst (fs : Ev (List D)) : Ev D := fun env => (fs env).bind fun l e => if l.length ≤ 1000 then .val (.lst l) e else .stuck
theorem de_lst (h : DA X B Z es fs) : DE X B Z (.List es pos) (fLst fs) :=
  ⟨PE.weak (pe_lst h.pa) fun σ H Q ⟨G, env, c, p⟩ => ⟨G, env, c, post_imp (post_bind p) fun l e1 G1 H1 m1 c1 p1 vs rvs => by
    by_cases hl : l.length ≤ 1000
    · rw [if_pos hl] at p1
      exact ⟨by rw [rvs.len]; exact small_line hl, fun q hq => p1 G1 _ (c1.mono (Sb.Same.upd hq)) (c1.same (Sb.Same.upd hq)) _ (new_lst c1.live hq rvs)⟩
    · rw [if_neg hl] at p1
      exact p1.elim⟩⟩
def fCB (o : List D → Option D) (fs : Ev (List D)) : Ev D := fun env => (fs env).bind fun l e => Out.opt (o l) e
theorem lift_cb {r : List V → Hp → VK → Prop} {o : List D → Option D} (ov : CallV X.K B.ct r o) (σ : L2.St) (H : Hp) (Q : VK) (hq : liftE X.K B Z (fCB o fs) σ H Q) : tCB r (liftA X.K B Z fs) σ H Q := by
  obtain ⟨G, env, c, p⟩ := hq
  refine ⟨G, env, c, post_imp (post_bind p) fun l e1 G1 H1 m1 c1 p1 vs rvs => ?_⟩
  cases ho : o l with
  | none =>
    rw [ho] at p1
    exact p1.elim
  | some z =>
    rw [ho] at p1
    exact ov G1.S H1 vs l z Q c1.live rvs ho fun u H' s' ru => p1 G1 H' (c1.mono s') (c1.same s') u ru
theorem de_callB {id : String} {x : Str} {px : Pos} {r : List V → Hp → VK → Prop} {o : List D → Option D} (hc : CallR X (.builtin id) r) (ov : CallV X.K B.ct r o) (hg : Gl X x) (hm : X.mg x = none) (hv : bootBuiltins x = some (.builtin id)) (ha : DA X B Z (e :: es) fs)
    (hn : x ≠ "__name__" := by decide) (hdb : (x == ("__debug__" : Str)) = false := by decide) (he : starEach (e :: es) X.env = (false, eval e X.env) :: starEach es X.env := by rfl) (hpl : (backTo pos (starEach es X.env)).any (·.1) = false := by rfl) :
    DE X B Z (.Call (.Name x px) (e :: es) [] pos) (fCB o fs) := ⟨PE.weak (pe_callB hc hg hm hv ha.pa hn hdb he hpl) (lift_cb ov)⟩
theorem de_callTy {T : String} {x : Str} {px : Pos} {r : List V → Hp → VK → Prop} {o : List D → Option D} (hc : CallR X (.type T) r) (ov : CallV X.K B.ct r o) (hg : Gl X x) (hm : X.mg x = none) (hv : bootBuiltins x = some (.type T)) (ha : DA X B Z (e :: es) fs)
    (hn : x ≠ "__name__" := by decide) (hdb : (x == ("__debug__" : Str)) = false := by decide) (he : starEach (e :: es) X.env = (false, eval e X.env) :: starEach es X.env := by rfl) (hpl : (backTo pos (starEach es X.env)).any (·.1) = false := by rfl) :
    DE X B Z (.Call (.Name x px) (e :: es) [] pos) (fCB o fs) := ⟨PE.weak (pe_callTy hc hg hm hv ha.pa hn hdb he hpl) (lift_cb ov)⟩
def fB (f : Ev D) : Ev Bool := fun env => (f env).bind fun d e => match d with
  | .bl b => .val b e
  | _ => .stuck
theorem dt_val (h : DE X B Z e f) (he : ∀ whole, isTrue e X.env whole = (do let v ← whole; standAt e.pos; holding [v] (truthy v)) := by intro _; rfl) : DT X B Z e (fB f) :=
  ⟨PT.weak (pt_val h.pe he) fun σ H Q ⟨G, env, c, p⟩ => ⟨G, env, c, post_imp (post_bind p) fun d e1 G1 H1 m1 c1 p1 v rv => by
    cases d with
    | bl k => exact ⟨k, rv.blE, p1 G1 H1 Mono.refl c1⟩
    | _ => exact p1.elim⟩⟩
theorem dt_cmp {op : CmpOp} {r : R2} {o : D → D → Option D} (ho : OpR X (compareOp op) r) (ov : OpV X.K B.ct r o) (ha : DE X B Z a f) (hb : DE X B Z b g) (hm : behindInMarks op b = false) : DT X B Z (.Compare a [op] [b] pos) (fB (fOp o f g)) :=
  ⟨PT.weak (pt_cmpR ho ha.pe hb.pe hm) fun σ H Q ⟨G, env, c, p⟩ => lift_op ov σ H _ ⟨G, env, c, post_imp (post_bind p) fun d e1 G1 H1 m1 c1 p1 v rv => by
    cases d with
    | bl k => exact ⟨k, rv.blE, p1 G1 H1 Mono.refl c1⟩
    | _ => exact p1.elim⟩⟩
/-- a value's truth -/
def D.tru : D → Option Bool
  | .non => some false
  | .bl b => some b
  | .int i => some (i != 0)
  | .str s => if s.length ≤ sizeLine then some ((s.length : Int) != 0) else none
  | .lst l => some (!l.isEmpty)
  | .tup l => some (!l.isEmpty)
  | .ctup l => some (!l.isEmpty)
  | .dk ks l => some (!l.isEmpty)
  | _ => none
theorem Rps.emp {K : PySem.W.Frag} {ct : Ct} {F : Hp} {vs : List V} {l : List D} (h : Rps K ct F vs l) : vs.isEmpty = l.isEmpty := by
  cases h <;> rfl
theorem zip_emp {α β γ : Type} : ∀ {ks : List α} {vs : List β} {l : List γ}, ks.length = vs.length → vs.length = l.length → (ks.zip vs).isEmpty = l.isEmpty
  | [], [], [], _, _ => rfl
  | _ :: _, _ :: _, _ :: _, _, _ => rfl
theorem tru_v {S : Addr → Prop} {H : Hp} {v : V} {d : D} {k : Bool} (r : Rp X.K B.ct (off S H) v d) (e : d.tru = some k) : TruV X.K v H k := by
  unfold D.tru at e
  split at e
  · cases e
    rw [r.nonE]
    exact rfl
  · cases e
    rw [r.blE]
    exact rfl
  · cases e
    rw [r.intE]
    exact rfl
  · split at e
    · cases e
      rw [r.strE]
      exact ⟨by assumption, rfl⟩
    · cases e
  · cases e
    obtain ⟨a, vs, rfl, h1, t1⟩ := r.lstE
    exact .inl ⟨vs, SqL.of (off_le _ _ h1), by rw [t1.emp]⟩
  · cases e
    obtain ⟨a, vs, rfl, h1, t1⟩ := r.tupE
    exact .inr (.inl ⟨vs, sqT_le h1, by rw [t1.emp]⟩)
  · cases e
    obtain ⟨a, vs, rfl, h1, t1⟩ := r.ctupE
    exact .inr (.inl ⟨vs, sqT_le h1, by rw [t1.emp]⟩)
  · cases e
    cases r with
    | dk hl h t => exact .inr (.inr ⟨_, off_le _ _ h, by rw [zip_emp hl t.len]⟩)
  · cases e
def fTru (f : Ev D) : Ev Bool := fun env => (f env).bind fun d e => Out.opt d.tru e
def fNotT (f : Ev Bool) : Ev Bool := fun env => (f env).bind fun b e => .val (!b) e
theorem dt_not (h : DT X B Z e ft) : DT X B Z (.UnaryOp .Not e pos) (fNotT ft) :=
  ⟨PT.weak (pt_not h.pt) fun σ H Q ⟨G, env, c, p⟩ => ⟨G, env, c, post_imp (post_bind p) fun d e1 G1 H1 m1 c1 p1 => p1 G1 H1 Mono.refl c1⟩⟩
def fAndT (f g : Ev Bool) : Ev Bool := fun env => (f env).bind fun b e => if b = true then g e else .val false e
def fOrT (f g : Ev Bool) : Ev Bool := fun env => (f env).bind fun b e => if b = true then .val true e else g e
theorem dw_and1 (h : DT X B Z a ft) : DW X B Z (.BoolOp .And [a] pos) ft := ⟨pw_and1 h.pt⟩
theorem dw_or1 (h : DT X B Z a ft) : DW X B Z (.BoolOp .Or [a] pos) ft := ⟨pw_or1 h.pt⟩
theorem dw_and (ha : DT X B Z a ft) (hb : DW X B Z (.BoolOp .And (b :: es) pos) gt) : DW X B Z (.BoolOp .And (a :: b :: es) pos) (fAndT ft gt) :=
  ⟨PW.weak (pw_and ha.pt hb.pw) fun σ H Q ⟨G, env, c, p⟩ => ⟨G, env, c, post_imp (post_bind p) fun k e1 G1 H1 m1 c1 p1 => by
    cases k with
    | true => exact iteT ⟨G1, e1, c1, p1⟩
    | false => exact iteF (p1 G1 H1 Mono.refl c1)⟩⟩
theorem dw_or (ha : DT X B Z a ft) (hb : DW X B Z (.BoolOp .Or (b :: es) pos) gt) : DW X B Z (.BoolOp .Or (a :: b :: es) pos) (fOrT ft gt) :=
  ⟨PW.weak (pw_or ha.pt hb.pw) fun σ H Q ⟨G, env, c, p⟩ => ⟨G, env, c, post_imp (post_bind p) fun k e1 G1 H1 m1 c1 p1 => by
    cases k with
    | true => exact iteT (p1 G1 H1 Mono.refl c1)
    | false => exact iteF ⟨G1, e1, c1, p1⟩⟩⟩
theorem DW.dt (h : DW X B Z e ft) : DT X B Z e ft := ⟨h.pw.pt⟩
def fNot (f : Ev D) : Ev D := fun env => (f env).bind fun d e => match d with
  | .bl b => .val (.bl (!b)) e
  | _ => .stuck
theorem de_not (h : DE X B Z e f) : DE X B Z (.UnaryOp .Not e pos) (fNot f) :=
  ⟨PE.weak (pe_not h.pe) fun σ H Q ⟨G, env, c, p⟩ => ⟨G, env, c, post_imp (post_bind p) fun d e1 G1 H1 m1 c1 p1 v rv => by
    cases d with
    | bl k => exact ⟨k, rv.blE, p1 G1 H1 Mono.refl c1 _ (.bl _)⟩
    | _ => exact p1.elim⟩⟩
def fAnd (f g : Ev D) : Ev D := fun env => (f env).bind fun d e => match d with
  | .bl true => g e
  | .bl false => .val (.bl false) e
  | _ => .stuck
def fOr (f g : Ev D) : Ev D := fun env => (f env).bind fun d e => match d with
  | .bl true => .val (.bl true) e
  | .bl false => g e
  | _ => .stuck
theorem de_one {op} (h : DE X B Z a f) : DE X B Z (.BoolOp op [a] pos) f := ⟨pe_one h.pe⟩
theorem de_and (ha : DE X B Z a f) (hb : DE X B Z (.BoolOp .And (b :: es) pos) g) : DE X B Z (.BoolOp .And (a :: b :: es) pos) (fAnd f g) :=
  ⟨PE.weak (pe_and ha.pe hb.pe) fun σ H Q ⟨G, env, c, p⟩ => ⟨G, env, c, post_imp (post_bind p) fun d e1 G1 H1 m1 c1 p1 v rv => by
    cases d with
    | bl k =>
      refine ⟨k, rv.blE, ?_⟩
      cases k with
      | true => exact iteT ⟨G1, e1, c1, p1⟩
      | false => exact iteF (p1 G1 H1 Mono.refl c1 _ (.bl _))
    | _ => exact p1.elim⟩⟩
theorem de_or (ha : DE X B Z a f) (hb : DE X B Z (.BoolOp .Or (b :: es) pos) g) : DE X B Z (.BoolOp .Or (a :: b :: es) pos) (fOr f g) :=
  ⟨PE.weak (pe_or ha.pe hb.pe) fun σ H Q ⟨G, env, c, p⟩ => ⟨G, env, c, post_imp (post_bind p) fun d e1 G1 H1 m1 c1 p1 v rv => by
    cases d with
    | bl k =>
      refine ⟨k, rv.blE, ?_⟩
      cases k with
      | true => exact iteT (p1 G1 H1 Mono.refl c1 _ (.bl _))
      | false => exact iteF ⟨G1, e1, c1, p1⟩
    | _ => exact p1.elim⟩⟩
def fIte {α : Type} (t : Ev Bool) (f g : Ev α) : Ev α := fun env => (t env).bind fun b e => if b = true then f e else g e
theorem de_ite (ht : DT X B Z c ft) (ha : DE X B Z a f) (hb : DE X B Z b g) : DE X B Z (.IfExp c a b pos) (fIte ft f g) :=
  ⟨PE.weak (pe_ifExp ht.pt ha.pe hb.pe) fun σ H Q ⟨G, env, c, p⟩ => ⟨G, env, c, post_imp (post_bind p) fun k e1 G1 H1 m1 c1 p1 => by
    cases k with
    | true => exact iteT ⟨G1, e1, c1, p1⟩
    | false => exact iteF ⟨G1, e1, c1, p1⟩⟩⟩
def fChain (o o' : D → D → Option D) (f g h : Ev D) : Ev D := fun env => (f env).bind fun d e1 => (g e1).bind fun e e2 => match o d e with
  | some (.bl true) => (h e2).bind fun k e3 => Out.opt (o' e k) e3
  | some (.bl false) => .val (.bl false) e2
  | _ => .stuck
theorem lift_chain {r r' : R2} {o o' : D → D → Option D} (ov : OpV X.K B.ct r o) (ov' : OpV X.K B.ct r' o') (σ : L2.St) (H : Hp) (Q : VK) (hq : liftE X.K B Z (fChain o o' f g h) σ H Q) :
    tChain r r' (liftE X.K B Z f) (liftE X.K B Z g) (liftE X.K B Z h) σ H Q := by
  obtain ⟨G, env, c, p⟩ := hq
  refine ⟨G, env, c, post_imp (post_bind p) fun d e1 G1 H1 m1 c1 p1 v rv => ⟨G1, e1, c1, post_imp (post_bind p1) fun d2 e2 G2 H2 m2 c2 p2 w rw' => ?_⟩⟩
  split at p2
  · rename_i ho
    refine ov G2.S H2 v w d d2 _ _ c2.live (rv.mono m2.same) rw' ho fun u H' s' ru => ⟨true, ru.blE, iteT ⟨G2, e2, c2.same s', ?_⟩⟩
    refine post_imp (post_later (c2.mono s') (post_bind p2)) fun k e3 G3 H3 m3 c3 p4 t rt => ?_
    cases ho' : o' d2 k with
    | none =>
      rw [ho'] at p4
      exact p4.elim
    | some z =>
      rw [ho'] at p4
      exact ov' G3.S H3 w t d2 k z Q c3.live ((rw'.mono (off_same s')).mono m3.same) rt ho' fun u H' s' ru => p4 G3 H' (c3.mono s') (c3.same s') u ru
  · rename_i ho
    exact ov G2.S H2 v w d d2 _ _ c2.live (rv.mono m2.same) rw' ho fun u H' s' ru => ⟨false, ru.blE, iteF (p2 G2 H' (c2.mono s') (c2.same s') _ (.bl _))⟩
  · exact p2.elim
theorem de_chain {op op' : CmpOp} {r r' : R2} {o o' : D → D → Option D} (ho : OpR X (compareOp op) r) (ov : OpV X.K B.ct r o) (ho' : OpR X (compareOp op') r') (ov' : OpV X.K B.ct r' o') (ha : DE X B Z a f) (hb : DE X B Z b g) (hc : DE X B Z c h)
    (hm : lastMarks [op, op'] [b, c] = false := by with_unfolding_all rfl) : DE X B Z (.Compare a [op, op'] [b, c] pos) (fChain o o' f g h) := ⟨PE.weak (pe_chain ho ho' ha.pe hb.pe hc.pe hm) (lift_chain ov ov')⟩
theorem dt_chain {op op' : CmpOp} {r r' : R2} {o o' : D → D → Option D} (ho : OpR X (compareOp op) r) (ov : OpV X.K B.ct r o) (ho' : OpR X (compareOp op') r') (ov' : OpV X.K B.ct r' o') (ha : DE X B Z a f) (hb : DE X B Z b g) (hc : DE X B Z c h)
    (hm : lastMarks [op, op'] [b, c] = false := by with_unfolding_all rfl) : DT X B Z (.Compare a [op, op'] [b, c] pos) (fB (fChain o o' f g h)) :=
  ⟨PT.weak (pt_chain ho ho' ha.pe hb.pe hc.pe hm) fun σ H Q ⟨G, env, c, p⟩ => lift_chain ov ov' σ H _ ⟨G, env, c, post_imp (post_bind p) fun d e1 G1 H1 m1 c1 p1 v rv => by
    cases d with
    | bl k => exact ⟨k, rv.blE, p1 G1 H1 Mono.refl c1⟩
    | _ => exact p1.elim⟩⟩
def fNoPart : Ev (Option Int) := fun env => .val none env
def fPart (f : Ev D) : Ev (Option Int) := fun env => (f env).bind fun d e => match d with
  | .int i => .val (some i) e
  | _ => .stuck
theorem do_none : DO X B Z none fNoPart := ⟨PO.weak po_none fun σ H Q ⟨G, env, c, p⟩ => p G H Mono.refl c⟩
theorem do_some (h : DE X B Z e f) : DO X B Z (some e) (fPart f) := ⟨PO.weak (po_some h.pe) fun σ H Q ⟨G, env, c, p⟩ => ⟨G, env, c, post_imp (post_bind p) fun d e1 G1 H1 m1 c1 p1 v rv => by
    cases d with
    | int k => exact ⟨k, rv.intE, p1 G1 H1 Mono.refl c1⟩
    | _ => exact p1.elim⟩⟩
def fSl (o : D → Option Int → Option Int → Option D) (f : Ev D) (lo hi : Ev (Option Int)) : Ev D := fun env => (f env).bind fun d e1 => (lo e1).bind fun l e2 => (hi e2).bind fun u e3 => Out.opt (o d l u) e3
theorem de_slice {r : V → Option Int → Option Int → Hp → VK → Prop} {o : D → Option Int → Option Int → Option D} {lo hi : Option Expr} {fl fh : Ev (Option Int)} {p2 : Pos} (hr : SlR X r) (ov : SlV X.K B.ct r o) (he : DE X B Z e f) (hl : DO X B Z lo fl) (hu : DO X B Z hi fh) :
    DE X B Z (.Subscript e (.Slice lo hi none p2) pos) (fSl o f fl fh) :=
  ⟨PE.weak (pe_slice hr he.pe hl.po hu.po) fun σ H Q ⟨G, env, c, p⟩ => ⟨G, env, c, post_imp (post_bind p) fun d e1 G1 H1 m1 c1 p1 v rv => ⟨G1, e1, c1, post_imp (post_bind p1) fun l e2 G2 H2 m2 c2 p2 =>
    ⟨G2, e2, c2, post_imp (post_bind p2) fun u e3 G3 H3 m3 c3 p3 => by
      cases ho : o d l u with
      | none =>
        rw [ho] at p3
        exact p3.elim
      | some z =>
        rw [ho] at p3
        exact ov G3.S H3 v d z l u Q c3.live ((rv.mono m2.same).mono m3.same) ho fun u H' s' ru => p3 G3 H' (c3.mono s') (c3.same s') u ru⟩⟩⟩⟩
end
end Vl
set_option Elab.async false
set_option linter.all false
set_option maxRecDepth 100000
set_option maxHeartbeats 2000000
namespace Sb
open PySem PySem.W PySem.Calls PyProof.Rows
theorem meets_enum1 {v : Value} {o : Obj} {Z : Heap → Prop} (B : Begins v o Z) :
    Meets (Builtin.«enumerate.__new__» ⟨[.type "enumerate", v], []⟩) (fun _ R s => Z s.heap ∧
      R (.ok (.ret (.ref (s.heap.push o).objs.size))) { s with heap := (s.heap.push o).push { cls := .type "enumerate", data := .fields #[.none, .bool false, .ref s.heap.objs.size, rawInt 0, .none, .none] } }) :=
  .of_wp fun prog w A R s hz => by
    obtain ⟨hp, gs, dr, tk, os⟩ := s
    obtain ⟨z1, fin⟩ := hz
    have hsub := sub_enumerate
    have begun : ∀ {A2 : Around} {E2 : Value → Shared → Prop} {Q2 : Value → Shared → Prop}, Q2 (.ref hp.objs.size) ⟨hp.push o, gs, dr, tk, os⟩ → wpAny (model prog w) A2 (pyIter v) Q2 E2 ⟨hp, gs, dr, tk, os⟩ :=
      fun q => B.iter prog w _ _ ⟨hp, gs, dr, tk, os⟩ _ z1 q
    wp_walk using begun
    refine wpAny_stack_any fun st => wpAny_pure ?_
    split
    · rename_i c _ _ _ _ _
      cases (c == Value.type "enumerate")
      all_goals (wp_walk using begun; exact ⟨_, rfl, fin⟩)
    · wp_walk using begun
      exact ⟨_, rfl, fin⟩
end Sb
namespace Sb
open PySem PySem.W PySem.Calls PyProof.Rows
section
variable {prog : Program} {w : World} {A : Around} {E : Value → Shared → Prop} {s : Shared}
/-- enumerate(v): its two new cells -/
theorem enum1_begins {v : Value} {o : Obj} {Z : Heap → Prop} {Q : Value → Shared → Prop} (B : Begins v o Z) (z1 : Z s.heap)
    (fin : ∀ h', IsEnum h' (s.heap.objs.size + 1) s.heap.objs.size 0 .none → h'.get? s.heap.objs.size = some o → (∀ b u, s.heap.get? b = some u → h'.get? b = some u) → Q (.ref (s.heap.objs.size + 1)) { s with heap := h' }) :
    wpAny (model prog w) A (call (.type "enumerate") [v]) Q E s := by
  have grow : (s.heap.push o).objs.size = s.heap.objs.size + 1 := Heap.size_push ..
  have top : IsEnum ((s.heap.push o).push { cls := .type "enumerate", data := .fields #[.none, .bool false, .ref s.heap.objs.size, rawInt 0, .none, .none] }) (s.heap.objs.size + 1) s.heap.objs.size 0 .none := by
    have q := Heap.get?_push_size (s.heap.push o) (o := { cls := .type "enumerate", data := .fields #[.none, .bool false, .ref s.heap.objs.size, rawInt 0, .none, .none] }) rfl
    rwa [grow] at q
  refine callType_new F.called_enumerate (by decide) (F.typeCall_enumerate_1 _) (F.newCall_enumerate_1 _) (fun obj => F.args_object_init_2 obj _) F.entry_enumerate_new (meets_enum1 B) ⟨z1, ?_⟩
  show _ ∧ _
  rw [grow]
  exact ⟨⟨_, top, rfl⟩, fin _ top (Heap.get?_push_of_some _ (Heap.get?_push_size _ B.free)) fun b u x => Heap.get?_push_of_some _ (Heap.get?_push_of_some _ x)⟩
end
end Sb
namespace Sb
open PySem PySem.Spec PySem.Calls PyProof.Rows L2
/-- the tuple at a, its items xs, in new pairs with their numbers -/
def ItEt (K : PySem.W.Frag) (a : Addr) (xs : List V) : It :=
  ⟨fun i H => SqT K H a xs ∧ i < xs.length, fun i H v H' => ∃ t x, v = .ref t ∧ H t = none ∧ H' = upd H t (.tup [.int (i : Nat), x]) ∧ xs[i]? = some x, fun i H => SqT K H a xs ∧ i = xs.length⟩
theorem turn_enumT {P : Program} {w : World} {K : PySem.W.Frag} {elts : List Expr} {kk : Nat} {tpos : Pos} (a e it : Addr) (xs : List V) :
    Turn P w K (.Tuple elts kk tpos) (ItEt K a xs) [e, it] e (fun i h => (∃ old, IsEnum h e it ((i : Nat) : Int) old) ∧ h.IsTupleIter it a i ∧ e ≠ it ∧ a ≠ it ∧ a ≠ e) where
  mem := by simp
  obj := fun i h st b hb => by
    obtain ⟨⟨old, z⟩, ⟨o, ho, _, hd⟩, _⟩ := st
    rcases (show b = e ∨ b = it by simpa using hb) with rfl | rfl
    · exact ⟨_, z, fun v q => nomatch q⟩
    · exact ⟨o, ho, fun v q => by rw [hd] at q; cases q⟩
  keep := fun i h h' st k => by
    obtain ⟨⟨old, z⟩, z2, rest⟩ := st
    exact ⟨⟨old, k e (by simp) _ z⟩, z2.at fun o q => k it (by simp) o q, rest⟩
  item := by
    intro X hP hw hK calm i pins s σ H E I free st go
    subst hP hw hK
    obtain ⟨⟨old, he⟩, hit, ne, nai, nae⟩ := st
    obtain ⟨hq, hlt⟩ := go
    obtain ⟨its, rv, tp, hz⟩ := I.tuple hq
    have hx : xs[i]? = some xs[i] := List.getElem?_eq_getElem hlt
    obtain ⟨u, hu, ru⟩ := rv.get hx
    have sz : i < its.toArray.size := by
      have := (List.getElem?_eq_some_iff.mp hu).1
      simpa using this
    have hel : e < s.heap.objs.size := Heap.lt_size he
    have hil : it < s.heap.objs.size := by
      obtain ⟨_, q, _⟩ := hit
      exact Heap.lt_size q
    refine wpAny_pyNext_enum_itemD (fp := [it, a]) (Draws.tuple (A := X.A.in1) (I.ok.hd calm) it a nai its.toArray) he ⟨hit, tp⟩ sz ne (by simp; exact ⟨ne, Ne.symm nae⟩) fun x h' tk px out st' hT hsz hk => ?_
    obtain rfl : x = u := by
      have : its[i]? = some x := by simpa using px
      rw [hu] at this
      exact (Option.some.inj this).symm
    refine ⟨_, rfl, wpAny_letOwnedTupleGo_enum (s := { s with heap := h', toks := tk + 1 }) out fun h2 he2 sb => ?_⟩
    have hT2 : h2.get? s.heap.objs.size = some { cls := .type "tuple", data := .seq #[.int i tk, x] } := (sb.2 _ (Nat.ne_of_gt hel)).trans hT
    have new : ObjOk X.prog X.w (upd H s.heap.objs.size (.tup [.int (i : Nat), xs[i]])) h2 s.heap.objs.size (.tup [.int (i : Nat), xs[i]]) :=
      ⟨by show 2 ≤ sizeLine; decide, [.int i tk, x], .cons ⟨_, rfl⟩ (.cons ru .nil), ⟨_, hT2, rfl, _, rfl⟩⟩
    have I1 : Inv X pins σ (upd H s.heap.objs.size (.tup [.int (i : Nat), xs[i]])) { s with heap := h2, toks := tk + 1 } :=
      I.turnedNew (ch := [e, it]) (fun b ob hb q => (sb.2 b (fun z => hb (by simp [z]))).trans (hk b ob (fun z => hb (by simp [z])) (fun z => hb (by simp [z])) q)) free (Nat.le_refl _) new
    refine ⟨.ref s.heap.objs.size, _, I1, rfl, ⟨_, xs[i], rfl, I.hok.fresh (Nat.le_refl _), rfl, hx⟩, ⟨⟨x, ?_⟩, st'.1.at fun o q => (sb.2 it (Ne.symm ne)).trans q, ne, nai, nae⟩, fun b hb => ?_⟩
    · rw [show ((i + 1 : Nat) : Int) = (i : Int) + 1 by omega]
      exact he2
    · have hb' : b < s.heap.objs.size := by
        rcases (show b = e ∨ b = it by simpa using hb) with rfl | rfl
        · exact hel
        · exact hil
      rw [upd_ne (Nat.ne_of_lt hb')]
      exact (free b hb).1
  done := by
    intro X hP hw hK calm i pins s σ H E I free st stop
    subst hP hw hK
    obtain ⟨⟨old, he⟩, hit, ne, nai, nae⟩ := st
    obtain ⟨hq, rfl⟩ := stop
    obtain ⟨its, rv, tp, hz⟩ := I.tuple hq
    obtain ⟨f0, f1, f2, f3, f4, f5⟩ := free it (by simp)
    have hl := rv.length
    have hn : xs.length = its.toArray.size := by
      rw [List.size_toArray]
      exact hl
    exact wpAny_pyNext_enum_endD (Draws.tuple (A := X.A.in1) (I.ok.hd calm) it a nai its.toArray) he ⟨by rw [← hn]; exact hit, tp⟩ fun h' eb => ⟨rfl, I.turned (t' := s.toks) (fun b o hb q => eb b o hb q) f0 f1 f3 f4 f5⟩
  self := fun A i s Q E st h => by
    obtain ⟨⟨_, he⟩, _⟩ := st
    exact wpAny_pyIter_enum he h
theorem walk_enumT {K : PySem.W.Frag} {a : Addr} {xs : List V} : Walk (ItEt K a xs) xs.length (fun H => SqT K H a xs) (YPair (fun i => some (.int (i : Nat))) (fun i => xs[i]?)) :=
  ⟨fun i _ hi q => ⟨q, hi⟩, fun _ q => ⟨q, rfl⟩, fun i H v H' _ q y => by
    obtain ⟨t, x, h1, h2, h3, h4⟩ := y
    exact ⟨t, .int (i : Nat), x, h1, h2, h3, rfl, h4⟩⟩
/-- a list stays a list, a tuple a tuple -/
def StayE (K : PySem.W.Frag) (a : Addr) (xs : List V) (H H' : Hp) : Prop := (SqL K H a xs → SqL K H' a xs) ∧ (SqT K H a xs → SqT K H' a xs)
theorem StayE.same {K : PySem.W.Frag} {a : Addr} {xs : List V} {H H' : Hp} (s : Same H H') : StayE K a xs H H' := ⟨fun z => s.seq z, fun z => sqT_same s z⟩
/-- a tracked list or tuple -/
def Mach (H : Hp) (a : Addr) (xs : List V) : Prop := H a = some (.lst xs) ∨ H a = some (.tup xs)
theorem Mach.same {H H' : Hp} {a : Addr} {xs : List V} (h : Mach H a xs) (s : Same H H') : Mach H' a xs := h.elim (fun z => .inl (s _ _ z)) fun z => .inr (s _ _ z)
theorem Mach.stay {K : PySem.W.Frag} {H H' : Hp} {a : Addr} {xs : List V} (s : Same H H') : StayE K a xs H H' := StayE.same s
end Sb
set_option Elab.async false
set_option linter.all false
set_option maxRecDepth 100000
set_option maxHeartbeats 2000000
namespace Vl
open PySem PySem.Spec PySem.Calls PyProof.Rows L2 Sb
inductive Fl where
  | nx | rt (n : Bool) (d : D) | bk | ct
def postS (K : PySem.W.Frag) (B : Bs) (Z : ZX) (G : Gh) (H : Hp) (o : Out Fl) (E : Ends) : Prop := match o with
  | .stuck => False
  | .val fl env => ∀ G' σ' H', Mono G H G' H' → Cfg K B G' env σ' H' → match fl with
    | .nx => E.nx σ' H'
    | .rt false d => ∀ v, Rp K B.ct (off G'.S H') v d → E.rt v H'
    | .rt true d => ∀ a, B.H0 a = none → G'.S a → OwnAt K B.ct H' (off G'.S H') a d → E.rt (.ref a) H'
    | .bk => E.bk σ' H'
    | .ct => E.ct σ' H'
  | .exc c as env => ∀ G' σ' H' dd, Mono G H G' H' → Cfg K B G' env σ' H' → ExcAt K B.ct (off G'.S H') dd c as → Z c as env G' σ' H' dd
def liftS (K : PySem.W.Frag) (B : Bs) (Z : ZX) (g : Ev Fl) : TS := fun E σ H => ∃ G env, Cfg K B G env σ H ∧ postS K B Z G H (g env) E
structure DS (X : Cx) (B : Bs) (Z : ZX) (s : Stmt) (g : Ev Fl) : Prop where
  ps : PS X s (liftS X.K B Z g)
structure DSs (X : Cx) (B : Bs) (Z : ZX) (s : List Stmt) (g : Ev Fl) : Prop where
  pss : PSs X s (liftS X.K B Z g)
section
variable {K : PySem.W.Frag} {B : Bs} {Z : ZX} {G G1 : Gh} {σ : L2.St} {H H1 : Hp} {α : Type}
theorem postS_later {o : Out Fl} {E : Ends} (m : Mono G H G1 H1) (h : postS K B Z G H o E) : postS K B Z G1 H1 o E := by
  cases o with
  | stuck => exact h
  | val a e => exact fun G2 σ2 H2 m2 c => h _ _ _ (m.trans m2) c
  | exc c as e => exact fun G2 σ2 H2 dd m2 c x => h _ _ _ dd (m.trans m2) c x
theorem exprS0 {o : Out α} {k : α → List Slot → Out Fl} {E : Ends} (h : postS K B Z G H (o.bind k) E) : postG K B Z G σ H o (fun a e _ _ => postS K B Z G H (k a e) E) := by
  cases o with
  | stuck => exact h
  | val a e => exact fun G1 H1 m c => h
  | exc cc as e => exact fun G1 H1 dd m c x => (show postS K B Z G H (.exc cc as e) E from h) G1 σ H1 dd m c x
theorem exprS {o : Out α} {k : α → List Slot → Out Fl} {E : Ends} (h : postS K B Z G H (o.bind k) E) : postG K B Z G σ H o (fun a e G1 H1 => postS K B Z G1 H1 (k a e) E) := by
  cases o with
  | stuck => exact h
  | val a e => exact fun G1 H1 m c => postS_later m (show postS K B Z G H (k a e) E from h)
  | exc cc as e => exact fun G1 H1 dd m c x => (show postS K B Z G H (.exc cc as e) E from h) G1 σ H1 dd m c x
end
section
variable {X : Cx} {st : Stmt} {sts : List Stmt}
theorem PS.weak {t t' : TS} (h : PS X st t) (k : ∀ E σ H, t' E σ H → t E σ H) : PS X st t' := ⟨fun pins s σ H Q I q => h.run pins s σ H Q I (k Q σ H q)⟩
theorem PSs.weak {t t' : TS} (h : PSs X sts t) (k : ∀ E σ H, t' E σ H → t E σ H) : PSs X sts t' := ⟨fun pins s σ H Q I q => h.run pins s σ H Q I (k Q σ H q)⟩
theorem PG.weak {tg : Expr} {t t' : TG} (h : PG X tg t) (k : ∀ v σ H Q, t' v σ H Q → t v σ H Q) : PG X tg t' := ⟨fun pins s σ H v u Q I r q => h.run pins s σ H v u Q I r (k v σ H Q q)⟩
theorem PGs.weak {tg : List Expr} {t t' : TGs} (h : PGs X tg t) (k : ∀ v σ H Q, t' v σ H Q → t v σ H Q) : PGs X tg t' := ⟨fun pins s σ H v u Q I r q => h.run pins s σ H v u Q I r (k v σ H Q q)⟩
theorem PI.weak {tg it : Expr} {t t' : TI} (h : PI X tg it t) (k : ∀ σ H Q, t' σ H Q → t σ H Q) : PI X tg it t' := ⟨fun pins s σ H Q I q => h.run pins s σ H Q I (k σ H Q q)⟩
theorem PTs.weak {ifs : List Expr} {t t' : TT} (h : PTs X ifs t) (k : ∀ σ H Q, t' σ H Q → t σ H Q) : PTs X ifs t' := ⟨fun pins s σ H Q I q => h.run pins s σ H Q I (k σ H Q q)⟩
end
inductive Pat where
  | nm (i : Nat) | tp (l : List Pat)
  /-- .. of a list -/
  | ul (l : List Pat)
mutual
def Pat.put : Pat → D → List Slot → Option (List Slot)
  | .nm i, d, e => some (e.set i (.sh d))
  | .tp ps, .tup l, e => Pat.puts ps l e
  | .tp ps, .ctup l, e => Pat.puts ps l e
  | .tp _, _, _ => none
  | .ul ps, .lst l, e => Pat.puts ps l e
  | .ul _, _, _ => none
def Pat.puts : List Pat → List D → List Slot → Option (List Slot)
  | [], [], e => some e
  | p :: ps, d :: ds, e => match Pat.put p d e with
    | some e' => Pat.puts ps ds e'
    | none => none
  | _, _, _ => none
end
mutual
def Pat.wi (vs : List Nat) : Pat → Bool
  | .nm i => vs.contains i
  | .tp l => Pat.wis vs l
  | .ul l => Pat.wis vs l
def Pat.wis (vs : List Nat) : List Pat → Bool
  | [] => true
  | p :: l => Pat.wi vs p && Pat.wis vs l
end
def liftG (K : PySem.W.Frag) (B : Bs) (p : Pat) : TG := fun v σ H Q => ∃ G env d env', Cfg K B G env σ H ∧ Rp K B.ct (off G.S H) v d ∧ p.put d env = some env' ∧ ∀ σ', Cfg K B G env' σ' H → (∀ vs, p.wi vs = true → wipe σ' vs = wipe σ vs) → Q σ' H
def liftGs (K : PySem.W.Frag) (B : Bs) (p : List Pat) : TGs := fun v σ H Q => ∃ G env d env', Cfg K B G env σ H ∧ Rps K B.ct (off G.S H) v d ∧ Pat.puts p d env = some env' ∧ ∀ σ', Cfg K B G env' σ' H → (∀ vs, Pat.wis vs p = true → wipe σ' vs = wipe σ vs) → Q σ' H
structure DG (X : Cx) (B : Bs) (tg : Expr) (p : Pat) : Prop where
  pg : PG X tg (liftG X.K B p)
structure DGs (X : Cx) (B : Bs) (tg : List Expr) (p : List Pat) : Prop where
  pgs : PGs X tg (liftGs X.K B p)
theorem wipe_set {σ : L2.St} {v : Option V} {i : Nat} : ∀ {vs : List Nat}, i ∈ vs → wipe (σ.set i v) vs = wipe σ vs
  | w :: vs, h => by
    unfold wipe
    by_cases e : i ∈ vs
    · rw [wipe_set e]
    · have ew : i = w := by
        rcases List.mem_cons.mp h with z | z
        · exact z
        · exact absurd z e
      subst ew
      have key : ∀ (us : List Nat), (wipe (σ.set i v) us).set i none = (wipe σ us).set i none := by
        intro us
        induction us with
        | nil =>
          show (σ.set i v).set i none = σ.set i none
          rw [List.set_set]
        | cons u us ih =>
          show ((wipe (σ.set i v) us).set u none).set i none = ((wipe σ us).set u none).set i none
          by_cases eu : u = i
          · subst eu
            rw [List.set_set, List.set_set, ih]
          · rw [List.set_comm _ _ eu, ih, List.set_comm _ _ (Ne.symm eu)]
      exact key vs
section
variable {X : Cx} {B : Bs} {x : Str} {pos : Pos} {i : Nat}
theorem dg_name (hN : X.N.Nodup) (hi : X.N[i]? = some x) (hx : Loc X.env.scope x) (hf : X.fn x = true ∨ X.env.scope.names.lookup x = some .local := by first | exact .inl rfl | exact .inr rfl | assumption) : DG X B (.Name x pos) (.nm i) :=
  ⟨PG.weak (pg_name hN hi hx hf) fun v σ H Q ⟨G, env, d, env', c, r, e, k⟩ => by
    simp only [Pat.put] at e
    cases e
    exact k _ (c.put r) fun vs h => wipe_set (by simpa [Pat.wi] using h)⟩
theorem dgs_nil : DGs X B [] [] := ⟨PGs.weak pgs_nil fun v σ H Q ⟨G, env, d, env', c, r, e, k⟩ => by
  cases r with
  | nil =>
    simp only [Pat.puts] at e
    cases e
    exact ⟨rfl, k _ c fun _ _ => rfl⟩
  | cons _ _ => simp [Pat.puts] at e⟩
theorem dgs_cons {e : Expr} {es : List Expr} {p : Pat} {ps : List Pat} (h1 : DG X B e p) (h2 : DGs X B es ps) (hs : (assignEach (e :: es) X.env).map (·.2) = assign e X.env :: (assignEach es X.env).map (·.2) := by rfl) : DGs X B (e :: es) (p :: ps) :=
  ⟨PGs.weak (pgs_cons h1.pg h2.pgs hs) fun v σ H Q ⟨G, env, d, env', c, r, ee, k⟩ => by
    cases r with
    | nil => simp [Pat.puts] at ee
    | @cons v vs d ds rv rvs =>
      simp only [Pat.puts] at ee
      cases hp : p.put d env with
      | none =>
        rw [hp] at ee
        cases ee
      | some e1 =>
        rw [hp] at ee
        refine ⟨_, _, rfl, G, env, d, e1, c, rv, hp, fun σ' c' w1 => ⟨G, e1, ds, env', c', rvs, ee, fun σ2 c2 w2 => k σ2 c2 fun us h => ?_⟩⟩
        simp only [Pat.wis, Bool.and_eq_true] at h
        rw [w2 us h.2, w1 us h.1]⟩
theorem dg_tup {es : List Expr} {k : Nat} {ps : List Pat} {n : Nat} (hc : X.calm = true) (h : DGs X B es ps) (hp : ps.length = n := by rfl) (hn : (assignEach es X.env).length = n := by rfl) (hst : (assignEach es X.env).findIdx? (·.1) = none := by rfl) :
    DG X B (.Tuple es k pos) (.tp ps) :=
  ⟨PG.weak (pg_tup hc h.pgs hn hst) fun v σ H Q ⟨G, env, d, env', c, r, e, k⟩ => by
    have len : ∀ (ps : List Pat) (l : List D) (env env' : List Slot), Pat.puts ps l env = some env' → l.length = ps.length := by
      intro ps
      induction ps with
      | nil =>
        intro l env env' h
        cases l with
        | nil => rfl
        | cons _ _ => simp [Pat.puts] at h
      | cons p ps ih =>
        intro l env env' h
        cases l with
        | nil => simp [Pat.puts] at h
        | cons d l =>
          simp only [Pat.puts] at h
          split at h
          · simp [ih _ _ _ h]
          · cases h
    cases d with
    | tup l =>
      simp only [Pat.put] at e
      obtain ⟨a, vs, rfl, h1, t1⟩ := r.tupE
      exact ⟨a, vs, rfl, sqT_le h1, by rw [t1.len, len _ _ _ _ e, hp], G, env, l, env', c, t1, e, fun σ' c' w => k σ' c' fun us hu => w us (by simpa [Pat.wi] using hu)⟩
    | ctup l =>
      simp only [Pat.put] at e
      obtain ⟨a, vs, rfl, h1, t1⟩ := r.ctupE
      exact ⟨a, vs, rfl, sqT_le h1, by rw [t1.len, len _ _ _ _ e, hp], G, env, l, env', c, t1, e, fun σ' c' w => k σ' c' fun us hu => w us (by simpa [Pat.wi] using hu)⟩
    | _ => simp [Pat.put] at e⟩
theorem dg_unl {es : List Expr} {k : Nat} {ps : List Pat} {n : Nat} (hc : X.calm = true) (h : DGs X B es ps) (hp : ps.length = n := by rfl) (hn : (assignEach es X.env).length = n := by rfl) (hst : (assignEach es X.env).findIdx? (·.1) = none := by rfl) :
    DG X B (.Tuple es k pos) (.ul ps) :=
  ⟨PG.weak (pg_unl hc h.pgs hn hst) fun v σ H Q ⟨G, env, d, env', c, r, e, k⟩ => by
    have len : ∀ (ps : List Pat) (l : List D) (env env' : List Slot), Pat.puts ps l env = some env' → l.length = ps.length := by
      intro ps
      induction ps with
      | nil =>
        intro l env env' h
        cases l with
        | nil => rfl
        | cons _ _ => simp [Pat.puts] at h
      | cons p ps ih =>
        intro l env env' h
        cases l with
        | nil => simp [Pat.puts] at h
        | cons d l =>
          simp only [Pat.puts] at h
          split at h
          · simp [ih _ _ _ h]
          · cases h
    cases d with
    | lst l =>
      simp only [Pat.put] at e
      obtain ⟨a, vs, rfl, h1, t1⟩ := r.lstE
      exact ⟨a, vs, rfl, SqL.of (off_le _ _ h1), by rw [t1.len, len _ _ _ _ e, hp], G, env, l, env', c, t1, e, fun σ' c' w => k σ' c' fun us hu => w us (by simpa [Pat.wi] using hu)⟩
    | _ => simp [Pat.put] at e⟩
end
section
variable {X : Cx} {B : Bs} {Z : ZX} {a b c e : Expr} {es : List Expr} {pos : Pos} {f g : Ev D} {fs : Ev (List D)} {ft : Ev Bool} {st : Stmt} {sts us : List Stmt} {s t : Ev Fl}
def fNx : Ev Fl := fun env => .val .nx env
theorem dss_nil : DSs X B Z [] fNx := ⟨PSs.weak pss_nil fun E σ H ⟨G, env, c, p⟩ => p G σ H Mono.refl c⟩
def fSeq (s t : Ev Fl) : Ev Fl := fun env => match s env with
  | .val .nx e => t e
  | o => o
theorem dss_cons (h1 : DS X B Z st s) (h2 : DSs X B Z sts t) : DSs X B Z (st :: sts) (fSeq s t) :=
  ⟨PSs.weak (pss_cons h1.ps h2.pss) fun E σ H ⟨G, env, c, p⟩ => ⟨G, env, c, by
    unfold fSeq at p
    cases hs : s env with
    | stuck =>
      rw [hs] at p
      exact p
    | val fl e =>
      cases fl with
      | nx =>
        rw [hs] at p
        exact fun G1 σ1 H1 m1 c1 => ⟨G1, e, c1, postS_later m1 p⟩
      | rt n d => cases n <;> (rw [hs] at p; exact p)
      | bk =>
        rw [hs] at p
        exact p
      | ct =>
        rw [hs] at p
        exact p
    | exc cc as e =>
      rw [hs] at p
      exact p⟩⟩
theorem dss_one (h : DS X B Z st s) : DSs X B Z [st] s := ⟨pss_one h.ps⟩
def fBk : Ev Fl := fun env => .val .bk env
def fCt : Ev Fl := fun env => .val .ct env
theorem ds_continue : DS X B Z (.Continue pos) fCt := ⟨PS.weak ps_continue fun E σ H ⟨G, env, c, p⟩ => p G σ H Mono.refl c⟩
def fDrop (f : Ev D) : Ev Fl := fun env => (f env).bind fun _ e => .val .nx e
theorem ds_expr (he : DE X B Z e f) (hs : swapsWith e none pos.line X.env = pure false := by rfl) : DS X B Z (.Expr e pos) (fDrop f) :=
  ⟨PS.weak (ps_expr he.pe hs) fun E σ H ⟨G, env, c, p⟩ => ⟨G, env, c, post_imp (exprS p) fun d e1 G1 H1 m1 c1 p1 v rv => p1 G1 σ H1 Mono.refl c1⟩⟩
def fRet (f : Ev D) : Ev Fl := fun env => (f env).bind fun d e => .val (.rt false d) e
theorem ds_ret (he : DE X B Z e f) : DS X B Z (.Return (some e) pos) (fRet f) :=
  ⟨PS.weak (ps_ret he.pe) fun E σ H ⟨G, env, c, p⟩ => ⟨G, env, c, post_imp (exprS p) fun d e1 G1 H1 m1 c1 p1 v rv => p1 G1 σ H1 Mono.refl c1 v rv⟩⟩
/-- return x, x an owned thing -/
def fRetO (i : Nat) : Ev Fl := fun env => match env[i]? with
  | some (.ow d) => .val (.rt true d) env
  | some (.sh d) => .val (.rt false d) env
  | _ => .stuck
theorem ds_retO {x : Str} {xpos : Pos} {i : Nat} (hN : X.N[i]? = some x) (hv : Vis X.env.scope x) (hd : (x == ("__debug__" : Str)) = false := by decide) (hcd : (x == ("__classdict__" : Str)) = false := by decide) : DS X B Z (.Return (some (.Name x xpos)) pos) (fRetO i) :=
  ⟨PS.weak (ps_ret (pe_var hN hv hd hcd)) fun E σ H ⟨G, env, c, p⟩ => by
    unfold fRetO at p
    split at p
    · rename_i d hd
      obtain ⟨a, h1, h2, h3⟩ := c.ow i d hd
      exact ⟨_, h2, p G σ H Mono.refl c a (c.frs i d a hd h1) (c.hid i a h1) h3⟩
    · rename_i d hd
      obtain ⟨v, h1, h2⟩ := c.sh i d hd
      exact ⟨_, h1, p G σ H Mono.refl c v h2⟩
    · exact p.elim⟩
def fRetN : Ev Fl := fun env => .val (.rt false .non) env
theorem ds_if (hc : DT X B Z c ft) (ha : DSs X B Z sts s) (hb : DSs X B Z us t) : DS X B Z (.If c sts us pos) (fIte ft s t) :=
  ⟨PS.weak (ps_if hc.pt ha.pss hb.pss) fun E σ H ⟨G, env, c, p⟩ => ⟨G, env, c, post_imp (exprS p) fun k e1 G1 H1 m1 c1 p1 => by
    cases k with
    | true => exact iteT ⟨G1, e1, c1, p1⟩
    | false => exact iteF ⟨G1, e1, c1, p1⟩⟩⟩
def fAsg (p : Pat) (f : Ev D) : Ev Fl := fun env => (f env).bind fun d e => match p.put d e with
  | some e' => .val .nx e'
  | none => .stuck
theorem lift_asg {p : Pat} (E : Ends) (σ : L2.St) (H : Hp) (h : liftS X.K B Z (fAsg p f) E σ H) : tAsg (liftE X.K B Z f) (liftG X.K B p) E σ H := by
  obtain ⟨G, env, c, q⟩ := h
  refine ⟨G, env, c, post_imp (exprS q) fun d e1 G1 H1 m1 c1 p1 v rv => ?_⟩
  cases hp : p.put d e1 with
  | none =>
    rw [hp] at p1
    exact p1.elim
  | some e2 =>
    rw [hp] at p1
    exact ⟨G1, e1, d, e2, c1, rv, hp, fun σ' c' _ => p1 G1 σ' H1 Mono.refl c'⟩
theorem ds_asg {tg : Expr} {p : Pat} (he : DE X B Z e f) (hg : DG X B tg p) (hs : swapsWithSole [tg] e pos.line X.env = pure false := by rfl) (hw : swappedStores [tg] e X.env = pure none := by rfl) (h1 : (assignEach [tg] X.env).map (·.2) = [assign tg X.env] := by rfl) :
    DS X B Z (.Assign [tg] e pos) (fAsg p f) := ⟨PS.weak (ps_asg he.pe hg.pg hs hw h1) lift_asg⟩
theorem ds_set {i : Nat} {x : Str} {pos' : Pos} (hN : X.N.Nodup) (hi : X.N[i]? = some x) (hx : Loc X.env.scope x) (he : DE X B Z e f) (hs : swapsWith e (some (.Name x pos')) pos.line X.env = pure false := by rfl)
    (hf : X.fn x = true ∨ X.env.scope.names.lookup x = some .local := by first | exact .inl rfl | exact .inr rfl | assumption) : DS X B Z (.Assign [.Name x pos'] e pos) (fAsg (.nm i) f) :=
  ⟨PS.weak (ps_set hN hi hx he.pe hs hf) fun E σ H h => by
    obtain ⟨G, env, c, q⟩ := h
    refine ⟨G, env, c, post_imp (exprS q) fun d e1 G1 H1 m1 c1 p1 v rv => ?_⟩
    simp only [Pat.put] at p1
    exact p1 G1 _ H1 Mono.refl (c1.put rv)⟩
def liftN (K : PySem.W.Frag) (B : Bs) (Z : ZX) (f : Ev D) : TE := fun σ H Q => ∃ G env, Cfg K B G env σ H ∧ postG K B Z G σ H (f env) (fun d _ G' H' => ∀ p, H p = none → G'.S p → G'.un p → OwnAt K B.ct H' (off G'.S H') p d → Q (.ref p) H')
structure DN (X : Cx) (B : Bs) (Z : ZX) (e : Expr) (f : Ev D) : Prop where
  pe : PE X e (liftN X.K B Z f)
theorem undom {G G' : Gh} {H H' : Hp} (m : Mono G H G' H') {p : Addr} (h : H' p = none) : H p = none := by
  cases e : H p with
  | none => rfl
  | some o => exact absurd h (m.dom p (by rw [e]; exact Option.some_ne_none _))
theorem dn_lst (h : DA X B Z es fs) : DN X B Z (.List es pos) (fLst fs) :=
  ⟨PE.weak (pe_lst h.pa) fun σ H Q ⟨G, env, c, p⟩ => ⟨G, env, c, post_imp (post_bind p) fun l e1 G1 H1 m1 c1 p1 vs rvs => by
    by_cases hl : l.length ≤ 1000
    · rw [if_pos hl] at p1
      refine ⟨by rw [rvs.len]; exact small_line hl, fun q hq => ?_⟩
      refine p1 (G1.hide q) _ (Mono.hide hq c1.live) (c1.hide hq) q (undom m1 hq) (.inr rfl) (c1.newUn hq) ⟨vs, upd_same, rvs.mono (Mono.hide hq c1.live).same⟩
    · rw [if_neg hl] at p1
      exact p1.elim⟩⟩
def fSetN (i : Nat) (f : Ev D) : Ev Fl := fun env => (f env).bind fun d e => .val .nx (e.set i (.ow d))
theorem ds_new {i : Nat} {x : Str} {pos' : Pos} (hN : X.N.Nodup) (hi : X.N[i]? = some x) (hx : Loc X.env.scope x) (he : DN X B Z e f) (hs : swapsWith e (some (.Name x pos')) pos.line X.env = pure false := by rfl)
    (hf : X.fn x = true ∨ X.env.scope.names.lookup x = some .local := by first | exact .inl rfl | exact .inr rfl | assumption) : DS X B Z (.Assign [.Name x pos'] e pos) (fSetN i f) :=
  ⟨PS.weak (ps_set hN hi hx he.pe hs hf) fun E σ H h => by
    obtain ⟨G, env, c, q⟩ := h
    refine ⟨G, env, c, post_imp (exprS0 q) fun d e1 G1 H1 m1 c1 p1 p hp hS hR ho => ?_⟩
    exact p1 (G1.own i p) _ H1 (m1.own (c.unS hp)) (c1.adopt hS hR ho (c.new0 hp))⟩
def fRetW (f : Ev D) : Ev Fl := fun env => (f env).bind fun d e => .val (.rt true d) e
theorem ds_retW (he : DN X B Z e f) : DS X B Z (.Return (some e) pos) (fRetW f) :=
  ⟨PS.weak (ps_ret he.pe) fun E σ H ⟨G, env, c, q⟩ => ⟨G, env, c, post_imp (exprS0 q) fun d e1 G1 H1 m1 c1 p1 p hp hS hR ho => p1 G1 σ H1 m1 c1 p (c.new0 hp) hS ho⟩⟩
abbrev Nw := D × Bool
def NwOk (K : PySem.W.Frag) (ct : Ct) (G : Gh) (H0 H : Hp) (v : V) (g : Nw) : Prop := match g with
  | (d, false) => Rp K ct (off G.S H) v d
  | (d, true) => ∃ p, v = .ref p ∧ H0 p = none ∧ G.S p ∧ G.un p ∧ OwnAt K ct H (off G.S H) p d
theorem NwOk.mono {K : PySem.W.Frag} {ct : Ct} {G G' : Gh} {H0 H H' : Hp} {v : V} {g : Nw} (h : NwOk K ct G H0 H v g) (m : Mono G H G' H') : NwOk K ct G' H0 H' v g := by
  obtain ⟨d, b⟩ := g
  cases b with
  | false => exact Rp.mono m.same h
  | true =>
    obtain ⟨p, h1, h2, h3, h4, h5⟩ := h
    obtain ⟨x1, x2, x3⟩ := m.tmp p h3 h4
    exact ⟨p, h1, h2, x1, x2, h5.mono x3 m.same⟩
/-- a, b = e1, e2 -/
def fPar (i j : Nat) (f g : Ev D) (n1 n2 : Bool) : Ev Fl := fun env => (f env).bind fun d e1 => (g e1).bind fun e e2 => .val .nx ((e2.set i (if n1 then .ow d else .sh d)).set j (if n2 then .ow e else .sh e))
structure DQ (X : Cx) (B : Bs) (Z : ZX) (e : Expr) (f : Ev D) (n : Bool) : Prop where
  pe : PE X e (fun σ H Q => ∃ G env, Cfg X.K B G env σ H ∧ postG X.K B Z G σ H (f env) (fun d _ G' H' => ∀ v, NwOk X.K B.ct G' H H' v (d, n) → Q v H'))
theorem DE.q (h : DE X B Z e f) : DQ X B Z e f false := ⟨h.pe⟩
theorem DN.q (h : DN X B Z e f) : DQ X B Z e f true := ⟨PE.weak h.pe fun σ H Q ⟨G, env, c, q⟩ => ⟨G, env, c, post_imp q fun d e1 G1 H1 m1 c1 p1 p h1 h2 h3 h4 => p1 _ ⟨p, rfl, h1, h2, h3, h4⟩⟩⟩
theorem Cfg.putQ {K : PySem.W.Frag} {G G0 : Gh} {env : List Slot} {σ : L2.St} {H H0 : Hp} {i : Nat} {v : V} {d : D} {n : Bool} (c0 : ∀ p, H0 p = none → B.H0 p = none ∧ ¬ G0.S p) (c : Cfg K B G env σ H) (m : Mono G0 H0 G H) (h : NwOk K B.ct G H0 H v (d, n)) :
    ∃ G', Mono G0 H0 G' H ∧ Cfg K B G' (env.set i (if n then .ow d else .sh d)) (σ.set i (some v)) H ∧ Same (off G.S H) (off G'.S H) ∧ (∀ p, G.S p → G.un p → (n = true → v ≠ .ref p) → G'.S p ∧ G'.un p) := by
  cases n with
  | false => exact ⟨G, m, c.put h, Same.refl _, fun p h1 h2 _ => ⟨h1, h2⟩⟩
  | true =>
    obtain ⟨p, rfl, h2, h3, h4, h5⟩ := h
    obtain ⟨z1, z2⟩ := c0 p h2
    refine ⟨G.own i p, m.own z2, c.adopt h3 h4 h5 z1, Same.refl _, fun q h1 hq ne => ⟨h1, ⟨fun j z => ?_, hq.2⟩⟩⟩
    have z' : (if j = i then some p else G.r j) = some q := z
    by_cases e : j = i
    · rw [if_pos e] at z'
      cases z'
      exact ne rfl rfl
    · rw [if_neg e] at z'
      exact hq.1 j z'
theorem ds_par {i j : Nat} {x y : Str} {n1 n2 : Bool} (hc : X.calm = true) (hN : X.N.Nodup) (hi : X.N[i]? = some x) (hj : X.N[j]? = some y) (hij : i ≠ j)
    (hx : X.env.scope.names.lookup x = some .local) (hy : X.env.scope.names.lookup y = some .local) (ha : DQ X B Z a f n1) (hb : DQ X B Z b g n2) (hs1 : starEach [a, b] X.env = (false, eval a X.env) :: starEach [b] X.env := by rfl) (hs2 : starEach [b] X.env = (false, eval b X.env) :: starEach [] X.env := by rfl)
    (hp : ∀ {ta : TA}, PA X [a, b] ta → PS X st (tPar i j ta)) : DS X B Z st (fPar i j f g n1 n2) :=
  ⟨PS.weak (hp (pa_cons ha.pe (pa_cons hb.pe pa_nil hs2) hs1)) fun E σ H h => by
    obtain ⟨G, env, c, q⟩ := h
    refine ⟨G, env, c, post_imp (exprS0 q) fun d e1 G1 H1 m1 c1 p1 v rv => ⟨G1, e1, c1, ?_⟩⟩
    have p1' : postS X.K B Z G1 H1 ((g e1).bind fun e e2 => .val .nx ((e2.set i (if n1 then .ow d else .sh d)).set j (if n2 then .ow e else .sh e))) E := postS_later m1 p1
    have p0 := p1
    cases hg : g e1 with
    | stuck =>
      rw [hg] at p0
      exact p0.elim
    | exc cc as e2 =>
      rw [hg] at p0
      exact fun G2 H2 dd m2 c2 xx => p0 G2 σ H2 dd (m1.trans m2) c2 xx
    | val d2 e2 =>
      rw [hg] at p0
      intro G2 H2 m2 c2 w rw'
      have mm := m1.trans m2
      have c0 : ∀ p, H p = none → B.H0 p = none ∧ ¬ G.S p := fun p h => ⟨c.new0 h, c.unS h⟩
      have c01 : ∀ p, H1 p = none → B.H0 p = none ∧ ¬ G.S p := fun p h => c0 p (undom m1 h)
      refine ⟨v, w, rfl, ?_⟩
      have rv2 := rv.mono m2
      obtain ⟨G3, k1, k2, k3, k4⟩ := Cfg.putQ (i := i) c0 c2 mm rv2
      have rw3 : NwOk X.K B.ct G3 H H2 w (d2, n2) := by
        cases n2 with
        | false => exact Rp.mono k3 rw'
        | true =>
          obtain ⟨p, rfl, h2, h3, h4, h5⟩ := rw'
          have nv : n1 = true → v ≠ V.ref p := by
            intro hn z
            subst hn
            obtain ⟨p', rfl, g2, g3, g4, g5⟩ := rv
            cases z
            exact g5.some h2
          obtain ⟨x1, x2⟩ := k4 p h3 h4 nv
          exact ⟨p, rfl, undom m1 h2, x1, x2, h5.mono rfl k3⟩
      obtain ⟨G4, l1, l2, l3, l4⟩ := Cfg.putQ (i := j) c0 k2 k1 rw3
      exact p0 G4 _ H2 l1 l2⟩
/-- x.append(e), x a list of its own -/
def slotL (env : List Slot) (i : Nat) : Option (Bool × List D) := match env[i]? with
  | some (.ow (.lst l)) => some (false, l)
  | some (.io (.lst l)) => some (true, l)
  | _ => none
theorem slotL_own {env : List Slot} {i : Nat} {b : Bool} {l : List D} (h : slotL env i = some (b, l)) : env[i]? = some (own b (.lst l)) := by
  unfold slotL at h
  split at h
  · cases h
    assumption
  · cases h
    assumption
  · cases h
def fApp (i : Nat) (f : Ev D) : Ev Fl := fun env => match slotL env i with
  | none => .stuck
  | some _ => (f env).bind fun d e => match slotL e i with
    | some (b, l) => if l.length < sizeLine then .val .nx (e.set i (own b (.lst (l ++ [d])))) else .stuck
    | none => .stuck
theorem ds_append {i : Nat} {x : Str} {xpos apos cpos : Pos} (hN : X.N[i]? = some x) (hv : Vis X.env.scope x) (he : DE X B Z e f)
    (hd : (x == ("__debug__" : Str)) = false := by decide) (hcd : (x == ("__classdict__" : Str)) = false := by decide)
    (hbase : attributeBase (.Name x xpos) "append" X.env (eval (.Name x xpos) X.env) = eval (.Name x xpos) X.env := by rfl)
    (hfew : ((backTo cpos (starEach [e] X.env)).all (fun x => !x.1) && (backToKw cpos (keywordEach [] X.env)).all (fun x => x.1.isSome)
      && decide ([e].length + ([] : List Keyword).length + (if ([] : List Keyword).isEmpty then 0 else 1) < 30)) = true := by rfl)
    (hline : (apos.endLine == cpos.line) = true := by rfl) (hst : starEach [e] X.env = (false, eval e X.env) :: starEach [] X.env := by rfl) (hplain : (backTo cpos (starEach [] X.env)).any (·.1) = false := by rfl)
    (hs : swapsWith (.Call (.Attribute (.Name x xpos) "append" apos) [e] [] cpos) none pos.line X.env = pure false := by rfl) :
    DS X B Z (.Expr (.Call (.Attribute (.Name x xpos) "append" apos) [e] [] cpos) pos) (fApp i f) :=
  ⟨PS.weak (ps_expr (pe_bm PySem.F.plainAttrs_list PySem.F.slot_list_append PySem.F.type_list_append mt_append (pe_var hN hv hd hcd) (pa_cons he.pe pa_nil hst) hbase hfew hline hst hplain) hs) fun E σ H h => by
    obtain ⟨G, env, c, q⟩ := h
    unfold fApp at q
    cases h0 : slotL env i with
    | none =>
      rw [h0] at q
      exact q.elim
    | some p0 =>
      obtain ⟨b0, l0⟩ := p0
      rw [h0] at q
      obtain ⟨a, r1, r2, vs0, r3, _⟩ := c.own (slotL_own h0)
      refine ⟨_, r2, .inl ⟨rfl, _, SqL.of r3⟩, G, env, c, post_imp (exprS q) fun d e1 G1 H1 m1 c1 p1 v rv => ?_⟩
      cases h1 : slotL e1 i with
      | none =>
        rw [h1] at p1
        exact p1.elim
      | some p2 =>
        obtain ⟨b, l⟩ := p2
        rw [h1] at p1
        simp only [] at p1
        obtain ⟨a', g1, g2, vs, g3, g4⟩ := c1.own (slotL_own h1)
        rw [r2] at g2
        cases g2
        by_cases hl : l.length < sizeLine
        · rw [if_pos hl] at p1
          refine ⟨a, vs, v, rfl, rfl, g3, by rw [g4.len]; exact hl, ?_⟩
          exact p1 G1 _ _ (Mono.chg g1 (c1.hid i a g1)) (c1.chg g1 (slotL_own h1) ⟨vs ++ [v], upd_same, g4.app (.one rv)⟩)
        · rw [if_neg hl] at p1
          exact p1.elim⟩
/-- x[k] = e, x a list of its own -/
def fPutL (i : Nat) (k f : Ev D) : Ev Fl := fun env => (f env).bind fun d e1 => match slotL e1 i with
  | none => .stuck
  | some _ => (k e1).bind fun z e2 => match z, slotL e2 i with
    | .int j, some (b, l) => match ixN l.length j with
      | some n => .val .nx (e2.set i (own b (.lst (l.set n d))))
      | none => .stuck
    | _, _ => .stuck
structure WalkD (K : PySem.W.Frag) (ct : Ct) (G : Gh) (H : Hp) (J : It) (ds : List D) : Prop where
  go : ∀ i G' H', Mono G H G' H' → i < ds.length → J.go i H'
  stop : ∀ G' H', Mono G H G' H' → J.stop ds.length H'
  yld : ∀ i G' H' x H'', Mono G H G' H' → (∀ a, G'.S a → H' a ≠ none) → i < ds.length → J.yld i H' x H'' → Same H' H'' ∧ ∃ d, ds[i]? = some d ∧ Rp K ct (off G'.S H'') x d
theorem walk_lst {K : PySem.W.Frag} {ct : Ct} {G : Gh} {H : Hp} {a : Addr} {vs : List V} {ds : List D} (h : off G.S H a = some (.lst vs)) (t : Rps K ct (off G.S H) vs ds) : WalkD K ct G H (Itl K a) ds := by
  have sq : ∀ {G' : Gh} {H' : Hp}, Mono G H G' H' → SqL K H' a vs := fun m => SqL.of (off_le _ _ (m.same _ _ h))
  refine ⟨fun i G' H' m hi => ⟨vs, vs[i]'(by rw [t.len]; exact hi), sq m, by simp⟩, fun G' H' m => ⟨vs, sq m, Nat.le_of_eq t.len⟩, fun i G' H' x H'' m live hi y => ?_⟩
  obtain ⟨rfl, y⟩ := y
  obtain ⟨d, e, r⟩ := (t.mono m.same).get (y vs (sq m))
  exact ⟨Same.refl _, d, e, r⟩
theorem walk_tup {K : PySem.W.Frag} {ct : Ct} {G : Gh} {H : Hp} {a : Addr} {vs : List V} {ds : List D} (h : SqT K (off G.S H) a vs) (t : Rps K ct (off G.S H) vs ds) : WalkD K ct G H (Itt K a) ds := by
  have sq : ∀ {G' : Gh} {H' : Hp}, Mono G H G' H' → SqT K H' a vs := fun m => sqT_same off_le (sqT_same m.same h)
  refine ⟨fun i G' H' m hi => ⟨vs, vs[i]'(by rw [t.len]; exact hi), sq m, by simp⟩, fun G' H' m => ⟨vs, sq m, Nat.le_of_eq t.len⟩, fun i G' H' x H'' m live hi y => ?_⟩
  obtain ⟨rfl, y⟩ := y
  obtain ⟨d, e, r⟩ := (t.mono m.same).get (y vs (sq m))
  exact ⟨Same.refl _, d, e, r⟩
def rangeD (lo : Int) (n : Nat) : List D := (List.range n).map fun (i : Nat) => D.int (lo + (i : Int))
theorem walk_rng {K : PySem.W.Frag} {ct : Ct} {G : Gh} {H : Hp} {lo : Int} {n : Nat} : WalkD K ct G H (Itr lo n) (rangeD lo n) := by
  have l : (rangeD lo n).length = n := by simp [rangeD]
  refine ⟨fun i G' H' m hi => by rw [l] at hi; exact hi, fun G' H' m => Nat.le_of_eq l.symm, fun i G' H' x H'' m live hi y => ?_⟩
  obtain ⟨rfl, rfl⟩ := y
  rw [l] at hi
  exact ⟨Same.refl _, .int (lo + (i : Int)), by simp [rangeD, hi], .int _⟩
/-- pairs with their numbers -/
def enumD : Nat → List D → List D
  | _, [] => []
  | k, d :: l => .tup [.int (k : Int), d] :: enumD (k + 1) l
theorem enumD_len : ∀ (l : List D) (k : Nat), (enumD k l).length = l.length
  | [], _ => rfl
  | d :: l, k => by simp [enumD, enumD_len l]
theorem enumD_get : ∀ (l : List D) (k i : Nat), (enumD k l)[i]? = l[i]?.map fun d => .tup [.int ((k + i : Nat) : Int), d]
  | [], _, _ => rfl
  | d :: l, k, 0 => by simp [enumD]
  | d :: l, k, i + 1 => by
    simp only [enumD, List.getElem?_cons_succ]
    rw [enumD_get l (k + 1) i, show k + 1 + i = k + (i + 1) by omega]
/-- for i, x in enumerate(e), e a list or a tuple -/
def iEnumD (K : PySem.W.Frag) (ta : TA) : TI := fun σ H R => ta σ H fun vs H1 => ∃ a xs, vs = [.ref a] ∧
  ((SqL K H1 a xs ∧ ∀ J, Walk J xs.length (fun H' => SqL K H' a xs) (YPair (fun i => some (.int (i : Nat))) (fun i => xs[i]?)) → R J H1) ∨
   (SqT K H1 a xs ∧ ∀ J, Walk J xs.length (fun H' => SqT K H' a xs) (YPair (fun i => some (.int (i : Nat))) (fun i => xs[i]?)) → R J H1))
theorem pi_enumD {X : Cx} {e : Expr} {ta : TA} {p pos tpos : Pos} {elts : List Expr} {kk : Nat} (gl : Gl X "enumerate") (no : X.mg "enumerate" = none) (ha : PA X [e] ta) (one : starEach [e] X.env = [(false, eval e X.env)] := by rfl) :
    PI X (.Tuple elts kk tpos) (.Call (.Name "enumerate" p) [e] [] pos) (iEnumD X.K ta) := by
  refine ⟨fun pins s σ H R I h => ?_⟩
  refine Call_ (ld_blt I gl no boot_enumerate (PyProof.Rows.callWith_type1 (thn (ha.run pos pins s σ H _ I h) fun us s1 ⟨vs, H1, I1, r1, a, xs, ex, hq⟩ => ?_) one rfl))
  subst ex
  obtain ⟨u, rfl, ru⟩ := vals1 r1
  cases (show u = Value.ref a from ru)
  have two : ∀ b : Addr, b ∈ [s1.heap.objs.size + 1, s1.heap.objs.size] → s1.heap.objs.size ≤ b := fun b hb => by
    rcases (show b = s1.heap.objs.size + 1 ∨ b = s1.heap.objs.size by simpa using hb) with rfl | rfl
    · exact Nat.le_add_right _ _
    · exact Nat.le_refl _
  rcases hq with ⟨hq, q⟩ | ⟨hq, q⟩
  · obtain ⟨its, rv, pl, hz⟩ := I1.list hq
    refine call_enumerate_list pl.isList fun h' he hit hsz hk => wpAny_pyIter_enum he ?_
    exact ⟨s1.heap.objs.size + 1, [s1.heap.objs.size + 1, s1.heap.objs.size], _, _, H1, rfl, I1.kept (t' := s1.toks) hk, turn_enum a (s1.heap.objs.size + 1) s1.heap.objs.size, ⟨⟨.none, he⟩, hit, Nat.succ_ne_self _⟩, fun b hb => I1.fpOk (two b hb) (I1.hok.fresh (two b hb)), q _ walk_enum⟩
  · obtain ⟨its, rv, tp, hz⟩ := I1.tuple hq
    have ha1 : a < s1.heap.objs.size := by
      obtain ⟨o, z, _⟩ := tp
      exact Heap.lt_size z
    refine enum1_begins (begins_tuple a its.toArray) tp fun h' he hit hk => wpAny_pyIter_enum he ?_
    exact ⟨s1.heap.objs.size + 1, [s1.heap.objs.size + 1, s1.heap.objs.size], _, _, H1, rfl, I1.kept (t' := s1.toks) hk, turn_enumT a (s1.heap.objs.size + 1) s1.heap.objs.size xs, ⟨⟨.none, he⟩, ⟨_, hit, rfl, rfl⟩, Nat.succ_ne_self _, Nat.ne_of_lt ha1, Nat.ne_of_lt (Nat.lt_succ_of_lt ha1)⟩, fun b hb => I1.fpOk (two b hb) (I1.hok.fresh (two b hb)), q _ walk_enumT⟩
theorem walk_enumD {K : PySem.W.Frag} {ct : Ct} {G : Gh} {H : Hp} {vs : List V} {ds : List D} {J : It} {Sq : Hp → Prop} (sty : ∀ {G' : Gh} {H' : Hp}, Mono G H G' H' → Sq H') (t : Rps K ct (off G.S H) vs ds)
    (w : Walk J vs.length Sq (YPair (fun i => some (.int (i : Nat))) (fun i => vs[i]?))) : WalkD K ct G H J (enumD 0 ds) := by
  have l : (enumD 0 ds).length = vs.length := by rw [enumD_len, t.len]
  refine ⟨fun i G' H' m hi => w.goes i H' (by rw [← l]; exact hi) (sty m), fun G' H' m => by rw [l]; exact w.stops H' (sty m), fun i G' H' x H'' m live hi y => ?_⟩
  obtain ⟨T, x0, y0, rfl, hT, rfl, e1, e2⟩ := w.yields i H' x H'' (by rw [← l]; exact hi) (sty m) y
  obtain ⟨d, ed, rd⟩ := (t.mono m.same).get e2
  cases e1
  refine ⟨Sb.Same.upd hT, .tup [.int (i : Int), d], ?_, new_tup live hT (.cons (.int _) (.one rd))⟩
  rw [enumD_get, ed, Nat.zero_add]
  rfl
end
end Vl
set_option Elab.async false
set_option linter.all false
set_option maxRecDepth 100000
set_option maxHeartbeats 2000000
namespace Vl
open PySem PySem.Spec PyProof.Rows L2 Sb
def liftI (K : PySem.W.Frag) (B : Bs) (Z : ZX) (f : Ev (List D)) : TI := fun σ H R => ∃ G env, Cfg K B G env σ H ∧ postG K B Z G σ H (f env) (fun ds _ G' H' => ∀ J, WalkD K B.ct G' H' J ds → R J H')
structure DI (X : Cx) (B : Bs) (Z : ZX) (tg it : Expr) (f : Ev (List D)) : Prop where
  pi : PI X tg it (liftI X.K B Z f)
section
variable {X : Cx} {B : Bs} {Z : ZX} {tg a b c e elt : Expr} {es elts : List Expr} {pos : Pos} {f g fe : Ev D} {fs fi : Ev (List D)} {ft : Ev Bool} {sts : List Stmt} {s : Ev Fl} {p : Pat}
def fItems (f : Ev D) : Ev (List D) := fun env => (f env).bind fun d e => match d with
  | .lst l => .val l e
  | .tup l => .val l e
  | .ctup l => .val l e
  | _ => .stuck
theorem di_seq (h : DE X B Z e f) : DI X B Z tg e (fItems f) :=
  ⟨PI.weak (pi_or (pi_list h.pe) (pi_tup h.pe)) fun σ H R ⟨G, env, c, q⟩ => by
    cases hf : f env with
    | stuck =>
      unfold fItems at q
      rw [hf] at q
      exact q.elim
    | exc cc as e1 =>
      unfold fItems at q
      refine .inl ⟨G, env, c, ?_⟩
      rw [hf] at q ⊢
      exact q
    | val d e1 =>
      have q := post_bind q
      rw [hf] at q
      cases d with
      | lst l =>
        refine .inl ⟨G, env, c, ?_⟩
        rw [hf]
        intro G1 H1 m1 c1 v rv
        obtain ⟨x, vs, rfl, h1, t1⟩ := rv.lstE
        exact ⟨x, rfl, ⟨vs, SqL.of (off_le _ _ h1)⟩, q G1 H1 m1 c1 G1 H1 Mono.refl c1 _ (walk_lst h1 t1)⟩
      | tup l =>
        refine .inr ⟨G, env, c, ?_⟩
        rw [hf]
        intro G1 H1 m1 c1 v rv
        obtain ⟨x, vs, rfl, h1, t1⟩ := rv.tupE
        exact ⟨x, rfl, ⟨vs, sqT_le h1⟩, q G1 H1 m1 c1 G1 H1 Mono.refl c1 _ (walk_tup h1 t1)⟩
      | ctup l =>
        refine .inr ⟨G, env, c, ?_⟩
        rw [hf]
        intro G1 H1 m1 c1 v rv
        obtain ⟨x, vs, rfl, h1, t1⟩ := rv.ctupE
        exact ⟨x, rfl, ⟨vs, sqT_le h1⟩, q G1 H1 m1 c1 G1 H1 Mono.refl c1 _ (walk_tup h1 t1)⟩
      | _ => 
        refine .inl ⟨G, env, c, ?_⟩
        rw [hf]
        exact fun G1 H1 m1 c1 => (q G1 H1 m1 c1).elim⟩
/-- a number of less than 63 bits; said so that it stands still where the number is not known -/
def sm62 (j : Int) : Bool := Nat.ble j.natAbs 4611686018427387903
theorem sm62_ok {j : Int} (h : sm62 j = true) : -(2 ^ 62) ≤ j ∧ j < 2 ^ 62 := by
  have e62 : (2 : Int) ^ 62 = 4611686018427387904 := by decide
  have h := Nat.le_of_ble_eq_true h
  rw [e62]
  omega
theorem sm62_of {j : Int} (h : -4611686018427387904 < j) (h2 : j < 4611686018427387904) : sm62 j = true := Nat.ble_eq_true_of_le (by omega)
def fRng1 (fs : Ev (List D)) : Ev (List D) := fun env => (fs env).bind fun l e => match l with
  | [.int j] => if sm62 j then .val (rangeD 0 j.toNat) e else .stuck
  | _ => .stuck
theorem Rps.oneE {K : PySem.W.Frag} {ct : Ct} {F : Hp} {vs : List V} {i : Int} (h : Rps K ct F vs [.int i]) : vs = [.int i] := by
  obtain ⟨v, ws, rfl, h1, h2⟩ := h.consE
  rw [h1.intE, h2.nilE]
theorem di_rng1 {px : Pos} (gl : Gl X "range") (hm : X.mg "range" = none) (ha : DA X B Z [e] fs) (hs : starEach [e] X.env = [(false, eval e X.env)] := by rfl) : DI X B Z tg (.Call (.Name "range" px) [e] [] pos) (fRng1 fs) :=
  ⟨PI.weak (pi_range1 gl hm ha.pa hs) fun σ H R ⟨G, env, c, q⟩ => ⟨G, env, c, post_imp (post_bind q) fun l e1 G1 H1 m1 c1 p1 vs rvs => by
    split at p1
    · rename_i j
      split at p1
      · rename_i hj
        exact ⟨j, rvs.oneE, (sm62_ok hj).1, (sm62_ok hj).2, p1 G1 H1 Mono.refl c1 _ walk_rng⟩
      · exact p1.elim
    · exact p1.elim⟩⟩
def fEnum (fs : Ev (List D)) : Ev (List D) := fun env => (fs env).bind fun l e => match l with
  | [.lst l] => .val (enumD 0 l) e
  | [.tup l] => .val (enumD 0 l) e
  | _ => .stuck
theorem di_enum {px tpos : Pos} {kk : Nat} (gl : Gl X "enumerate") (hm : X.mg "enumerate" = none) (ha : DA X B Z [e] fs) (hs : starEach [e] X.env = [(false, eval e X.env)] := by rfl) : DI X B Z (.Tuple elts kk tpos) (.Call (.Name "enumerate" px) [e] [] pos) (fEnum fs) :=
  ⟨PI.weak (pi_enumD gl hm ha.pa hs) fun σ H R ⟨G, env, c, q⟩ => ⟨G, env, c, post_imp (post_bind q) fun l e1 G1 H1 m1 c1 p1 vs rvs => by
    split at p1
    · rename_i l
      obtain ⟨v, ws, rfl, h1, h2⟩ := rvs.consE
      obtain ⟨x, xs, rfl, h3, t3⟩ := h1.lstE
      rw [h2.nilE]
      exact ⟨x, xs, rfl, .inl ⟨SqL.of (off_le _ _ h3), fun J w => p1 G1 H1 Mono.refl c1 J (walk_enumD (fun m => SqL.of (off_le _ _ (m.same _ _ h3))) t3 w)⟩⟩
    · rename_i l
      obtain ⟨v, ws, rfl, h1, h2⟩ := rvs.consE
      obtain ⟨x, xs, rfl, h3, t3⟩ := h1.tupE
      rw [h2.nilE]
      exact ⟨x, xs, rfl, .inr ⟨sqT_le h3, fun J w => p1 G1 H1 Mono.refl c1 J (walk_enumD (fun m => sqT_same off_le (sqT_same m.same h3)) t3 w)⟩⟩
    · exact p1.elim⟩⟩
def loopF (p : Pat) (s : Ev Fl) : List D → Ev Fl
  | [], env => .val .nx env
  | d :: ds, env => match p.put d env with
    | none => .stuck
    | some e1 => match s e1 with
      | .val .nx e2 => loopF p s ds e2
      | .val .ct e2 => loopF p s ds e2
      | .val .bk e2 => .val .nx e2
      | .val (.rt n r) e2 => .val (.rt n r) e2
      | .stuck => .stuck
      | .exc c as e2 => .exc c as e2
def fFor (fi : Ev (List D)) (p : Pat) (s : Ev Fl) : Ev Fl := fun env => (fi env).bind fun ds e => loopF p s ds e
theorem for_D {G1 : Gh} {H1 : Hp} {env1 : List Slot} {σ : L2.St} {J : It} {ds : List D} {E : Ends} (w : WalkD X.K B.ct G1 H1 J ds) (c1 : Cfg X.K B G1 env1 σ H1) (q : postS X.K B Z G1 H1 (loopF p s ds env1) E) :
    ∃ W : Nat → Nat → L2.St → Hp → Prop, (∃ m, W 0 m σ H1) ∧ ∀ i m σ H, W i m σ H →
      (J.stop i H ∧ E.nx σ H) ∨ (J.go i H ∧ ∃ N : L2.St → Hp → Prop, (∀ σ' H', N σ' H' → ∃ m', m' < m ∧ W (i + 1) m' σ' H') ∧ ∀ x H', J.yld i H x H' → liftG X.K B p x σ H' fun σ2 H2 => liftS X.K B Z s { E with nx := N, ct := N, bk := E.nx } σ2 H2) := by
  refine ⟨fun i m σ' H' => ∃ G' env', Cfg X.K B G' env' σ' H' ∧ Mono G1 H1 G' H' ∧ m + i = ds.length ∧ postS X.K B Z G' H' (loopF p s (ds.drop i) env') E, ⟨ds.length, G1, env1, c1, Mono.refl, rfl, q⟩, ?_⟩
  rintro i m σ' H' ⟨G', env', c', m', hm, q'⟩
  cases m with
  | zero =>
    have hi : i = ds.length := by omega
    subst hi
    rw [List.drop_length] at q'
    exact .inl ⟨w.stop G' H' m', q' G' σ' H' Mono.refl c'⟩
  | succ m =>
    have hi : i < ds.length := by omega
    refine .inr ⟨w.go i G' H' m' hi, fun σ2 H2 => ∃ G2 env2, Cfg X.K B G2 env2 σ2 H2 ∧ Mono G1 H1 G2 H2 ∧ m + (i + 1) = ds.length ∧ postS X.K B Z G2 H2 (loopF p s (ds.drop (i + 1)) env2) E, fun σ2 H2 h => ⟨m, Nat.lt_succ_self _, h⟩, fun x H'' y => ?_⟩
    obtain ⟨sm, d, ed, rd⟩ := w.yld i G' H' x H'' m' c'.live hi y
    have edr : ds.drop i = d :: ds.drop (i + 1) := by
      rw [List.drop_eq_getElem_cons hi]
      have := (List.getElem?_eq_some_iff.mp ed).2
      rw [this]
    rw [edr] at q'
    have c'' := c'.same sm
    have mm := c'.mono sm
    unfold loopF at q'
    cases hp : p.put d env' with
    | none =>
      rw [hp] at q'
      exact q'.elim
    | some e1 =>
      rw [hp] at q'
      refine ⟨G', env', d, e1, c'', rd, hp, fun σ2 c2 _ => ⟨G', e1, c2, ?_⟩⟩
      have q2 : postS X.K B Z G' H' (match s e1 with
        | .val .nx e2 => loopF p s (ds.drop (i + 1)) e2
        | .val .ct e2 => loopF p s (ds.drop (i + 1)) e2
        | .val .bk e2 => .val .nx e2
        | .val (.rt n r) e2 => .val (.rt n r) e2
        | .stuck => .stuck
        | .exc c as e2 => .exc c as e2) E := q'
      cases hs : s e1 with
      | stuck =>
        rw [hs] at q2
        exact q2.elim
      | exc cc as e2 =>
        rw [hs] at q2
        exact fun G3 σ3 H3 dd m3 c3 x => q2 G3 σ3 H3 dd (mm.trans m3) c3 x
      | val fl e2 =>
        rw [hs] at q2
        cases fl with
        | nx => exact fun G3 σ3 H3 m3 c3 => ⟨G3, e2, c3, (m'.trans mm).trans m3, by omega, postS_later (mm.trans m3) q2⟩
        | ct => exact fun G3 σ3 H3 m3 c3 => ⟨G3, e2, c3, (m'.trans mm).trans m3, by omega, postS_later (mm.trans m3) q2⟩
        | bk => exact fun G3 σ3 H3 m3 c3 => q2 G3 σ3 H3 (mm.trans m3) c3
        | rt n r => cases n <;> exact fun G3 σ3 H3 m3 c3 => q2 G3 σ3 H3 (mm.trans m3) c3
theorem ds_for (hp : PassesOwn (model X.prog X.w) X.A X.env X.xe) (hc : X.calm = true) (hi : DI X B Z tg e fi) (hg : DG X B tg p) (hb : DSs X B Z sts s) (hs : ∀ x, foldedSetIterable e X.env x = pure x := by intro _; rfl) :
    DS X B Z (.For tg e sts [] pos) (fFor fi p s) :=
  ⟨PS.weak (ps_for hp hc hi.pi hg.pg hb.pss hs) fun E σ H ⟨G, env, c, q⟩ => ⟨G, env, c, post_imp (exprS q) fun ds e1 G1 H1 m1 c1 p1 J w => for_D w c1 p1⟩⟩
def wloop (t : Ev Bool) (s : Ev Fl) : Nat → Ev Fl
  | 0, _ => .stuck
  | m + 1, env => (t env).bind fun b e1 => if b = true then (match s e1 with
      | .val .nx e2 => wloop t s m e2
      | .val .ct e2 => wloop t s m e2
      | .val .bk e2 => .val .nx e2
      | .val (.rt n r) e2 => .val (.rt n r) e2
      | .stuck => .stuck
      | .exc c as e2 => .exc c as e2) else .val .nx e1
theorem ds_while (n : Nat) (hp : PassesOwn (model X.prog X.w) X.A X.env X.xe) (hc : DT X B Z c ft) (hb : DSs X B Z sts s) : DS X B Z (.While c sts [] pos) (wloop ft s n) :=
  ⟨PS.weak (ps_while hp hc.pt hb.pss) fun E σ H q => by
    refine ⟨fun m σ H => liftS X.K B Z (wloop ft s m) E σ H, ⟨n, q⟩, ?_⟩
    rintro m σ' H' ⟨G, env, c', q'⟩
    cases m with
    | zero => exact q'.elim
    | succ m =>
      refine ⟨G, env, c', post_imp (exprS q') fun b e1 G1 H1 m1 c1 p1 => ?_⟩
      cases b with
      | false => exact iteF (p1 G1 σ' H1 Mono.refl c1)
      | true =>
        refine iteT ⟨liftS X.K B Z (wloop ft s m) E, fun σ2 H2 h => ⟨m, Nat.lt_succ_self _, h⟩, G1, e1, c1, ?_⟩
        rw [if_pos rfl] at p1
        cases hs : s e1 with
        | stuck =>
          rw [hs] at p1
          exact p1.elim
        | exc cc as e2 =>
          rw [hs] at p1
          exact p1
        | val fl e2 =>
          rw [hs] at p1
          cases fl with
          | nx => exact fun G3 σ3 H3 m3 c3 => ⟨G3, e2, c3, postS_later m3 p1⟩
          | ct => exact fun G3 σ3 H3 m3 c3 => ⟨G3, e2, c3, postS_later m3 p1⟩
          | bk => exact fun G3 σ3 H3 m3 c3 => p1 G3 σ3 H3 m3 c3
          | rt n r => cases n <;> exact fun G3 σ3 H3 m3 c3 => p1 G3 σ3 H3 m3 c3⟩
def wipeE (env : List Slot) : List Nat → List Slot
  | [] => env
  | v :: vs => (wipeE env vs).set v .un
/-- the block's own names as they were before -/
def backE (old env : List Slot) : List Nat → List Slot
  | [] => env
  | v :: vs => match old[v]? with
    | some s => (backE old env vs).set v s
    | none => backE old env vs
def calmE (old : List Slot) (vs : List Nat) : Bool := vs.all fun v => match old[v]? with
  | some .un => true
  | some (.sh _) => true
  | _ => false
def compF (p : Pat) (ft : Ev Bool) (fe : Ev D) (vs : List Nat) : List D → List D → Ev (List D)
  | [], acc, env => .val acc env
  | d :: ds, acc, env => match p.put d (wipeE env vs) with
    | none => .stuck
    | some e1 => (ft e1).bind fun b e2 => if b = true then (fe e2).bind fun y e3 => if acc.length < sizeLine then compF p ft fe vs ds (acc ++ [y]) e3 else .stuck
      else compF p ft fe vs ds acc e2
def fComp (fi : Ev (List D)) (p : Pat) (ft : Ev Bool) (fe : Ev D) (vs : List Nat) : Ev D := fun env => (fi env).bind fun ds e1 => if calmE e1 vs then match compF p ft fe vs ds [] e1 with
  | .val acc e2 => .val (.lst acc) (backE e1 e2 vs)
  | _ => .stuck else .stuck
def fYes : Ev Bool := fun env => .val true env
structure DTs (X : Cx) (B : Bs) (Z : ZX) (ifs : List Expr) (f : Ev Bool) : Prop where
  pts : PTs X ifs (liftT X.K B Z f)
theorem dts_nil : DTs X B Z [] fYes := ⟨PTs.weak pts_nil fun σ H Q ⟨G, env, c, q⟩ => q G H Mono.refl c⟩
theorem dts_one (h : DT X B Z c ft) : DTs X B Z [c] ft := ⟨pts_one h.pt⟩
theorem Cfg.wipe {K : PySem.W.Frag} {G : Gh} {env : List Slot} {σ : L2.St} {H : Hp} (c : Cfg K B G env σ H) : ∀ vs : List Nat, Cfg K B G (wipeE env vs) (L2.wipe σ vs) H
  | [] => c
  | v :: vs => by
    have c := Cfg.wipe c vs
    show Cfg K B G ((wipeE env vs).set v .un) ((L2.wipe σ vs).set v none) H
    generalize wipeE env vs = env' at c
    generalize L2.wipe σ vs = σ' at c
    have ne : ∀ {j : Nat} {x : Option V}, v ≠ j → σ'[j]? = some x → (σ'.set v none)[j]? = some x := fun n h => by rw [List.getElem?_set_ne n]; exact h
    refine ⟨by simp [c.len], fun j d' ej => ?_, fun j d' ej => ?_, fun j d' ej => ?_, c.hid, c.inj, c.live, fun j d' b ej z => ?_, c.dom0, c.trs.keep rfl (fun j π a h => ⟨c.trs.hid j π a h, rfl, fun k => c.trs.far j π k a h⟩) (Same.refl _) fun j b d' ej => ?_⟩
    · rcases set_get ej with ⟨rfl, z, l⟩ | ⟨n, z⟩
      · cases z
      · obtain ⟨w, g1, g2⟩ := c.sh j d' z
        exact ⟨w, ne n g1, g2⟩
    · rcases set_get ej with ⟨rfl, z, _⟩ | ⟨n, z⟩
      · cases z
      · obtain ⟨b, g1, g2, g3⟩ := c.ow j d' z
        exact ⟨b, g1, ne n g2, g3⟩
    · rcases set_get ej with ⟨rfl, z, _⟩ | ⟨n, z⟩
      · cases z
      · obtain ⟨b, g1, g0, g2, g3⟩ := c.io j d' z
        exact ⟨b, g1, g0, ne n g2, g3⟩
    · rcases set_get ej with ⟨rfl, q, _⟩ | ⟨n, q⟩
      · cases q
      · exact c.frs j d' b q z
    · rcases set_get ej with ⟨_, q, _⟩ | ⟨n, q⟩
      · cases q
      · exact ⟨q, List.getElem?_set_ne n⟩
theorem wipe_idem (σ : L2.St) (vs : List Nat) : L2.wipe (L2.wipe σ vs) vs = L2.wipe σ vs := by
  have key : ∀ us : List Nat, (∀ u ∈ us, u ∈ vs) → L2.wipe (L2.wipe σ vs) us = L2.wipe σ vs := by
    intro us
    induction us with
    | nil => exact fun _ => rfl
    | cons u us ih =>
      intro h
      show (L2.wipe (L2.wipe σ vs) us).set u none = L2.wipe σ vs
      rw [ih fun x hx => h x (List.mem_cons_of_mem _ hx)]
      have hu : u ∈ vs := h u (List.mem_cons_self ..)
      clear ih h
      induction vs with
      | nil => simp at hu
      | cons w ws ihw =>
        show ((L2.wipe σ ws).set w none).set u none = (L2.wipe σ ws).set w none
        by_cases e : w = u
        · subst e
          rw [List.set_set]
        · have hu' : u ∈ ws := by
            rcases List.mem_cons.mp hu with z | z
            · exact absurd z.symm e
            · exact z
          rw [List.set_comm _ _ e, ihw hu']
  exact key vs fun _ h => h
section
variable {K : PySem.W.Frag} {G G1 : Gh} {env old : List Slot} {σ : L2.St} {H H1 : Hp} {a : Addr} {o : HO}
/-- a hidden thing that is no slot's is changed -/
theorem Cfg.tmpUpd (c : Cfg K B G env σ H) (hs : G.S a) (hn : G.un a) : Cfg K B G env σ (upd H a o) := by
  have m : Same (off G.S H) (off G.S (upd H a o)) := fun x u e => by
    obtain ⟨n, e⟩ := off_inv e
    rw [off_at n, upd_ne fun z => n (by rw [z]; exact hs)]
    exact e
  have ne : ∀ {j : Nat} {x : Addr}, G.r j = some x → x ≠ a := fun {j x} h z => hn.1 j (by rw [← z]; exact h)
  refine ⟨c.len, fun j d e => ?_, fun j d e => ?_, fun j d e => ?_, c.hid, c.inj, fun x h => ?_, c.frs, fun x h => upd_dom x (c.dom0 x h), c.trs.keep rfl (fun j π x h => ⟨c.trs.hid j π x h, upd_ne fun z => hn.2 j π (by rw [← z]; exact h), fun k => c.trs.far j π k x h⟩) m fun j b d e => ⟨e, rfl⟩⟩
  · obtain ⟨w, g1, g2⟩ := c.sh j d e
    exact ⟨w, g1, g2.mono m⟩
  · obtain ⟨b, g1, g2, g3⟩ := c.ow j d e
    exact ⟨b, g1, g2, g3.mono (upd_ne (ne g1)) m⟩
  · obtain ⟨b, g1, g0, g2, g3⟩ := c.io j d e
    exact ⟨b, g1, g0, g2, g3.mono (upd_ne (ne g1)) m⟩
  · by_cases ex : x = a
    · rw [ex, upd_same]
      exact Option.some_ne_none _
    · rw [upd_ne ex]
      exact c.live x h
theorem Mono.tmpUpd (m : Mono G1 H1 G H) (hs : G.S a) (h1 : ¬ G1.S a) : Mono G1 H1 G (upd H a o) :=
  ⟨fun c u e => by
    have e := m.same c u e
    obtain ⟨n, e⟩ := off_inv e
    rw [off_at n, upd_ne fun z => n (by rw [z]; exact hs)]
    exact e, fun q hq n => by
      obtain ⟨x1, x2, x3⟩ := m.tmp q hq n
      exact ⟨x1, x2, (upd_ne fun z => h1 (by rw [← z]; exact hq)).trans x3⟩, fun p h => upd_dom p (m.dom p h)⟩
/-- hidden no more -/
def Gh.show (G : Gh) (a : Addr) : Gh := ⟨fun c => G.S c ∧ c ≠ a, G.r, G.t⟩
theorem Mono.show (m : Mono G1 H1 G H) (h1 : ¬ G1.S a) : Mono G1 H1 (G.show a) H :=
  ⟨fun c u e => by
    obtain ⟨n, e⟩ := off_inv (m.same c u e)
    rw [off_at fun z => n z.1]
    exact e, fun q hq n => by
      obtain ⟨x1, x2, x3⟩ := m.tmp q hq n
      exact ⟨⟨x1, fun z => h1 (by rw [← z]; exact hq)⟩, x2, x3⟩, m.dom⟩
theorem off_show : Same (off G.S H) (off (G.show a).S H) := fun c u e => by
  obtain ⟨n, e⟩ := off_inv e
  rw [off_at fun z => n z.1]
  exact e
theorem Cfg.show (c : Cfg K B G env σ H) (hn : G.un a) : Cfg K B (G.show a) env σ H := by
  refine ⟨c.len, fun j d e => ?_, fun j d e => ?_, fun j d e => ?_, fun i x h => ⟨c.hid i x h, fun z => hn.1 i (by rw [← z]; exact h)⟩, c.inj, fun x h => c.live x h.1, c.frs, c.dom0, c.trs.keep rfl (fun j π x h => ⟨⟨c.trs.hid j π x h, fun z => hn.2 j π (by rw [← z]; exact h)⟩, rfl, fun k => c.trs.far j π k x h⟩) off_show fun j b d e => ⟨e, rfl⟩⟩
  · obtain ⟨w, g1, g2⟩ := c.sh j d e
    exact ⟨w, g1, g2.mono off_show⟩
  · obtain ⟨b, g1, g2, g3⟩ := c.ow j d e
    exact ⟨b, g1, g2, g3.mono rfl off_show⟩
  · obtain ⟨b, g1, g0, g2, g3⟩ := c.io j d e
    exact ⟨b, g1, g0, g2, g3.mono rfl off_show⟩
theorem wipeE_out {i : Nat} : ∀ {vs : List Nat}, i ∉ vs → (wipeE env vs)[i]? = env[i]?
  | [], _ => rfl
  | v :: vs, h => by
    show ((wipeE env vs).set v .un)[i]? = env[i]?
    rw [List.getElem?_set_ne fun e => h (by simp [e]), wipeE_out fun z => h (List.mem_cons_of_mem _ z)]
theorem wipe_out {i : Nat} : ∀ {vs : List Nat}, i ∉ vs → (L2.wipe σ vs)[i]? = σ[i]?
  | [], _ => rfl
  | v :: vs, h => by
    show ((L2.wipe σ vs).set v none)[i]? = σ[i]?
    rw [List.getElem?_set_ne fun e => h (by simp [e]), wipe_out fun z => h (List.mem_cons_of_mem _ z)]
theorem backE_len : ∀ vs : List Nat, (backE old env vs).length = env.length
  | [] => rfl
  | v :: vs => by
    unfold backE
    split
    · rw [List.length_set, backE_len vs]
    · exact backE_len vs
theorem wipeE_len : ∀ vs : List Nat, (wipeE env vs).length = env.length
  | [] => rfl
  | v :: vs => by
    show ((wipeE env vs).set v .un).length = _
    rw [List.length_set, wipeE_len vs]
theorem backE_out {i : Nat} : ∀ {vs : List Nat}, i ∉ vs → (backE old env vs)[i]? = env[i]?
  | [], _ => rfl
  | v :: vs, h => by
    unfold backE
    split
    · rw [List.getElem?_set_ne fun e => h (by simp [e]), backE_out fun z => h (List.mem_cons_of_mem _ z)]
    · exact backE_out fun z => h (List.mem_cons_of_mem _ z)
theorem backE_in (hl : env.length = old.length) {i : Nat} : ∀ {vs : List Nat}, i ∈ vs → (backE old env vs)[i]? = old[i]?
  | v :: vs, h => by
    unfold backE
    by_cases e : v = i
    · subst e
      split
      · rename_i s hs
        rw [List.getElem?_set_self (by rw [backE_len, hl]; exact (List.getElem?_eq_some_iff.mp hs).1), hs]
      · rename_i hs
        rw [hs]
        have : old.length ≤ v := List.getElem?_eq_none_iff.mp hs
        exact List.getElem?_eq_none_iff.mpr (by rw [backE_len, hl]; exact this)
    · have h' : i ∈ vs := by
        rcases List.mem_cons.mp h with z | z
        · exact absurd z.symm e
        · exact z
      split
      · rw [List.getElem?_set_ne e, backE_in hl h']
      · exact backE_in hl h'
theorem Cfg.back {vs : List Nat} (c1 : Cfg K B G1 old σ H1) (calm : calmE old vs = true) (c : Cfg K B G (wipeE env vs) (L2.wipe σ vs) H) (m : Mono G1 H1 G H) : Cfg K B G (backE old env vs) σ H := by
  have hl : env.length = old.length := by
    have h1 := c.len
    have h2 := c1.len
    rw [wipeE_len, L2.wipe_length] at h1
    omega
  have pick : ∀ {i : Nat} {s : Slot}, (backE old env vs)[i]? = some s → (i ∉ vs ∧ (wipeE env vs)[i]? = some s ∧ (L2.wipe σ vs)[i]? = σ[i]?) ∨ (old[i]? = some s ∧ (s = .un ∨ ∃ d, s = .sh d)) := fun {i s} h => by
    by_cases hi : i ∈ vs
    · rw [backE_in hl hi] at h
      refine .inr ⟨h, ?_⟩
      have hc := List.all_eq_true.mp calm i hi
      rw [h] at hc
      cases s with
      | un => exact .inl rfl
      | sh d => exact .inr ⟨d, rfl⟩
      | _ => cases hc
    · rw [backE_out hi] at h
      exact .inl ⟨hi, by rw [wipeE_out hi]; exact h, wipe_out hi⟩
  refine ⟨by rw [backE_len, hl]; exact c1.len, fun j d e => ?_, fun j d e => ?_, fun j d e => ?_, c.hid, c.inj, c.live, fun j d b e z => ?_, c.dom0, c.trs.keep rfl (fun j π x h => ⟨c.trs.hid j π x h, rfl, fun k => c.trs.far j π k x h⟩) (Same.refl _) fun j b d e => ?_⟩
  · rcases pick e with ⟨_, e1, e2⟩ | ⟨e1, _⟩
    · obtain ⟨w, g1, g2⟩ := c.sh j d e1
      rw [e2] at g1
      exact ⟨w, g1, g2⟩
    · obtain ⟨w, g1, g2⟩ := c1.sh j d e1
      exact ⟨w, g1, g2.mono m.same⟩
  · rcases pick e with ⟨_, e1, e2⟩ | ⟨_, z | ⟨d, z⟩⟩
    · obtain ⟨b, g1, g2, g3⟩ := c.ow j d e1
      rw [e2] at g2
      exact ⟨b, g1, g2, g3⟩
    · cases z
    · cases z
  · rcases pick e with ⟨_, e1, e2⟩ | ⟨_, z | ⟨d, z⟩⟩
    · obtain ⟨b, g1, g0, g2, g3⟩ := c.io j d e1
      rw [e2] at g2
      exact ⟨b, g1, g0, g2, g3⟩
    · cases z
    · cases z
  · rcases pick e with ⟨_, e1, e2⟩ | ⟨_, q | ⟨d, q⟩⟩
    · exact c.frs j d b e1 z
    · cases q
    · cases q
  · rcases pick e with ⟨_, e1, e2⟩ | ⟨_, q | ⟨d, q⟩⟩
    · exact ⟨e1, e2.symm⟩
    · cases q
    · cases q
end
theorem Out.bind_val {α β : Type} {o : Out α} {k : α → List Slot → Out β} {r : β} {e : List Slot} (h : o.bind k = .val r e) : ∃ a e1, o = .val a e1 ∧ k a e1 = .val r e := by
  cases o with
  | val a e1 => exact ⟨a, e1, rfl, h⟩
  | stuck => cases h
  | exc c as e1 => cases h
variable {Zb : ZX}
theorem lc_DN {vs : List Nat} {G1 : Gh} {H1 : Hp} {e1 eF : List Slot} {σ : L2.St} {J : It} {ds acF : List D} {Q : VK} (hw : p.wi vs = true) (w : WalkD X.K B.ct G1 H1 J ds) (c1 : Cfg X.K B G1 e1 σ H1) (calm : calmE e1 vs = true) (q : compF p ft fe vs ds [] e1 = .val acF eF)
    (hq : ∀ G' H' L, H1 L = none → Mono G1 H1 G' H' → Cfg X.K B G' (backE e1 eF vs) σ H' → G'.S L → G'.un L → OwnAt X.K B.ct H' (off G'.S H') L (.lst acF) → Q (.ref L) H') : ∀ L, H1 L = none → ∃ W : Nat → Nat → Hp → Prop, (∃ m, W 0 m (upd H1 L (.lst []))) ∧ ∀ i m H, W i m H →
      (J.stop i H ∧ Q (.ref L) H) ∨ (J.go i H ∧ ∃ Nx : Hp → Prop, (∀ H', Nx H' → ∃ m', m' < m ∧ W (i + 1) m' H') ∧ ∀ x H', J.yld i H x H' → liftG X.K B p x (wipe σ vs) H' fun σ2 H2 => wipe σ2 vs = wipe σ vs ∧ liftT X.K B Zb ft σ2 H2 fun b H3 =>
        if b = true then liftE X.K B Zb fe σ2 H3 fun y H4 => ∃ acc, H4 L = some (.lst acc) ∧ acc.length < sizeLine ∧ Nx (upd H4 L (.lst (acc ++ [y]))) else Nx H3) := by
  intro L hL
  have nS1 : ¬ G1.S L := fun z => c1.live L z hL
  let W : Nat → Nat → Hp → Prop := fun i m H => ∃ G env acV acc, Cfg X.K B G (wipeE env vs) (L2.wipe σ vs) H ∧ Mono G1 H1 G H ∧ G.S L ∧ G.un L ∧ H L = some (.lst acV) ∧ Rps X.K B.ct (off G.S H) acV acc ∧ m + i = ds.length ∧ compF p ft fe vs (ds.drop i) acc env = .val acF eF
  refine ⟨W, ⟨ds.length, G1.hide L, e1, [], [], ((c1.wipe vs).hide hL), Mono.hide hL c1.live, .inr rfl, c1.newUn hL, upd_same, .nil, rfl, q⟩, ?_⟩
  rintro i m H ⟨G, env, acV, acc, c, mm, hS, hR, hLH, rac, hm, hc⟩
  cases m with
  | zero =>
    have hi : i = ds.length := by omega
    subst hi
    rw [List.drop_length] at hc
    cases hc
    exact .inl ⟨w.stop G H mm, hq G H L hL mm (Cfg.back c1 calm c mm) hS hR ⟨acV, hLH, rac⟩⟩
  | succ m =>
    have hi : i < ds.length := by omega
    refine .inr ⟨w.go i G H mm hi, W (i + 1) m, fun H' h => ⟨m, Nat.lt_succ_self _, h⟩, fun x H'' y => ?_⟩
    obtain ⟨sm, d, ed, rd⟩ := w.yld i G H x H'' mm c.live hi y
    have edr : ds.drop i = d :: ds.drop (i + 1) := by
      rw [List.drop_eq_getElem_cons hi]
      have := (List.getElem?_eq_some_iff.mp ed).2
      rw [this]
    rw [edr] at hc
    unfold compF at hc
    cases hp : p.put d (wipeE env vs) with
    | none =>
      rw [hp] at hc
      cases hc
    | some e2 =>
      rw [hp] at hc
      obtain ⟨b, e3, hft, hc⟩ := Out.bind_val hc
      have mm1 := mm.trans (c.mono sm)
      refine ⟨G, wipeE env vs, d, e2, c.same sm, rd, hp, fun σ2 c2 w2 => ⟨by rw [w2 vs hw, wipe_idem], G, e2, c2, ?_⟩⟩
      rw [hft]
      intro G3 H3 m3 c3
      have w3 : L2.wipe σ2 vs = L2.wipe σ vs := by rw [w2 vs hw, wipe_idem]
      have hL1 : H'' L = some (.lst acV) := sm _ _ hLH
      have rac1 := rac.mono (off_same sm)
      obtain ⟨t1, t2, t3⟩ := m3.tmp L hS hR
      cases b with
      | false =>
        rw [if_neg Bool.false_ne_true] at hc
        refine iteF ⟨G3, e3, acV, acc, ?_, mm1.trans m3, t1, t2, t3.trans hL1, rac1.mono m3.same, by omega, hc⟩
        rw [← w3]
        exact c3.wipe vs
      | true =>
        rw [if_pos rfl] at hc
        obtain ⟨yd, e4, hfe, hc⟩ := Out.bind_val hc
        refine iteT ⟨G3, e3, c3, ?_⟩
        rw [hfe]
        intro G4 H4 m4 c4 v rv
        obtain ⟨u1, u2, u3⟩ := m4.tmp L t1 t2
        have hL4 : H4 L = some (.lst acV) := u3.trans (t3.trans hL1)
        have rac4 := (rac1.mono m3.same).mono m4.same
        by_cases hl : acc.length < sizeLine
        · rw [if_pos hl] at hc
          have keep : Same (off G4.S H4) (off G4.S (upd H4 L (.lst (acV ++ [v])))) := fun c u e => by
            obtain ⟨n, e⟩ := off_inv e
            rw [off_at n, upd_ne fun z => n (by rw [z]; exact u1)]
            exact e
          refine ⟨acV, hL4, by rw [rac4.len]; exact hl, G4, e4, acV ++ [v], acc ++ [yd], ?_, ((mm1.trans m3).trans m4).tmpUpd u1 nS1, u1, u2, upd_same, (rac4.app (.one rv)).mono keep, by omega, hc⟩
          rw [← w3]
          exact (c4.wipe vs).tmpUpd u1 u2
        · rw [if_neg hl] at hc
          cases hc
theorem lc_D {vs : List Nat} {G1 : Gh} {H1 : Hp} {e1 eF : List Slot} {σ : L2.St} {J : It} {ds acF : List D} {Q : VK} (hw : p.wi vs = true) (w : WalkD X.K B.ct G1 H1 J ds) (c1 : Cfg X.K B G1 e1 σ H1) (calm : calmE e1 vs = true) (q : compF p ft fe vs ds [] e1 = .val acF eF)
    (hq : ∀ G' H', Mono G1 H1 G' H' → Cfg X.K B G' (backE e1 eF vs) σ H' → ∀ v, Rp X.K B.ct (off G'.S H') v (.lst acF) → Q v H') : ∀ L, H1 L = none → ∃ W : Nat → Nat → Hp → Prop, (∃ m, W 0 m (upd H1 L (.lst []))) ∧ ∀ i m H, W i m H →
      (J.stop i H ∧ Q (.ref L) H) ∨ (J.go i H ∧ ∃ Nx : Hp → Prop, (∀ H', Nx H' → ∃ m', m' < m ∧ W (i + 1) m' H') ∧ ∀ x H', J.yld i H x H' → liftG X.K B p x (wipe σ vs) H' fun σ2 H2 => wipe σ2 vs = wipe σ vs ∧ liftT X.K B Zb ft σ2 H2 fun b H3 =>
        if b = true then liftE X.K B Zb fe σ2 H3 fun y H4 => ∃ acc, H4 L = some (.lst acc) ∧ acc.length < sizeLine ∧ Nx (upd H4 L (.lst (acc ++ [y]))) else Nx H3) :=
  lc_DN hw w c1 calm q fun G' H' L hL mm c hS hR ho => by
    have nS1 : ¬ G1.S L := fun z => c1.live L z hL
    obtain ⟨vs', h1, h2⟩ := ho
    exact hq (G'.show L) H' (mm.show nS1) (c.show hR) _ (.lst (by rw [off_at (show ¬ (G'.S L ∧ L ≠ L) from fun z => z.2 rfl)]; exact h1) (h2.mono off_show))
theorem lift_lc {vs : List Nat} (hw : p.wi vs = true) (σ : L2.St) (H : Hp) (Q : VK) (h : liftE X.K B Z (fComp fi p ft fe vs) σ H Q) : tLc (liftI X.K B Z fi) (liftG X.K B p) (liftT X.K B Zb ft) (liftE X.K B Zb fe) vs σ H Q := by
  obtain ⟨G, env, c, q⟩ := h
  refine ⟨G, env, c, post_imp (post_bind q) fun ds e1 G1 H1 m1 c1 p1 J w => ?_⟩
  by_cases calm : calmE e1 vs = true
  · rw [if_pos calm] at p1
    cases hc : compF p ft fe vs ds [] e1 with
    | val acF eF =>
      rw [hc] at p1
      exact lc_D hw w c1 calm hc p1
    | stuck =>
      rw [hc] at p1
      exact p1.elim
    | exc cc as e2 =>
      rw [hc] at p1
      exact p1.elim
  · rw [if_neg calm] at p1
    exact p1.elim
theorem lift_lcN {vs : List Nat} (hw : p.wi vs = true) (σ : L2.St) (H : Hp) (Q : VK) (h : liftN X.K B Z (fComp fi p ft fe vs) σ H Q) : tLc (liftI X.K B Z fi) (liftG X.K B p) (liftT X.K B Zb ft) (liftE X.K B Zb fe) vs σ H Q := by
  obtain ⟨G, env, c, q⟩ := h
  refine ⟨G, env, c, post_imp (post_bind q) fun ds e1 G1 H1 m1 c1 p1 J w => ?_⟩
  by_cases calm : calmE e1 vs = true
  · rw [if_pos calm] at p1
    cases hc : compF p ft fe vs ds [] e1 with
    | val acF eF =>
      rw [hc] at p1
      exact lc_DN hw w c1 calm hc fun G' H' L hL mm c' hS hR ho => p1 G' H' mm c' L (undom m1 hL) hS hR ho
    | stuck =>
      rw [hc] at p1
      exact p1.elim
    | exc cc as e2 =>
      rw [hc] at p1
      exact p1.elim
  · rw [if_neg calm] at p1
    exact p1.elim
theorem de_comp {ifs : List Expr} {scope : Scope} {own : List (Str × Nat)} (hc : X.calm = true) (hN : X.N.Nodup) (hi : DI X B Z tg e fi) (ok : BlkOk X.N X.env.scope scope own) (hw : p.wi (own.map (·.2)) = true)
    (hg : ∀ (s : Shared) (H : Hp) (C : Addr) (cl : List (Str × Addr)) (fp : List Addr), DG (X.blk s H scope (compEnvC scope cl C X.env) fp) B tg p) (ht : ∀ (s : Shared) (H : Hp) (C : Addr) (cl : List (Str × Addr)) (fp : List Addr), DTs (X.blk s H scope (compEnvC scope cl C X.env) fp) B Zb ifs ft)
    (he : ∀ (s : Shared) (H : Hp) (C : Addr) (cl : List (Str × Addr)) (fp : List Addr), DE (X.blk s H scope (compEnvC scope cl C X.env) fp) B Zb elt fe) (hs : ∀ x, foldedSetIterable e X.env x = pure x := by intro _; rfl) :
    DE X B Z (.ListComp elt [⟨tg, e, ifs, 0⟩] scope pos) (fComp fi p ft fe (own.map (·.2))) :=
  ⟨PE.weak (pe_lc hc hN hi.pi ok (fun s H C cl fp => (hg s H C cl fp).pg) (fun s H C cl fp => (ht s H C cl fp).pts) (fun s H C cl fp => (he s H C cl fp).pe) hs) (lift_lc hw)⟩
theorem dn_comp {ifs : List Expr} {scope : Scope} {own : List (Str × Nat)} (hc : X.calm = true) (hN : X.N.Nodup) (hi : DI X B Z tg e fi) (ok : BlkOk X.N X.env.scope scope own) (hw : p.wi (own.map (·.2)) = true)
    (hg : ∀ (s : Shared) (H : Hp) (C : Addr) (cl : List (Str × Addr)) (fp : List Addr), DG (X.blk s H scope (compEnvC scope cl C X.env) fp) B tg p) (ht : ∀ (s : Shared) (H : Hp) (C : Addr) (cl : List (Str × Addr)) (fp : List Addr), DTs (X.blk s H scope (compEnvC scope cl C X.env) fp) B Zb ifs ft)
    (he : ∀ (s : Shared) (H : Hp) (C : Addr) (cl : List (Str × Addr)) (fp : List Addr), DE (X.blk s H scope (compEnvC scope cl C X.env) fp) B Zb elt fe) (hs : ∀ x, foldedSetIterable e X.env x = pure x := by intro _; rfl) :
    DN X B Z (.ListComp elt [⟨tg, e, ifs, 0⟩] scope pos) (fComp fi p ft fe (own.map (·.2))) :=
  ⟨PE.weak (pe_lc hc hN hi.pi ok (fun s H C cl fp => (hg s H C cl fp).pg) (fun s H C cl fp => (ht s H C cl fp).pts) (fun s H C cl fp => (he s H C cl fp).pe) hs) (lift_lcN hw)⟩
/-- x = [.. for ..] -/
theorem ds_comp {i : Nat} {y : Str} {py spos : Pos} {ifs : List Expr} {scope : Scope} {own : List (Str × Nat)} (hc : X.calm = true) (hN : X.N.Nodup) (hy : X.N[i]? = some y) (hyl : X.env.scope.names.lookup y = some .local)
    (hsw : swapsWith (.ListComp elt [⟨tg, e, ifs, 0⟩] scope pos) (some (.Name y py)) spos.line X.env = pure true) (hi : DI X B Z tg e fi) (ok : BlkOk X.N X.env.scope scope own) (hw : p.wi (own.map (·.2)) = true)
    (hg : ∀ (s : Shared) (H : Hp) (C : Addr) (cl : List (Str × Addr)) (fp : List Addr), DG (X.blk s H scope (compEnvC scope cl C X.env) fp) B tg p) (ht : ∀ (s : Shared) (H : Hp) (C : Addr) (cl : List (Str × Addr)) (fp : List Addr), DTs (X.blk s H scope (compEnvC scope cl C X.env) fp) B Zb ifs ft)
    (he : ∀ (s : Shared) (H : Hp) (C : Addr) (cl : List (Str × Addr)) (fp : List Addr), DE (X.blk s H scope (compEnvC scope cl C X.env) fp) B Zb elt fe) (hs : ∀ x, foldedSetIterable e X.env x = pure x := by intro _; rfl) :
    DS X B Z (.Assign [.Name y py] (.ListComp elt [⟨tg, e, ifs, 0⟩] scope pos) spos) (fAsg (.nm i) (fComp fi p ft fe (own.map (·.2)))) :=
  ⟨PS.weak (ps_setLc hc hN hy hyl hsw hi.pi ok (fun s H C cl fp => (hg s H C cl fp).pg) (fun s H C cl fp => (ht s H C cl fp).pts) (fun s H C cl fp => (he s H C cl fp).pe) hs) fun E σ H h => by
    obtain ⟨G, env, c, q⟩ := h
    refine lift_lc (Z := Z) (Zb := Zb) hw σ H _ ⟨G, env, c, post_imp (exprS q) fun d e1 G1 H1 m1 c1 p1 v rv => ?_⟩
    simp only [Pat.put] at p1
    exact p1 G1 _ H1 Mono.refl (c1.put rv)⟩
end
end Vl
set_option Elab.async false
set_option linter.all false
set_option maxRecDepth 100000
set_option maxHeartbeats 2000000
namespace Vl
open PySem PySem.Spec PyProof.Rows L2 Sb
/-- the arguments: m tells which ones may be changed; they stand at ia -/
structure ArgsOk (K : PySem.W.Frag) (ct : Ct) (S : Addr → Prop) (ia : Nat → Option Addr) (m : List Bool) (vs : List V) (ds : List D) (H : Hp) : Prop where
  lv : vs.length = m.length
  ld : ds.length = m.length
  sh : ∀ (j : Nat) (v : V) (d : D), m[j]? = some false → vs[j]? = some v → ds[j]? = some d → Rp K ct (off S H) v d
  io : ∀ (j : Nat) (v : V) (d : D), m[j]? = some true → vs[j]? = some v → ds[j]? = some d → ∃ a, ia j = some a ∧ v = .ref a ∧ OwnAt K ct H (off S H) a d
  only : ∀ (j : Nat) (a : Addr), ia j = some a → m[j]? = some true
  hid : ∀ (j : Nat) (a : Addr), ia j = some a → S a
  inj : ∀ (i j : Nat) (a : Addr), ia i = some a → ia j = some a → i = j
  live : ∀ (a : Addr), S a → H a ≠ none
inductive Res where
  | stuck | ret (n : Bool) (d : D) (ns : List D) | exc (c : Str) (as : List D) (ns : List D)
structure Frame (K : PySem.W.Frag) (ct : Ct) (S S' : Addr → Prop) (ia : Nat → Option Addr) (H H' : Hp) (ns : List D) : Prop where
  same : Same (off S H) (off S' H')
  hold : ∀ c, S c → (∀ j, ia j ≠ some c) → H' c = H c
  new : ∀ (j : Nat) (a : Addr), ia j = some a → ∃ d, ns[j]? = some d ∧ OwnAt K ct H' (off S' H') a d
  dom : ∀ p, H p ≠ none → H' p ≠ none
def more (S : Addr → Prop) (a : Addr) : Addr → Prop := fun c => S c ∨ c = a
def spV (K : PySem.W.Frag) (ct : Ct) (m : List Bool) (Φ : List D → Res) : Sp := fun vs H Q E => ∃ S ia ds, ArgsOk K ct S ia m vs ds H ∧ match Φ ds with
  | .stuck => False
  | .ret false r ns => ∀ v H', Frame K ct S S ia H H' ns → Rp K ct (off S H') v r → Q v H'
  | .ret true r ns => ∀ a H', H a = none → Frame K ct S (more S a) ia H H' ns → OwnAt K ct H' (off (more S a) H') a r → Q (.ref a) H'
  | .exc c as ns => ∀ H' dd C nm, Frame K ct S S ia H H' ns → ExcAt K ct (off S H') dd c as → ct c = some (C, nm) → E (.ref C) (some dd) H'
def mkEnv (m : List Bool) (n : Nat) (ds : List D) : List Slot := List.zipWith (fun b d => if b then Slot.io d else Slot.sh d) m ds ++ List.replicate (n - m.length) .un
def ioAt (env : List Slot) : Nat → List Bool → Option (List D)
  | _, [] => some []
  | j, b :: m => match b, env[j]?, ioAt env (j + 1) m with
    | false, _, some l => some (.non :: l)
    | true, some (.io d), some l => some (d :: l)
    | _, _, _ => none
theorem ioAt_get {env : List Slot} : ∀ (m : List Bool) (k : Nat) (l : List D), ioAt env k m = some l → ∀ j, m[j]? = some true → ∃ d, l[j]? = some d ∧ env[k + j]? = some (.io d)
  | [], _, _, _, j, h => by simp at h
  | b :: m, k, l, e, j, h => by
    unfold ioAt at e
    split at e
    · rename_i _ _ l' e2
      cases e
      cases j with
      | zero => simp at h
      | succ j =>
        obtain ⟨d, h1, h2⟩ := ioAt_get m (k + 1) l' e2 j (by simpa using h)
        exact ⟨d, by simpa using h1, by rw [show k + (j + 1) = k + 1 + j by omega]; exact h2⟩
    · rename_i _ d l' e2 e3
      cases e
      cases j with
      | zero => exact ⟨d, rfl, e2⟩
      | succ j =>
        obtain ⟨d', h1, h2⟩ := ioAt_get m (k + 1) l' e3 j (by simpa using h)
        exact ⟨d', by simpa using h1, by rw [show k + (j + 1) = k + 1 + j by omega]; exact h2⟩
    · cases e
def Res.of (m : List Bool) (o : Out Fl) : Res := match o with
  | .val (.rt n d) env => match ioAt env 0 m with
    | some l => .ret n d l
    | none => .stuck
  | .val .nx env => match ioAt env 0 m with
    | some l => .ret false .non l
    | none => .stuck
  | .exc c as env => match ioAt env 0 m with
    | some l => .exc c as l
    | none => .stuck
  | _ => .stuck
def runV (m : List Bool) (n : Nat) (F : Ev Fl) (ds : List D) : Res := Res.of m (F (mkEnv m n ds))
/-- without exceptions -/
def Res.quiet : Res → Res
  | .exc _ _ _ => .stuck
  | r => r
section
variable {K : PySem.W.Frag} {ct : Ct} {S : Addr → Prop} {ia : Nat → Option Addr} {m : List Bool} {vs : List V} {ds : List D} {H : Hp} {N : List Str}
theorem mkEnv_get {n j : Nat} {s : Slot} (hl : ds.length = m.length) (h : (mkEnv m n ds)[j]? = some s) : (∃ b d, m[j]? = some b ∧ ds[j]? = some d ∧ s = if b then .io d else .sh d) ∨ (m.length ≤ j ∧ s = .un) := by
  unfold mkEnv at h
  by_cases e : j < m.length
  · rw [List.getElem?_append_left (by rw [List.length_zipWith]; omega), List.getElem?_zipWith] at h
    have e2 : j < ds.length := by omega
    rw [List.getElem?_eq_getElem e, List.getElem?_eq_getElem e2] at h
    exact .inl ⟨_, _, List.getElem?_eq_getElem e, List.getElem?_eq_getElem e2, (Option.some.inj h).symm⟩
  · rw [List.getElem?_append_right (by rw [List.length_zipWith]; omega)] at h
    have := List.mem_of_getElem? h
    exact .inr ⟨by omega, (List.mem_replicate.mp this).2⟩
theorem start_get {j : Nat} {v : V} (h : vs[j]? = some v) : (L2.start N vs)[j]? = some (some v) := by
  unfold L2.start
  have hl := (List.getElem?_eq_some_iff.mp h).1
  rw [List.getElem?_append_left (by simpa using hl), List.getElem?_map, h]
  rfl
def noT : Nat → List Nat → Option Addr := fun _ _ => none
theorem Trees.none {K : PySem.W.Frag} {B : Bs} {S : Addr → Prop} {r : Nat → Option Addr} {env : List Slot} {σ : L2.St} {H : Hp} (hB : ∀ π, B.it ph π = Option.none) (h : ∀ (i : Nat) (b : Bool) (d : D), env[i]? ≠ some (.tr b d)) : Trees K B ⟨S, r, noT⟩ env σ H :=
  ⟨fun i b d e => absurd e (h i b d), fun i π a z => (by cases z), fun i π j ρ a z => (by cases z), fun i π j a z => (by cases z), fun i d e => absurd e (h i true d), fun i π a b d e => absurd e (h i b d), fun q P hq => by rw [hB] at hq; cases hq⟩
theorem start_cfg (A : ArgsOk K ct S ia m vs ds H) (hn : m.length ≤ N.length) : Cfg K ⟨ct, ia, H, noT⟩ ⟨S, ia, noT⟩ (mkEnv m N.length ds) (L2.start N vs) H := by
  have at_ : ∀ {j : Nat} {b : Bool}, m[j]? = some b → ∃ v, vs[j]? = some v := fun {j b} h => by
    have := (List.getElem?_eq_some_iff.mp h).1
    exact ⟨vs[j]'(by rw [A.lv]; exact this), List.getElem?_eq_getElem _⟩
  refine ⟨?_, fun j d e => ?_, fun j d e => ?_, fun j d e => ?_, A.hid, A.inj, A.live, fun j d a e _ => ?_, fun _ h => h, Trees.none (fun _ => rfl) fun j b d e => ?_⟩
  · have h1 := A.lv
    have h2 := A.ld
    unfold mkEnv L2.start
    simp only [List.length_append, List.length_zipWith, List.length_replicate, List.length_map]
    omega
  · rcases mkEnv_get A.ld e with ⟨b, d', h1, h2, h3⟩ | ⟨_, h⟩
    · cases b with
      | true => cases h3
      | false =>
        cases h3
        obtain ⟨v, hv⟩ := at_ h1
        exact ⟨v, start_get hv, A.sh j v _ h1 hv h2⟩
    · cases h
  · rcases mkEnv_get A.ld e with ⟨b, d', h1, h2, h3⟩ | ⟨_, h⟩
    · cases b <;> cases h3
    · cases h
  · rcases mkEnv_get A.ld e with ⟨b, d', h1, h2, h3⟩ | ⟨_, h⟩
    · cases b with
      | false => cases h3
      | true =>
        cases h3
        obtain ⟨v, hv⟩ := at_ h1
        obtain ⟨a, g1, g2, g3⟩ := A.io j v _ h1 hv h2
        subst g2
        exact ⟨a, g1, g1, start_get hv, g3⟩
    · cases h
  · rcases mkEnv_get A.ld e with ⟨b, d', h1, h2, h3⟩ | ⟨_, h⟩
    · cases b <;> cases h3
    · cases h
  · rcases mkEnv_get A.ld e with ⟨b, d', h1, h2, h3⟩ | ⟨_, h⟩
    · cases b <;> cases h3
    · cases h
/-- the frame at the end -/
theorem end_frame {S' : Addr → Prop} {G' : Gh} {env : List Slot} {σ' : L2.St} {H' : Hp} {l : List D} (A : ArgsOk K ct S ia m vs ds H) (mm : Mono ⟨S, ia, noT⟩ H G' H') (c : Cfg K ⟨ct, ia, H, noT⟩ G' env σ' H') (e : ioAt env 0 m = some l) (hS : ∀ x, S' x → S x ∨ G'.S x) : Frame K ct S S' ia H H' l ∧ Same (off G'.S H') (off S' H') := by
  have own : ∀ {j : Nat} {a : Addr}, ia j = some a → ∃ d, l[j]? = some d ∧ G'.r j = some a ∧ OwnAt K ct H' (off G'.S H') a d := fun {j a} h => by
    obtain ⟨d, h1, h2⟩ := ioAt_get m 0 l e j (A.only j a h)
    rw [Nat.zero_add] at h2
    obtain ⟨a', g1, g2, g3, g4⟩ := c.io j d h2
    have g2 : ia j = some a' := g2
    rw [h] at g2
    cases g2
    exact ⟨d, h1, g1, g4⟩
  have le : Same (off G'.S H') (off S' H') := fun x u h => by
    obtain ⟨n, h⟩ := off_inv h
    rw [off_at fun z => n ?_]
    · exact h
    · rcases hS x z with z | z
      · by_cases q : ∃ j, ia j = some x
        · obtain ⟨j, q⟩ := q
          obtain ⟨d, _, g, _⟩ := own q
          exact c.hid j x g
        · exact (mm.tmp x z ⟨fun i y => q ⟨i, y⟩, fun i π y => by cases y⟩).1
      · exact z
  refine ⟨⟨fun x u h => le _ _ (mm.same x u h), fun x hx n => (mm.tmp x hx ⟨n, fun i π y => by cases y⟩).2.2, fun j a h => ?_, mm.dom⟩, le⟩
  obtain ⟨d, h1, _, h3⟩ := own h
  exact ⟨d, h1, h3.mono rfl le⟩
end
def ZNo : ZX := fun _ _ _ _ _ _ _ => False
section
variable {P : Program} {w : World} {K : PySem.W.Frag} {mg : Str → Option Value} {base : Heap} {k : Nat} {f : Addr} {ct : Ct}
/-- a def's promise by its body over data -/
theorem okV {x qual : Str} {st : Stmt} {fd : FuncData} {N ps : List Str} {m : List Bool} {Fs : Ev Fl} (F : Fun K x qual st f fd) (Zs : FnScope N ps (defScope st)) (hm : m.length = ps.length)
    (hb : ∀ (io : Nat → Option Addr) (cdv : Value) (A : Around) (out : List Env) (s : Shared) (H : Hp) (E : XK), A.guards = some [] → Room k (A.deeper (envOfC qual (defScope st) s.heap.objs.size f cdv)) →
      DSs (cxOf CX0 P w K mg base N qual (defScope st) f cdv A out s H E).nox ⟨ct, io, H, noT⟩ ZNo (defBody st) Fs) : FnG P w K mg base CX0 (k + 1) f fd ps (spV K ct m fun ds => (runV m N.length Fs ds).quiet) := by
  have hn : m.length ≤ N.length := by
    rw [hm]
    have := congrArg List.length Zs.pre
    rw [List.length_take] at this
    omega
  refine okG F Zs (fun vs H Q E h => ?_) (fun cdv A out s H vs Q E hg hr h => ?_)
  · obtain ⟨S, ia, ds, A, _⟩ := h
    rw [A.lv, hm]
  · obtain ⟨S, ia, ds, Ar, q⟩ := h
    refine ⟨_, (hb ia cdv A out s H E hg hr).pss, ⟨S, ia, noT⟩, mkEnv m N.length ds, start_cfg Ar hn, ?_⟩
    have fin : ∀ {G' : Gh} {env : List Slot} {σ' : L2.St} {H' : Hp} {l : List D}, Mono ⟨S, ia, noT⟩ H G' H' → Cfg K ⟨ct, ia, H, noT⟩ G' env σ' H' → ioAt env 0 m = some l → Frame K ct S S ia H H' l ∧ Same (off G'.S H') (off S H') := fun a b c => end_frame Ar a b c fun _ h => .inl h
    have q : (match (runV m N.length Fs ds).quiet with
  | .stuck => False
  | .ret false r ns => ∀ v H', Frame K ct S S ia H H' ns → Rp K ct (off S H') v r → Q v H'
  | .ret true r ns => ∀ a H', H a = none → Frame K ct S (more S a) ia H H' ns → OwnAt K ct H' (off (more S a) H') a r → Q (.ref a) H'
  | .exc c as ns => ∀ H' dd C nm, Frame K ct S S ia H H' ns → ExcAt K ct (off S H') dd c as → ct c = some (C, nm) → E (.ref C) (some dd) H') := q
    unfold runV at q
    cases ho : Fs (mkEnv m N.length ds) with
    | stuck =>
      rw [ho] at q
      exact q.elim
    | exc c as env =>
      rw [ho] at q
      simp only [Res.of] at q
      cases hl : ioAt env 0 m <;> (rw [hl] at q; exact q.elim)
    | val fl env =>
      rw [ho] at q
      cases fl with
      | bk => exact q.elim
      | ct => exact q.elim
      | nx =>
        simp only [Res.of] at q
        cases hl : ioAt env 0 m with
        | none =>
          rw [hl] at q
          exact q.elim
        | some l =>
          rw [hl] at q
          exact fun G' σ' H' mm c => q _ H' (fin mm c hl).1 .non
      | rt n d =>
        simp only [Res.of] at q
        cases hl : ioAt env 0 m with
        | none =>
          rw [hl] at q
          exact q.elim
        | some l =>
          rw [hl] at q
          cases n with
          | false => exact fun G' σ' H' mm c v rv => q v H' (fin mm c hl).1 (rv.mono (fin mm c hl).2)
          | true =>
            intro G' σ' H' mm c a h0 hs ho'
            have ee := end_frame (S' := more S a) Ar mm c hl fun x hx => hx.elim .inl fun e => .inr (by rw [e]; exact hs)
            exact q a H' h0 ee.1 (ho'.mono rfl ee.2)
end
abbrev Ag := D ⊕ Nat
def liftAi (K : PySem.W.Frag) (B : Bs) (Z : ZX) (f : Ev (List Ag)) : TA := fun σ H Q => ∃ G env, Cfg K B G env σ H ∧ postG K B Z G σ H (f env) (fun l _ G' H' => ∀ vs, Paired (fun v (g : Ag) => match g with
  | .inl d => Rp K B.ct (off G'.S H') v d
  | .inr i => σ[i]? = some (some v)) vs l → Q vs H')
structure DAi (X : Cx) (B : Bs) (Z : ZX) (e : List Expr) (f : Ev (List Ag)) : Prop where
  pa : PA X e (liftAi X.K B Z f)
def gNl : Ev (List Ag) := fun env => .val [] env
def gCn (f : Ev D) (fs : Ev (List Ag)) : Ev (List Ag) := fun env => (f env).bind fun d e1 => (fs e1).bind fun l e2 => .val (.inl d :: l) e2
def gIo (i : Nat) (fs : Ev (List Ag)) : Ev (List Ag) := fun env => match env[i]? with
  | some (.ow _) => (fs env).bind fun l e2 => .val (.inr i :: l) e2
  | some (.io _) => (fs env).bind fun l e2 => .val (.inr i :: l) e2
  | _ => .stuck
section
variable {X : Cx} {B : Bs} {Z : ZX} {e : Expr} {es : List Expr} {pos : Pos} {f : Ev D} {fs : Ev (List Ag)}
theorem dai_nil : DAi X B Z [] gNl := ⟨PA.weak pa_nil fun σ H Q ⟨G, env, c, p⟩ => p G H Mono.refl c [] .nil⟩
theorem dai_cons (ha : DE X B Z e f) (hr : DAi X B Z es fs) (hs : starEach (e :: es) X.env = (false, eval e X.env) :: starEach es X.env := by rfl) : DAi X B Z (e :: es) (gCn f fs) :=
  ⟨PA.weak (pa_cons ha.pe hr.pa hs) fun σ H Q ⟨G, env, c, p⟩ =>
    ⟨G, env, c, post_imp (post_bind p) fun d e1 G1 H1 m1 c1 p1 v rv => ⟨G1, e1, c1, post_imp (post_bind p1) fun l e2 G2 H2 m2 c2 p2 vs rvs => p2 G2 H2 Mono.refl c2 (v :: vs) (.cons (rv.mono m2.same) rvs)⟩⟩⟩
theorem dai_io {i : Nat} {x : Str} (hN : X.N[i]? = some x) (hv : Vis X.env.scope x) (hr : DAi X B Z es fs) (hd : (x == ("__debug__" : Str)) = false := by decide) (hcd : (x == ("__classdict__" : Str)) = false := by decide)
    (hs : starEach (.Name x pos :: es) X.env = (false, eval (.Name x pos) X.env) :: starEach es X.env := by rfl) : DAi X B Z (.Name x pos :: es) (gIo i fs) :=
  ⟨PA.weak (pa_cons (pe_var hN hv hd hcd) hr.pa hs) fun σ H Q ⟨G, env, c, p⟩ => by
    unfold gIo at p
    split at p
    · rename_i d hd
      obtain ⟨a, h1, h2, _⟩ := c.own (b := false) hd
      exact ⟨_, h2, G, env, c, post_imp (post_bind p) fun l e2 G2 H2 m2 c2 p2 vs rvs => p2 G2 H2 Mono.refl c2 _ (.cons h2 rvs)⟩
    · rename_i d hd
      obtain ⟨a, h1, h2, _⟩ := c.own (b := true) hd
      exact ⟨_, h2, G, env, c, post_imp (post_bind p) fun l e2 G2 H2 m2 c2 p2 vs rvs => p2 G2 H2 Mono.refl c2 _ (.cons h2 rvs)⟩
    · exact p.elim⟩
end
/-- what an argument is now -/
def agD (env : List Slot) : Ag → Option D
  | .inl d => some d
  | .inr i => match env[i]? with
    | some (.ow d) => some d
    | some (.io d) => some d
    | _ => none
def agDs (env : List Slot) : List Ag → Option (List D)
  | [] => some []
  | g :: l => match agD env g, agDs env l with
    | some d, some ds => some (d :: ds)
    | _, _ => none
def Ag.isIo : Ag → Bool
  | .inl _ => false
  | .inr _ => true
def ioSlots : List Ag → List Nat
  | [] => []
  | .inl _ :: l => ioSlots l
  | .inr i :: l => i :: ioSlots l
def put1 (env : List Slot) (i : Nat) (d : D) : List Slot := match env[i]? with
  | some (.ow _) => env.set i (.ow d)
  | some (.io _) => env.set i (.io d)
  | _ => env
def putAll : List Slot → List Ag → List D → List Slot
  | env, .inr i :: l, d :: ds => putAll (put1 env i d) l ds
  | env, .inl _ :: l, _ :: ds => putAll env l ds
  | env, _, _ => env
def fCall (m : List Bool) (Φ : List D → Res) (dd : List D) (fs : Ev (List Ag)) : Ev D := fun env => (fs env).bind fun l e => match agDs e l with
  | none => .stuck
  | some ds => if l.map Ag.isIo ++ dd.map (fun _ => false) = m ∧ (ioSlots l).Nodup then (match Φ (ds ++ dd) with
    | .ret _ r ns => .val r (putAll e l ns)
    | .exc c as ns => .exc c as (putAll e l ns)
    | .stuck => .stuck) else .stuck
/-- a call whose value is new -/
def fCallN (m : List Bool) (Φ : List D → Res) (dd : List D) (fs : Ev (List Ag)) : Ev D := fun env => (fs env).bind fun l e => match agDs e l with
  | none => .stuck
  | some ds => if l.map Ag.isIo ++ dd.map (fun _ => false) = m ∧ (ioSlots l).Nodup then (match Φ (ds ++ dd) with
    | .ret true r ns => .val r (putAll e l ns)
    | .exc c as ns => .exc c as (putAll e l ns)
    | _ => .stuck) else .stuck
end Vl
set_option Elab.async false
set_option linter.all false
set_option maxRecDepth 100000
set_option maxHeartbeats 2000000
namespace Vl
open PySem PySem.Spec PyProof.Rows L2 Sb
/-- an error of a call is met, in the state of the call -/
def PassesS (CX : CXT) (X : Cx) (σ : L2.St) (E : XK) : Prop := ∀ (pins : List (Addr × Obj)) (H : Hp) (s : Shared) (e : Value) (s' : Shared), Inv X pins σ H s → CX X.stack H s E e s' → X.xe e s'
section
variable {X : Cx} {CX : CXT} {k : Nat} {f : Addr} {fd : FuncData} {ps : List Str} {sp : Sp} {E : XK} {ds : List Value} {dvs : List V} {x : Str} {p pos : Pos} {e : Expr} {es : List Expr} {t : TA}
theorem run_fnGT {pins : List (Addr × Obj)} {σ : L2.St} {H : Hp} {s : Shared} {Q : VK} {us : List Value} {vs : List V} (F : FnG X.prog X.w X.K X.mg X.base CX k f fd ps sp) (hgd : X.A.guards = some []) (hr : Room k X.A) (hb : Binds X.K fd ps ds) (hd : Vals dvs ds) (hx : PassesS CX X σ E)
    (I : Inv X pins σ H s) (r : Vals vs us) (h : sp (vs ++ dvs) H Q E) : wpAny (model X.prog X.w) X.A (call (.ref f) us) (EP X pins σ Q) X.xe s := by
  have r2 : Vals (vs ++ dvs) (us ++ ds) := r.append hd
  have hl : (us ++ ds).length = ps.length := by rw [← r2.length]; exact F.size _ _ _ _ h
  refine wpAny_call (codeAny_mono (F.go X.A X.stack s H ⟨us, []⟩ (us ++ ds) (vs ++ dvs) Q E hgd hr I.env0 (hb s us I.kIn hl) r2 h) fun r s' hq => ?_)
  match r, hq with
  | .error e, hq => exact hx pins H s e s' I hq
  | .ok (.ret u), hq => exact I.after hq
  | .ok .next, hq => exact False.elim hq
  | .ok .brk, hq => exact False.elim hq
  | .ok .cont, hq => exact False.elim hq
theorem run_fnG {pins : List (Addr × Obj)} {σ : L2.St} {H : Hp} {s : Shared} {Q : VK} {us : List Value} {vs : List V} (F : FnG X.prog X.w X.K X.mg X.base CX k f fd ps sp) (hgd : X.A.guards = some []) (hr : Room k X.A) (hb : Binds X.K fd ps ds) (hd : Vals dvs ds) (hx : Passes CX X E)
    (I : Inv X pins σ H s) (r : Vals vs us) (h : sp (vs ++ dvs) H Q E) : wpAny (model X.prog X.w) X.A (call (.ref f) us) (EP X pins σ Q) X.xe s :=
  run_fnGT F hgd hr hb hd (fun pins H s e s' => hx pins σ H s e s') I r h
theorem pe_callG (F : FnG X.prog X.w X.K X.mg X.base CX k f fd ps sp) (hgd : X.A.guards = some []) (hr : Room k X.A) (hg : Gl X x) (hm : X.mg x = some (.ref f)) (hk : PySem.W.keepIn X.K (.ref f) = true) (hb : Binds X.K fd ps ds) (hd : Vals dvs ds) (hx : Passes CX X E)
    (ha : PA X (e :: es) t) (hdb : (x == ("__debug__" : Str)) = false := by decide) (he : starEach (e :: es) X.env = (false, eval e X.env) :: starEach es X.env := by rfl) (hpl : (backTo pos (starEach es X.env)).any (·.1) = false := by rfl) :
    PE X (.Call (.Name x p) (e :: es) [] pos) (tCall sp dvs E t) := by
  refine ⟨fun pins s σ H Q I h => ?_⟩
  refine wpAny_Call_Name_kw (ld_glob I hg hm ?_ hdb)
  refine PySem.W.callWith_K (h₀ := X.base) I.ok.mod.kin hk (thn (ha.run pos pins s σ H _ I h) fun us s1 ⟨vs, H1, I1, r, q⟩ => ⟨I1.kIn, ?_⟩) he hpl
  exact run_fnG F hgd hr hb hd hx I1 r q
end
theorem put1_out {env : List Slot} {i k : Nat} {d : D} (h : i ≠ k) : (put1 env i d)[k]? = env[k]? := by
  unfold put1
  split
  · exact List.getElem?_set_ne h
  · exact List.getElem?_set_ne h
  · rfl
theorem put1_len {env : List Slot} {i : Nat} {d : D} : (put1 env i d).length = env.length := by
  unfold put1
  split <;> simp
theorem putAll_len : ∀ (l : List Ag) (env : List Slot) (ns : List D), (putAll env l ns).length = env.length
  | [], env, ns => by cases ns <;> rfl
  | .inl _ :: l, env, [] => rfl
  | .inr i :: l, env, [] => rfl
  | .inl _ :: l, env, _ :: ns => putAll_len l env ns
  | .inr i :: l, env, d :: ns => by
    show (putAll (put1 env i d) l ns).length = _
    rw [putAll_len, put1_len]
theorem putAll_out : ∀ (l : List Ag) (env : List Slot) (ns : List D) {k : Nat}, k ∉ ioSlots l → (putAll env l ns)[k]? = env[k]?
  | [], env, ns, k, _ => by cases ns <;> rfl
  | .inl _ :: l, env, [], k, _ => rfl
  | .inr i :: l, env, [], k, _ => rfl
  | .inl _ :: l, env, _ :: ns, k, h => putAll_out l env ns h
  | .inr i :: l, env, d :: ns, k, h => by
    show (putAll (put1 env i d) l ns)[k]? = _
    rw [putAll_out l _ ns fun z => h (List.mem_cons_of_mem _ z), put1_out fun z => h (by rw [z]; exact List.mem_cons_self ..)]
theorem ioSlots_mem : ∀ {l : List Ag} {j i : Nat}, l[j]? = some (.inr i) → i ∈ ioSlots l
  | .inl _ :: l, 0, i, h => by cases h
  | .inr i' :: l, 0, i, h => by
    cases h
    exact List.mem_cons_self ..
  | .inl _ :: l, j + 1, i, h => ioSlots_mem (l := l) (by simpa using h)
  | .inr i' :: l, j + 1, i, h => List.mem_cons_of_mem _ (ioSlots_mem (l := l) (by simpa using h))
theorem ioSlots_at : ∀ {l : List Ag} {i : Nat}, i ∈ ioSlots l → ∃ j : Nat, l[j]? = some (Sum.inr i)
  | .inl _ :: l, i, h => by
    obtain ⟨j, e⟩ := ioSlots_at (l := l) h
    exact ⟨j + 1, by simpa using e⟩
  | .inr i' :: l, i, h => by
    rcases List.mem_cons.mp h with z | z
    · exact ⟨0, by rw [z]; rfl⟩
    · obtain ⟨j, e⟩ := ioSlots_at (l := l) z
      exact ⟨j + 1, by simpa using e⟩
theorem ioSlots_inj : ∀ {l : List Ag} {j1 j2 i : Nat}, (ioSlots l).Nodup → l[j1]? = some (.inr i) → l[j2]? = some (.inr i) → j1 = j2
  | .inl _ :: l, 0, _, i, _, h, _ => by cases h
  | .inl _ :: l, _, 0, i, _, _, h => by cases h
  | .inl _ :: l, a + 1, b + 1, i, n, h1, h2 => by rw [ioSlots_inj (l := l) (j1 := a) (j2 := b) (i := i) n (by simpa using h1) (by simpa using h2)]
  | .inr i' :: l, 0, 0, i, _, _, _ => rfl
  | .inr i' :: l, 0, b + 1, i, n, h1, h2 => by
    cases h1
    exact absurd (ioSlots_mem (l := l) (by simpa using h2)) (List.nodup_cons.mp n).1
  | .inr i' :: l, a + 1, 0, i, n, h1, h2 => by
    cases h2
    exact absurd (ioSlots_mem (l := l) (by simpa using h1)) (List.nodup_cons.mp n).1
  | .inr i' :: l, a + 1, b + 1, i, n, h1, h2 => by rw [ioSlots_inj (l := l) (j1 := a) (j2 := b) (i := i) (List.nodup_cons.mp n).2 (by simpa using h1) (by simpa using h2)]
theorem own_ne {b b' : Bool} {d d' : D} {i : Nat} {env : List Slot} (h : env[i]? = some (own b d)) (d2 : D) : (put1 env i d2)[i]? = some (own b d2) := by
  have hl := (List.getElem?_eq_some_iff.mp h).1
  cases b with
  | true =>
    have e : put1 env i d2 = env.set i (.io d2) := by
      unfold put1
      rw [h]
      rfl
    rw [e]
    exact List.getElem?_set_self hl
  | false =>
    have e : put1 env i d2 = env.set i (.ow d2) := by
      unfold put1
      rw [h]
      rfl
    rw [e]
    exact List.getElem?_set_self hl
theorem putAll_in : ∀ {l : List Ag} {env : List Slot} {ns : List D} {j k : Nat} {b : Bool} {d d0 : D}, (ioSlots l).Nodup → l[j]? = some (.inr k) → ns[j]? = some d → env[k]? = some (own b d0) → (putAll env l ns)[k]? = some (own b d)
  | .inl _ :: l, env, [], j, k, b, d, d0, _, _, h, _ => by simp at h
  | .inr _ :: l, env, [], j, k, b, d, d0, _, _, h, _ => by simp at h
  | .inl _ :: l, env, _ :: ns, 0, k, b, d, d0, n, h, _, _ => by cases h
  | .inl _ :: l, env, _ :: ns, j + 1, k, b, d, d0, n, h, h2, h3 => putAll_in (l := l) n (by simpa using h) (by simpa using h2) h3
  | .inr i :: l, env, d' :: ns, 0, k, b, d, d0, n, h, h2, h3 => by
    have e1 : i = k := by simpa using h
    have e2 : d' = d := by simpa using h2
    subst e1 e2
    show (putAll (put1 env i d') l ns)[i]? = _
    rw [putAll_out l _ ns (List.nodup_cons.mp n).1]
    exact own_ne (b' := b) (d' := d0) h3 d'
  | .inr i :: l, env, d' :: ns, j + 1, k, b, d, d0, n, h, h2, h3 => by
    have hm := ioSlots_mem (l := l) (j := j) (i := k) (by simpa using h)
    have ne : i ≠ k := fun z => (List.nodup_cons.mp n).1 (by rw [z]; exact hm)
    exact putAll_in (l := l) (env := put1 env i d') (List.nodup_cons.mp n).2 (by simpa using h) (by simpa using h2) (by rw [put1_out ne]; exact h3)
theorem agDs_len : ∀ {l : List Ag} {env : List Slot} {ds : List D}, agDs env l = some ds → ds.length = l.length
  | [], _, ds, h => by
    cases h
    rfl
  | g :: l, env, ds, h => by
    unfold agDs at h
    split at h
    · cases h
      rename_i e1 e2
      simp [agDs_len e2]
    · cases h
theorem agDs_get : ∀ {l : List Ag} {env : List Slot} {ds : List D} {j : Nat} {g : Ag}, agDs env l = some ds → l[j]? = some g → ∃ d, ds[j]? = some d ∧ agD env g = some d
  | [], _, ds, j, g, h, e => by simp at e
  | g' :: l, env, ds, j, g, h, e => by
    unfold agDs at h
    split at h
    · cases h
      rename_i e1 e2
      cases j with
      | zero =>
        cases e
        exact ⟨_, rfl, e1⟩
      | succ j =>
        obtain ⟨d, h1, h2⟩ := agDs_get (l := l) e2 (by simpa using e)
        exact ⟨d, by simpa using h1, h2⟩
    · cases h
theorem agD_own {env : List Slot} {i : Nat} {d : D} (h : agD env (.inr i) = some d) : ∃ b, env[i]? = some (own b d) := by
  simp only [agD] at h
  split at h
  · cases h
    exact ⟨false, by assumption⟩
  · cases h
    exact ⟨true, by assumption⟩
  · cases h
/-- the addresses of the arguments that may be changed -/
def iaOf (G : Gh) (l : List Ag) : Nat → Option Addr := fun j => match l[j]? with
  | some (.inr i) => G.r i
  | _ => none
theorem iaOf_some {G : Gh} {l : List Ag} {j : Nat} {a : Addr} (h : iaOf G l j = some a) : ∃ i, l[j]? = some (.inr i) ∧ G.r i = some a := by
  unfold iaOf at h
  split at h
  · exact ⟨_, by assumption, h⟩
  · cases h
section
variable {K : PySem.W.Frag} {B : Bs} {G : Gh} {env : List Slot} {σ : L2.St} {H H' : Hp} {l : List Ag} {ds dd ns : List D} {vs dvs : List V} {m : List Bool}
theorem args_of (c : Cfg K B G env σ H) (pr : Paired (fun v (g : Ag) => match g with
  | .inl d => Rp K B.ct (off G.S H) v d
  | .inr i => σ[i]? = some (some v)) vs l) (had : agDs env l = some ds) (hm : l.map Ag.isIo ++ dd.map (fun _ => false) = m) (nd : (ioSlots l).Nodup) (rd : Rps K B.ct (off G.S H) dvs dd) : ArgsOk K B.ct G.S (iaOf G l) m (vs ++ dvs) (ds ++ dd) H := by
  have lv := Paired.length pr
  have ld := agDs_len had
  have lr := rd.len
  have getP : ∀ {vs : List V} {l : List Ag}, Paired (fun v (g : Ag) => match g with
    | .inl d => Rp K B.ct (off G.S H) v d
    | .inr i => σ[i]? = some (some v)) vs l → ∀ {j : Nat} {v : V} {g : Ag}, vs[j]? = some v → l[j]? = some g → (match g with
    | .inl d => Rp K B.ct (off G.S H) v d
    | .inr i => σ[i]? = some (some v)) := by
    intro vs l pr
    induction pr with
    | nil =>
      intro j v g h
      simp at h
    | cons h t ih =>
      intro j v g h1 h2
      cases j with
      | zero =>
        cases h1
        cases h2
        exact h
      | succ j => exact ih (by simpa using h1) (by simpa using h2)
  have ml : ∀ {j : Nat} {b : Bool}, m[j]? = some b → (j < l.length ∧ ∃ g, l[j]? = some g ∧ g.isIo = b) ∨ (l.length ≤ j ∧ b = false) := by
    intro j b h
    rw [← hm] at h
    by_cases e : j < l.length
    · rw [List.getElem?_append_left (by simpa using e), List.getElem?_map, List.getElem?_eq_getElem e] at h
      exact .inl ⟨e, l[j], List.getElem?_eq_getElem e, Option.some.inj h⟩
    · rw [List.getElem?_append_right (by simpa using e)] at h
      have := List.mem_of_getElem? h
      obtain ⟨_, _, z⟩ := List.mem_map.mp this
      exact .inr ⟨by omega, z.symm⟩
  refine ⟨?_, ?_, fun j v d h1 h2 h3 => ?_, fun j v d h1 h2 h3 => ?_, fun j a h => ?_, fun j a h => ?_, fun i j a h1 h2 => ?_, c.live⟩
  · rw [← hm]
    simp [lv, lr]
  · rw [← hm]
    simp [ld]
  · rcases ml h1 with ⟨hj, g, hg, hb⟩ | ⟨hj, _⟩
    · rw [List.getElem?_append_left (by omega)] at h2 h3
      obtain ⟨d', e1, e2⟩ := agDs_get had hg
      rw [h3] at e1
      cases e1
      cases g with
      | inr i => cases hb
      | inl d0 =>
        cases e2
        exact getP pr h2 hg
    · rw [List.getElem?_append_right (by omega)] at h2 h3
      have e : j - vs.length = j - ds.length := by omega
      rw [e] at h2
      obtain ⟨d', e1, e2⟩ := rd.get h2
      rw [h3] at e1
      cases e1
      exact e2
  · rcases ml h1 with ⟨hj, g, hg, hb⟩ | ⟨hj, z⟩
    · rw [List.getElem?_append_left (by omega)] at h2 h3
      obtain ⟨d', e1, e2⟩ := agDs_get had hg
      rw [h3] at e1
      cases e1
      cases g with
      | inl d0 => cases hb
      | inr i =>
        obtain ⟨b, ho⟩ := agD_own e2
        obtain ⟨a, g1, g2, g3⟩ := c.own ho
        have hv : σ[i]? = some (some v) := getP pr h2 hg
        rw [g2] at hv
        cases hv
        exact ⟨a, by unfold iaOf; rw [hg]; exact g1, rfl, g3⟩
    · cases z
  · obtain ⟨i, h1, h2⟩ := iaOf_some h
    rw [← hm, List.getElem?_append_left (by simpa using (List.getElem?_eq_some_iff.mp h1).1), List.getElem?_map, h1]
    rfl
  · obtain ⟨i, h1, h2⟩ := iaOf_some h
    exact c.hid i a h2
  · obtain ⟨i1, x1, y1⟩ := iaOf_some h1
    obtain ⟨i2, x2, y2⟩ := iaOf_some h2
    have := c.inj i1 i2 a y1 y2
    subst this
    exact ioSlots_inj nd x1 x2
theorem after_call (c : Cfg K B G env σ H) (had : agDs env l = some ds) (nd : (ioSlots l).Nodup) (fr : Frame K B.ct G.S G.S (iaOf G l) H H' ns) : Mono G H G H' ∧ Cfg K B G (putAll env l ns) σ H' := by
  have mm : Mono G H G H' := ⟨fr.same, fun p hp n => ⟨hp, n, fr.hold p hp fun j z => by
    obtain ⟨i, _, h⟩ := iaOf_some z
    exact n.1 i h⟩, fr.dom⟩
  have pick : ∀ {k : Nat} {s : Slot}, (putAll env l ns)[k]? = some s → (k ∉ ioSlots l ∧ env[k]? = some s) ∨ ∃ b d a, s = own b d ∧ G.r k = some a ∧ σ[k]? = some (some (.ref a)) ∧ (b = true → B.io k = some a) ∧ OwnAt K B.ct H' (off G.S H') a d := by
    intro k s h
    by_cases hk : k ∈ ioSlots l
    · obtain ⟨j, hj⟩ := ioSlots_at hk
      obtain ⟨d0, e1, e2⟩ := agDs_get had hj
      obtain ⟨b, ho⟩ := agD_own e2
      obtain ⟨a, g1, g2, g3⟩ := c.own ho
      obtain ⟨d, n1, n2⟩ := fr.new j a (by unfold iaOf; rw [hj]; exact g1)
      rw [putAll_in nd hj n1 ho] at h
      refine .inr ⟨b, d, a, (Option.some.inj h).symm, g1, g2, fun hb => ?_, n2⟩
      subst hb
      obtain ⟨a', q1, q2, _⟩ := c.io k d0 ho
      rw [g1] at q1
      cases q1
      exact q2
    · rw [putAll_out l env ns hk] at h
      exact .inl ⟨hk, h⟩
  have far : ∀ {k : Nat} {a : Addr}, k ∉ ioSlots l → G.r k = some a → H' a = H a := fun {k a} hk h => fr.hold a (c.hid k a h) fun j z => by
    obtain ⟨i, h1, h2⟩ := iaOf_some z
    have := c.inj i k a h2 h
    subst this
    exact hk (ioSlots_mem h1)
  refine ⟨mm, by rw [putAll_len]; exact c.len, fun j d e => ?_, fun j d e => ?_, fun j d e => ?_, c.hid, c.inj, fun a ha => fr.dom a (c.live a ha), fun j d a e g => ?_, fun a h => fr.dom a (c.dom0 a h), c.trs.keep rfl (fun i π a h => ⟨c.trs.hid i π a h, fr.hold a (c.trs.hid i π a h) fun j z => by
    obtain ⟨k, _, h2⟩ := iaOf_some z
    exact c.trs.far i π k a h h2, fun j => c.trs.far i π j a h⟩) fr.same fun i b d e => ?_⟩
  · rcases pick e with ⟨_, h⟩ | ⟨b, d', a, h, _⟩
    · obtain ⟨v, g1, g2⟩ := c.sh j d h
      exact ⟨v, g1, g2.mono fr.same⟩
    · cases b <;> cases h
  · rcases pick e with ⟨hk, h⟩ | ⟨b, d', a, h, g1, g2, _, g3⟩
    · obtain ⟨a, g1, g2, g3⟩ := c.ow j d h
      exact ⟨a, g1, g2, g3.mono (far hk g1) fr.same⟩
    · cases b with
      | true => cases h
      | false =>
        cases h
        exact ⟨a, g1, g2, g3⟩
  · rcases pick e with ⟨hk, h⟩ | ⟨b, d', a, h, g1, g2, g0, g3⟩
    · obtain ⟨a, g1, g0, g2, g3⟩ := c.io j d h
      exact ⟨a, g1, g0, g2, g3.mono (far hk g1) fr.same⟩
    · cases b with
      | false => cases h
      | true =>
        cases h
        exact ⟨a, g1, g0 rfl, g2, g3⟩
  · rcases pick e with ⟨hk, h⟩ | ⟨b, d', a', h, g1, g2, g0, g3⟩
    · exact c.frs j d a h g
    · cases b with
      | true => cases h
      | false =>
        cases h
        by_cases hk : j ∈ ioSlots l
        · obtain ⟨i, hi⟩ := ioSlots_at hk
          obtain ⟨d0, e1, e2⟩ := agDs_get had hi
          obtain ⟨b, ho⟩ := agD_own e2
          cases b with
          | false => exact c.frs j d0 a ho g
          | true =>
            obtain ⟨d2, n1, n2⟩ := fr.new i a (by unfold iaOf; rw [hi]; exact g)
            rw [putAll_in nd hi n1 ho] at e
            cases e
        · rw [putAll_out l env ns hk] at e
          exact c.frs j _ a e g
  · rcases pick e with ⟨_, h⟩ | ⟨b', d', a', h, _⟩
    · exact ⟨h, rfl⟩
    · cases b' <;> cases h
/-- .. and the value is new -/
theorem after_callN {a : Addr} (c : Cfg K B G env σ H) (had : agDs env l = some ds) (nd : (ioSlots l).Nodup) (ha : H a = none) (hv : H' a ≠ none) (fr : Frame K B.ct G.S (more G.S a) (iaOf G l) H H' ns) : Mono G H (G.hide a) H' ∧ Cfg K B (G.hide a) (putAll env l ns) σ H' := by
  have un : ¬ G.S a := c.unS ha
  have mm : Mono G H (G.hide a) H' := ⟨fr.same, fun p hp n => ⟨.inl hp, n, fr.hold p hp fun j z => by
    obtain ⟨i, _, h⟩ := iaOf_some z
    exact n.1 i h⟩, fr.dom⟩
  have pick : ∀ {k : Nat} {s : Slot}, (putAll env l ns)[k]? = some s → (k ∉ ioSlots l ∧ env[k]? = some s) ∨ ∃ b d a', s = own b d ∧ G.r k = some a' ∧ σ[k]? = some (some (.ref a')) ∧ (b = true → B.io k = some a') ∧ OwnAt K B.ct H' (off (G.hide a).S H') a' d := by
    intro k s h
    by_cases hk : k ∈ ioSlots l
    · obtain ⟨j, hj⟩ := ioSlots_at hk
      obtain ⟨d0, e1, e2⟩ := agDs_get had hj
      obtain ⟨b, ho⟩ := agD_own e2
      obtain ⟨a, g1, g2, g3⟩ := c.own ho
      obtain ⟨d, n1, n2⟩ := fr.new j a (by unfold iaOf; rw [hj]; exact g1)
      rw [putAll_in nd hj n1 ho] at h
      refine .inr ⟨b, d, a, (Option.some.inj h).symm, g1, g2, fun hb => ?_, n2⟩
      subst hb
      obtain ⟨a', q1, q2, _⟩ := c.io k d0 ho
      rw [g1] at q1
      cases q1
      exact q2
    · rw [putAll_out l env ns hk] at h
      exact .inl ⟨hk, h⟩
  have far : ∀ {k : Nat} {a : Addr}, k ∉ ioSlots l → G.r k = some a → H' a = H a := fun {k a} hk h => fr.hold a (c.hid k a h) fun j z => by
    obtain ⟨i, h1, h2⟩ := iaOf_some z
    have := c.inj i k a h2 h
    subst this
    exact hk (ioSlots_mem h1)
  refine ⟨mm, by rw [putAll_len]; exact c.len, fun j d e => ?_, fun j d e => ?_, fun j d e => ?_, fun i x h => .inl (c.hid i x h), c.inj, fun x hx => hx.elim (fun z => fr.dom x (c.live x z)) fun z => by rw [z]; exact hv, fun j d a e g => ?_, fun a h => fr.dom a (c.dom0 a h), c.trs.keep rfl (fun i π a h => ⟨.inl (c.trs.hid i π a h), fr.hold a (c.trs.hid i π a h) fun j z => by
    obtain ⟨k, _, h2⟩ := iaOf_some z
    exact c.trs.far i π k a h h2, fun j => c.trs.far i π j a h⟩) fr.same fun i b d e => ?_⟩
  · rcases pick e with ⟨_, h⟩ | ⟨b, d', a, h, _⟩
    · obtain ⟨v, g1, g2⟩ := c.sh j d h
      exact ⟨v, g1, g2.mono fr.same⟩
    · cases b <;> cases h
  · rcases pick e with ⟨hk, h⟩ | ⟨b, d', a, h, g1, g2, _, g3⟩
    · obtain ⟨a, g1, g2, g3⟩ := c.ow j d h
      exact ⟨a, g1, g2, g3.mono (far hk g1) fr.same⟩
    · cases b with
      | true => cases h
      | false =>
        cases h
        exact ⟨a, g1, g2, g3⟩
  · rcases pick e with ⟨hk, h⟩ | ⟨b, d', a, h, g1, g2, g0, g3⟩
    · obtain ⟨a, g1, g0, g2, g3⟩ := c.io j d h
      exact ⟨a, g1, g0, g2, g3.mono (far hk g1) fr.same⟩
    · cases b with
      | false => cases h
      | true =>
        cases h
        exact ⟨a, g1, g0 rfl, g2, g3⟩
  · rcases pick e with ⟨hk, h⟩ | ⟨b, d', a', h, g1, g2, g0, g3⟩
    · exact c.frs j d a h g
    · cases b with
      | true => cases h
      | false =>
        cases h
        by_cases hk : j ∈ ioSlots l
        · obtain ⟨i, hi⟩ := ioSlots_at hk
          obtain ⟨d0, e1, e2⟩ := agDs_get had hi
          obtain ⟨b, ho⟩ := agD_own e2
          cases b with
          | false => exact c.frs j d0 a ho g
          | true =>
            obtain ⟨d2, n1, n2⟩ := fr.new i a (by unfold iaOf; rw [hi]; exact g)
            rw [putAll_in nd hi n1 ho] at e
            cases e
        · rw [putAll_out l env ns hk] at e
          exact c.frs j _ a e g
  · rcases pick e with ⟨_, h⟩ | ⟨b', d', a', h, _⟩
    · exact ⟨h, rfl⟩
    · cases b' <;> cases h
end
section
variable {X : Cx} {B : Bs} {Z : ZX} {CX : CXT} {k : Nat} {f : Addr} {fd : FuncData} {ps : List Str} {E : XK} {dsv : List Value} {dvs : List V} {dd : List D} {x : Str} {p pos : Pos} {e : Expr} {es : List Expr} {m : List Bool} {Φ : List D → Res} {fs : Ev (List Ag)}
theorem off_more {S : Addr → Prop} {a : Addr} {H : Hp} : Same (off (more S a) H) (off S H) := fun x u h => by
  obtain ⟨n, h⟩ := off_inv h
  rw [off_at fun z => n (.inl z)]
  exact h
theorem Frame.bare {K : PySem.W.Frag} {ct : Ct} {S : Addr → Prop} {a : Addr} {ia : Nat → Option Addr} {H H' : Hp} {ns : List D} (f : Frame K ct S (more S a) ia H H' ns) : Frame K ct S S ia H H' ns :=
  ⟨f.same.trans off_more, f.hold, fun j b h => by
    obtain ⟨d, h1, h2⟩ := f.new j b h
    exact ⟨d, h1, h2.mono rfl off_more⟩, f.dom⟩
theorem lift_callN (hZ : ∀ c as env G σ H dd C nm, B.ct c = some (C, nm) → Z c as env G σ H dd → E (.ref C) (some dd) H) (rd : ∀ F, Rps X.K B.ct F dvs dd) (σ : L2.St) (H : Hp) (Q : VK) (h : liftN X.K B Z (fCallN m Φ dd fs) σ H Q) : tCall (spV X.K B.ct m Φ) dvs E (liftAi X.K B Z fs) σ H Q := by
  obtain ⟨G, env, c, q⟩ := h
  refine ⟨G, env, c, post_imp (post_bind q) fun l e1 G1 H1 m1 c1 p1 vs rvs => ?_⟩
  cases had : agDs e1 l with
  | none =>
    rw [had] at p1
    exact p1.elim
  | some ds =>
    rw [had] at p1
    simp only [] at p1
    by_cases hc : l.map Ag.isIo ++ dd.map (fun _ => false) = m ∧ (ioSlots l).Nodup
    · rw [if_pos hc] at p1
      refine ⟨G1.S, iaOf G1 l, ds ++ dd, args_of c1 rvs had hc.1 hc.2 (rd _), ?_⟩
      cases hr : Φ (ds ++ dd) with
      | stuck =>
        rw [hr] at p1
        exact p1.elim
      | ret n r ns =>
        rw [hr] at p1
        cases n with
        | false => exact p1.elim
        | true =>
          intro a H' ha fr ho
          obtain ⟨mm, c'⟩ := after_callN c1 had hc.2 ha ho.some fr
          exact p1 (G1.hide a) H' mm c' a (undom m1 ha) (.inr rfl) (c1.newUn ha) ho
      | exc cc as ns =>
        rw [hr] at p1
        intro H' dd' C nm fr xa hC
        obtain ⟨mm, c'⟩ := after_call c1 had hc.2 fr
        exact hZ _ _ _ _ _ _ _ _ _ hC (p1 G1 H' dd' mm c' xa)
    · rw [if_neg hc] at p1
      exact p1.elim
theorem lift_callT (σ : L2.St) (hZ : ∀ c as env G H dd C nm, B.ct c = some (C, nm) → Z c as env G σ H dd → E (.ref C) (some dd) H) (rd : ∀ F, Rps X.K B.ct F dvs dd) (H : Hp) (Q : VK) (h : liftE X.K B Z (fCall m Φ dd fs) σ H Q) : tCall (spV X.K B.ct m Φ) dvs E (liftAi X.K B Z fs) σ H Q := by
  obtain ⟨G, env, c, q⟩ := h
  refine ⟨G, env, c, post_imp (post_bind q) fun l e1 G1 H1 m1 c1 p1 vs rvs => ?_⟩
  cases had : agDs e1 l with
  | none =>
    rw [had] at p1
    exact p1.elim
  | some ds =>
    rw [had] at p1
    simp only [] at p1
    by_cases hc : l.map Ag.isIo ++ dd.map (fun _ => false) = m ∧ (ioSlots l).Nodup
    · rw [if_pos hc] at p1
      refine ⟨G1.S, iaOf G1 l, ds ++ dd, args_of c1 rvs had hc.1 hc.2 (rd _), ?_⟩
      cases hr : Φ (ds ++ dd) with
      | stuck =>
        rw [hr] at p1
        exact p1.elim
      | ret n r ns =>
        rw [hr] at p1
        cases n with
        | false =>
          intro v H' fr rv
          obtain ⟨mm, c'⟩ := after_call c1 had hc.2 fr
          exact p1 G1 H' mm c' v rv
        | true =>
          intro a H' ha fr ho
          obtain ⟨mm, c'⟩ := after_call c1 had hc.2 fr.bare
          exact p1 G1 H' mm c' _ ((ho.mono rfl off_more).rp (off_at (c1.unS ha)))
      | exc cc as ns =>
        rw [hr] at p1
        intro H' dd' C nm fr xa hC
        obtain ⟨mm, c'⟩ := after_call c1 had hc.2 fr
        exact hZ _ _ _ _ _ _ _ _ hC (p1 G1 H' dd' mm c' xa)
    · rw [if_neg hc] at p1
      exact p1.elim
theorem lift_call (hZ : ∀ c as env G σ H dd C nm, B.ct c = some (C, nm) → Z c as env G σ H dd → E (.ref C) (some dd) H) (rd : ∀ F, Rps X.K B.ct F dvs dd) (σ : L2.St) (H : Hp) (Q : VK) (h : liftE X.K B Z (fCall m Φ dd fs) σ H Q) : tCall (spV X.K B.ct m Φ) dvs E (liftAi X.K B Z fs) σ H Q :=
  lift_callT σ (fun c as env G H dd C nm h1 h2 => hZ c as env G σ H dd C nm h1 h2) rd H Q h
theorem de_call (F : FnG X.prog X.w X.K X.mg X.base CX k f fd ps (spV X.K B.ct m Φ)) (hgd : X.A.guards = some []) (hr : Room k X.A) (hg : Gl X x) (hm : X.mg x = some (.ref f)) (hk : PySem.W.keepIn X.K (.ref f) = true) (hb : Binds X.K fd ps dsv) (hd : Vals dvs dsv) (rd : ∀ F, Rps X.K B.ct F dvs dd) (hx : Passes CX X E)
    (hZ : ∀ c as env G σ H dd C nm, B.ct c = some (C, nm) → Z c as env G σ H dd → E (.ref C) (some dd) H) (ha : DAi X B Z (e :: es) fs) (hdb : (x == ("__debug__" : Str)) = false := by decide) (he : starEach (e :: es) X.env = (false, eval e X.env) :: starEach es X.env := by rfl)
    (hpl : (backTo pos (starEach es X.env)).any (·.1) = false := by rfl) : DE X B Z (.Call (.Name x p) (e :: es) [] pos) (fCall m Φ dd fs) :=
  ⟨PE.weak (pe_callG F hgd hr hg hm hk hb hd hx ha.pa hdb he hpl) (lift_call hZ rd)⟩
theorem dn_call (F : FnG X.prog X.w X.K X.mg X.base CX k f fd ps (spV X.K B.ct m Φ)) (hgd : X.A.guards = some []) (hr : Room k X.A) (hg : Gl X x) (hm : X.mg x = some (.ref f)) (hk : PySem.W.keepIn X.K (.ref f) = true) (hb : Binds X.K fd ps dsv) (hd : Vals dvs dsv) (rd : ∀ F, Rps X.K B.ct F dvs dd) (hx : Passes CX X E)
    (hZ : ∀ c as env G σ H dd C nm, B.ct c = some (C, nm) → Z c as env G σ H dd → E (.ref C) (some dd) H) (ha : DAi X B Z (e :: es) fs) (hdb : (x == ("__debug__" : Str)) = false := by decide) (he : starEach (e :: es) X.env = (false, eval e X.env) :: starEach es X.env := by rfl)
    (hpl : (backTo pos (starEach es X.env)).any (·.1) = false := by rfl) : DN X B Z (.Call (.Name x p) (e :: es) [] pos) (fCallN m Φ dd fs) :=
  ⟨PE.weak (pe_callG F hgd hr hg hm hk hb hd hx ha.pa hdb he hpl) (lift_callN hZ rd)⟩
theorem zno_any {E : XK} {ct : Ct} : ∀ c as env G σ H dd C nm, ct c = some (C, nm) → ZNo c as env G σ H dd → E (.ref C) (some dd) H := fun _ _ _ _ _ _ _ _ _ _ h => h.elim
end
end Vl
set_option Elab.async false
set_option linter.all false
set_option maxRecDepth 100000
set_option maxHeartbeats 2000000
namespace Vl
open PySem PySem.Spec PyProof.Rows L2 Sb
section
variable {K : PySem.W.Frag} {ct : Ct}
theorem Rps.one1 {F : Hp} {vs : List V} {d : D} (h : Rps K ct F vs [d]) : ∃ v, vs = [v] ∧ Rp K ct F v d := by
  obtain ⟨v, ws, rfl, h1, h2⟩ := h.consE
  exact ⟨v, by rw [h2.nilE], h1⟩
theorem Rps.two2 {F : Hp} {vs : List V} {d e : D} (h : Rps K ct F vs [d, e]) : ∃ v w, vs = [v, w] ∧ Rp K ct F v d ∧ Rp K ct F w e := by
  obtain ⟨v, ws, rfl, h1, h2⟩ := h.consE
  obtain ⟨w, rfl, h3⟩ := h2.one1
  exact ⟨v, w, rfl, h1, h3⟩
def o1 (o : D → Option D) : List D → Option D := fun l => match l with | [d] => o d | _ => none
def o2 (o : D → D → Option D) : List D → Option D := fun l => match l with | [d, e] => o d e | _ => none
/-- one argument -/
theorem cv1 {r : List V → Hp → VK → Prop} {o : D → Option D} (h : ∀ (S : Addr → Prop) (H : Hp) (x : V) (d z : D) (Q : VK), (∀ a, S a → H a ≠ none) → Rp K ct (off S H) x d → o d = some z → (∀ v H', Same H H' → Rp K ct (off S H') v z → Q v H') → r [x] H Q) :
    CallV K ct r (o1 o) := by
  intro S H xs ds z Q live rs ho hq
  unfold o1 at ho
  split at ho
  · obtain ⟨v, rfl, rv⟩ := rs.one1
    exact h S H v _ z Q live rv ho hq
  · cases ho
theorem cv2 {r : List V → Hp → VK → Prop} {o : D → D → Option D} (h : ∀ (S : Addr → Prop) (H : Hp) (x y : V) (d e z : D) (Q : VK), (∀ a, S a → H a ≠ none) → Rp K ct (off S H) x d → Rp K ct (off S H) y e → o d e = some z → (∀ v H', Same H H' → Rp K ct (off S H') v z → Q v H') → r [x, y] H Q) :
    CallV K ct r (o2 o) := by
  intro S H xs ds z Q live rs ho hq
  unfold o2 at ho
  split at ho
  · obtain ⟨v, w, rfl, rv, rw'⟩ := rs.two2
    exact h S H v w _ _ z Q live rv rw' ho hq
  · cases ho
end
section
variable {X : Cx} {ct : Ct}
def oLen : D → Option D
  | .lst l => some (.int (l.length : Int))
  | .tup l => some (.int (l.length : Int))
  | .ctup l => some (.int (l.length : Int))
  | .scr ns => some (.int (ns.length : Int))
  | .str s => if s.length ≤ sizeLine then some (.int (s.length : Int)) else none
  | _ => none
theorem call_lenA : CallR X (.builtin "len") (fun xs H Q => (∃ p ys, xs = [.ref p] ∧ (SqL X.K H p ys ∨ SqT X.K H p ys) ∧ Q (.int ys.length) H) ∨ ∃ z, xs = [.str z] ∧ z.length ≤ sizeLine ∧ Q (.int z.length) H) := call_len_seq.or call_len_str
theorem cv_len : CallV X.K ct (fun xs H Q => (∃ p ys, xs = [.ref p] ∧ (SqL X.K H p ys ∨ SqT X.K H p ys) ∧ Q (.int ys.length) H) ∨ ∃ z, xs = [.str z] ∧ z.length ≤ sizeLine ∧ Q (.int z.length) H) (o1 oLen) := cv1 fun S H x d z Q live rx ho hq => by
  unfold oLen at ho
  split at ho
  · cases ho
    obtain ⟨a, vs, rfl, h1, t1⟩ := rx.lstE
    exact .inl ⟨a, vs, rfl, .inl (SqL.of (off_le _ _ h1)), by rw [t1.len]; exact hq _ H (Same.refl _) (.int _)⟩
  · cases ho
    obtain ⟨a, vs, rfl, h1, t1⟩ := rx.tupE
    exact .inl ⟨a, vs, rfl, .inr (sqT_le h1), by rw [t1.len]; exact hq _ H (Same.refl _) (.int _)⟩
  · cases ho
    obtain ⟨a, vs, rfl, h1, t1⟩ := rx.ctupE
    exact .inl ⟨a, vs, rfl, .inr (sqT_le h1), by rw [t1.len]; exact hq _ H (Same.refl _) (.int _)⟩
  · cases ho
    obtain ⟨a, rfl, h1⟩ := rx.scrE
    exact .inl ⟨a, _, rfl, .inl (off_le.seq h1), by rw [List.length_map]; exact hq _ H (Same.refl _) (.int _)⟩
  · split at ho
    · cases ho
      exact .inr ⟨_, by rw [rx.strE], by assumption, hq _ H (Same.refl _) (.int _)⟩
    · cases ho
  · cases ho
def oList : D → Option D
  | .lst l => some (.lst l)
  | .tup l => some (.lst l)
  | _ => none
def oTuple : D → Option D
  | .lst l => some (.tup l)
  | .tup l => some (.tup l)
  | _ => none
theorem cv_tuple : CallV X.K ct (fun xs H Q => ∃ p ys, xs = [.ref p] ∧ ((SqL X.K H p ys ∧ ∀ l, H l = none → Q (.ref l) (upd H l (.tup ys))) ∨ (SqT X.K H p ys ∧ Q (.ref p) H))) (o1 oTuple) := cv1 fun S H x d z Q live rx ho hq => by
  unfold oTuple at ho
  split at ho
  · cases ho
    obtain ⟨a, vs, rfl, h1, t1⟩ := rx.lstE
    exact ⟨a, vs, rfl, .inl ⟨SqL.of (off_le _ _ h1), fun l hl => hq _ _ (Sb.Same.upd hl) (new_tup live hl t1)⟩⟩
  · cases ho
    obtain ⟨a, vs, rfl, h1, t1⟩ := rx.tupP
    exact ⟨a, vs, rfl, .inr ⟨SqT.of (off_le _ _ h1), hq _ H (Same.refl _) (.tup h1 t1)⟩⟩
  · cases ho
def oAbs : D → Option D
  | .int i => some (.int (if i < 0 then -i else i))
  | _ => none
theorem cv_abs : CallV X.K ct (fun xs H Q => ∃ i, xs = [.int i] ∧ Q (.int (if i < 0 then -i else i)) H) (o1 oAbs) := cv1 fun S H x d z Q live rx ho hq => by
  unfold oAbs at ho
  split at ho
  · cases ho
    exact ⟨_, by rw [rx.intE], hq _ H (Same.refl _) (.int _)⟩
  · cases ho
def oMax : D → D → Option D
  | .int i, .int j => some (.int (if j > i then j else i))
  | _, _ => none
theorem cv_max : CallV X.K ct (fun xs H Q => ∃ i j, xs = [.int i, .int j] ∧ Q (.int (if j > i then j else i)) H) (o2 oMax) := cv2 fun S H x y d e z Q live rx ry ho hq => by
  unfold oMax at ho
  split at ho
  · cases ho
    exact ⟨_, _, by rw [rx.intE, ry.intE], hq _ H (Same.refl _) (.int _)⟩
  · cases ho
def oMin : D → D → Option D
  | .int i, .int j => some (.int (if j < i then j else i))
  | _, _ => none
theorem cv_min : CallV X.K ct (fun xs H Q => ∃ i j, xs = [.int i, .int j] ∧ Q (.int (if j < i then j else i)) H) (o2 oMin) := cv2 fun S H x y d e z Q live rx ry ho hq => by
  unfold oMin at ho
  split at ho
  · cases ho
    exact ⟨_, _, by rw [rx.intE, ry.intE], hq _ H (Same.refl _) (.int _)⟩
  · cases ho
def oInt : D → Option D
  | .int i => some (.int i)
  | .bl b => some (.int (if b then 1 else 0))
  | _ => none
theorem cv_int : CallV X.K ct (fun xs H Q => (∃ i, xs = [.int i] ∧ Q (.int i) H) ∨ ∃ k, xs = [.bl k] ∧ Q (.int (if k then 1 else 0)) H) (o1 oInt) := cv1 fun S H x d z Q live rx ho hq => by
  unfold oInt at ho
  split at ho
  · cases ho
    exact .inl ⟨_, by rw [rx.intE], hq _ H (Same.refl _) (.int _)⟩
  · cases ho
    exact .inr ⟨_, by rw [rx.blE], hq _ H (Same.refl _) (.int _)⟩
  · cases ho
def oStr : D → Option D
  | .int i => if i.natAbs.log2 < 1920 then some (.str (toString i)) else none
  | _ => none
def blsOf : List D → Option (List Bool)
  | [] => some []
  | .bl b :: l => (blsOf l).map (b :: ·)
  | _ => none
theorem bls_v {F : Hp} : ∀ {l : List D} {vs : List V} {bs : List Bool}, Rps X.K ct F vs l → blsOf l = some bs → vs = bs.map V.bl
  | [], _, _, h, e => by
    cases e
    exact h.nilE
  | d :: l, vs, bs, h, e => by
    obtain ⟨v, ws, rfl, h1, h2⟩ := h.consE
    cases d with
    | bl b =>
      simp only [blsOf] at e
      cases e2 : blsOf l with
      | none =>
        rw [e2] at e
        cases e
      | some cs =>
        rw [e2] at e
        cases e
        rw [h1.blE, bls_v h2 e2]
        rfl
    | _ => cases e
def oAny : D → Option D
  | .lst l => (blsOf l).map fun bs => .bl (bs.any id)
  | _ => none
theorem cv_any : CallV X.K ct (rAnyB X.K) (o1 oAny) := cv1 fun S H x d z Q live rx ho hq => by
  unfold oAny at ho
  split at ho
  · rename_i l
    cases e : blsOf l with
    | none =>
      rw [e] at ho
      cases ho
    | some bs =>
      rw [e] at ho
      cases ho
      obtain ⟨a, vs, rfl, h1, t1⟩ := rx.lstE
      rw [bls_v t1 e] at h1
      exact ⟨a, bs, rfl, SqL.of (off_le _ _ h1), hq _ H (Same.refl _) (.bl _)⟩
  · cases ho
def cutD (xs : List D) (lo hi : Option Int) : List D := (xs.drop (HT.sIx xs.length 0 lo)).take (HT.sIx xs.length xs.length hi - HT.sIx xs.length 0 lo)
theorem Rps.cut {F : Hp} {vs : List V} {l : List D} (h : Rps X.K ct F vs l) (lo hi : Option Int) : Rps X.K ct F (cutV vs lo hi) (cutD l lo hi) := by
  unfold cutV cutD
  rw [h.len]
  exact (h.drop _).take _
def oSlL : D → Option Int → Option Int → Option D
  | .lst l, lo, hi => some (.lst (cutD l lo hi))
  | _, _, _ => none
def oSlT : D → Option Int → Option Int → Option D
  | .tup l, lo, hi => some (.tup (cutD l lo hi))
  | _, _, _ => none
theorem cutD_all {l : List D} {lo hi : Option Int} (h : HT.sIx l.length 0 lo = 0 ∧ HT.sIx l.length l.length hi = l.length) : cutD l lo hi = l := by
  unfold cutD
  rw [h.1, h.2]
  simp
theorem sv_tup : SlV X.K ct (rSlA X.K) oSlT := by
  intro S H x d z lo hi Q live rx ho hq
  unfold oSlT at ho
  split at ho
  · cases ho
    obtain ⟨a, vs, rfl, h1, t1⟩ := rx.tupP
    refine ⟨a, vs, rfl, SqT.of (off_le _ _ h1), fun e => ?_, fun _ p hp => hq _ _ (Sb.Same.upd hp) (new_tup live hp (t1.cut _ _))⟩
    rw [t1.len] at e
    refine hq _ H (Same.refl _) ?_
    rw [cutD_all e]
    exact .tup h1 t1
  · cases ho
inductive Ty where
  | non | bool | int | str | tuple | list | dict
  deriving DecidableEq
def Ty.nm : Ty → String
  | .non => "NoneType"
  | .bool => "bool"
  | .int => "int"
  | .str => "str"
  | .tuple => "tuple"
  | .list => "list"
  | .dict => "dict"
def isi (t n : Ty) : Bool := decide (t = n) || (decide (t = .bool) && decide (n = .int))
theorem isi_ok : ∀ t n : Ty, n ≠ .non → kitB t.nm n.nm = some (isi t n) := by
  intro t n h
  cases n <;> first | exact absurd rfl h | (cases t <;> decide +kernel)
def D.ty : D → Option Ty
  | .non => some .non
  | .bl _ => some .bool
  | .int _ => some .int
  | .str _ => some .str
  | .tup _ => some .tuple
  | .ctup _ => some .tuple
  | .lst _ => some .list
  | .dk _ _ => some .dict
  | .dt _ _ => some .dict
  | .scr _ => some .list
  | .ob _ _ => none
  | .cl _ => none
  | .bx _ => none
  | .nk _ _ => none
  | .ex _ _ => none
theorem Rp.tyx {K : PySem.W.Frag} {S : Addr → Prop} {H : Hp} {v : V} {d : D} {t : Ty} (r : Rp K ct (off S H) v d) (e : d.ty = some t) : TyX K H v (.type t.nm) := by
  cases r with
  | non =>
    cases e
    exact .base .non
  | bl b =>
    cases e
    exact .base (.bl _)
  | int i =>
    cases e
    exact .base (.int _)
  | str s =>
    cases e
    exact .base (.str _)
  | tup h t =>
    cases e
    exact .base (.tup (off_le _ _ h))
  | ctup h t =>
    cases e
    have h := sqT_le h
    rcases h with (h | ⟨o, h⟩) | ⟨o, its, n, h1, h2, _⟩
    · exact .base (.tup h)
    · exact .fTuple h
    · exact .kTuple h1 h2
  | lst h t =>
    cases e
    exact .base (.lst (off_le _ _ h))
  | ob _ _ _ _ => cases e
  | dk _ h _ =>
    cases e
    exact .base (.dK (off_le _ _ h))
  | dt _ h _ =>
    cases e
    exact .base (.dT (off_le _ _ h))
  | scr h =>
    cases e
    rcases off_le.seq h with (h | ⟨o, h⟩) | ⟨o, its, n, h1, h2, _⟩
    · exact .base (.lst h)
    · exact .base (.frz h)
    · exact .kList h1 h2
  | cl _ => cases e
  | nk _ _ _ _ _ _ => cases e
  | ex _ _ _ _ _ => cases e
  | ex0 _ _ => cases e
variable {B : Bs} {Z : ZX} {e c1 : Expr} {f : Ev D} {pos px : Pos}
def fIsi (n : Ty) (f : Ev D) : Ev D := fun env => (f env).bind fun d e => match d.ty with
  | some t => .val (.bl (isi t n)) e
  | none => .stuck
theorem de_isi {n : Ty} {nm : String} (hnm : n.nm = nm) (hn : n ≠ .non) (hm : X.mg "isinstance" = none) (hg : Gl X "isinstance") (he : DE X B Z e f) (hc : PE X c1 (tC (.ty nm))) (hs : starEach [e, c1] X.env = (false, eval e X.env) :: starEach [c1] X.env := by rfl) (hs2 : starEach (c1 :: []) X.env = (false, eval c1 X.env) :: starEach [] X.env := by rfl)
    (hpl : (backTo pos (starEach [c1] X.env)).any (·.1) = false := by rfl) : DE X B Z (.Call (.Name "isinstance" px) [e, c1] [] pos) (fIsi n f) :=
  ⟨PE.weak (pe_callB call_isi hg hm (by decide +kernel) (pa_cons he.pe (pa_cons hc pa_nil hs2) hs) (by decide) (by decide) hs hpl) fun σ H Q ⟨G, env, c, q⟩ => ⟨G, env, c, post_imp (post_bind q) fun d e1 G1 H1 m1 c1 p1 v rv => by
    subst hnm
    cases ht : d.ty with
    | none =>
      rw [ht] at p1
      exact p1.elim
    | some t =>
      rw [ht] at p1
      exact ⟨v, .ty n.nm, _, _, _, rfl, .ty _, rv.tyx ht, kit_ty (isi_ok t n hn), p1 G1 H1 Mono.refl c1 _ (.bl _)⟩⟩⟩
/-- isinstance(x, (T1, T2)) -/
def fIsi2 (n1 n2 : Ty) (f : Ev D) : Ev D := fun env => (f env).bind fun d e => match d.ty with
  | some t => .val (.bl (isi t n1 || isi t n2)) e
  | none => .stuck
theorem kitAny2 {K : PySem.W.Frag} {t a b : Value} {x y : Bool} (h1 : PySem.W.kitOne K t a = some x) (h2 : PySem.W.kitOne K t b = some y) : PySem.W.kitAny K t [a, b] = some (x || y) := by
  cases x with
  | true => exact kitAny_cons h1 (fun z => by cases z) fun _ => rfl
  | false => exact kitAny_cons h1 (fun _ => by
      cases y with
      | true => exact kitAny_cons h2 (fun z => by cases z) fun _ => rfl
      | false => exact kitAny_cons h2 (fun _ => rfl) fun z => by cases z) fun z => by cases z
theorem de_isi2 {n1 n2 : Ty} {m1 m2 : String} {c2 : Expr} {tk : Nat} {tpos : Pos} (hn1 : n1.nm = m1) (hn2 : n2.nm = m2) (h1 : n1 ≠ .non) (h2 : n2 ≠ .non) (hm : X.mg "isinstance" = none) (hg : Gl X "isinstance") (he : DE X B Z e f) (hc1 : PE X c1 (tC (.ty m1))) (hc2 : PE X c2 (tC (.ty m2)))
    (hs : starEach [e, .Tuple [c1, c2] tk tpos] X.env = (false, eval e X.env) :: starEach [.Tuple [c1, c2] tk tpos] X.env := by rfl) (hs1 : starEach [.Tuple [c1, c2] tk tpos] X.env = (false, eval (.Tuple [c1, c2] tk tpos) X.env) :: starEach [] X.env := by rfl) (hs2 : starEach (c1 :: [c2]) X.env = (false, eval c1 X.env) :: starEach [c2] X.env := by rfl) (hs3 : starEach [c2] X.env = (false, eval c2 X.env) :: starEach [] X.env := by rfl)
    (hpl : (backTo pos (starEach [.Tuple [c1, c2] tk tpos] X.env)).any (·.1) = false := by rfl) : DE X B Z (.Call (.Name "isinstance" px) [e, .Tuple [c1, c2] tk tpos] [] pos) (fIsi2 n1 n2 f) :=
  ⟨PE.weak (pe_callB call_isiT hg hm (by decide +kernel) (pa_cons he.pe (pa_cons (pe_tup (pa_cons hc1 (pa_cons hc2 pa_nil hs3) hs2)) pa_nil hs1) hs) (by decide) (by decide) hs hpl) fun σ H Q ⟨G, env, c, q⟩ => ⟨G, env, c, post_imp (post_bind q) fun d e1 G1 H1 m1 c1 p1 v rv => by
    subst hn1 hn2
    refine ⟨by show 2 ≤ sizeLine; decide, fun p hp => ?_⟩
    cases ht : d.ty with
    | none =>
      rw [ht] at p1
      exact p1.elim
    | some t =>
      rw [ht] at p1
      refine ⟨v, p, _, _, _, _, rfl, upd_same, .cons (.ty _) (.cons (.ty _) .nil), (rv.mono (off_same (Sb.Same.upd hp))).tyx ht, kitAny2 (kit_ty (isi_ok t n1 h1)) (kit_ty (isi_ok t n2 h2)), ?_⟩
      exact p1 G1 _ (c1.mono (Sb.Same.upd hp)) (c1.same (Sb.Same.upd hp)) _ (.bl _)⟩⟩
end
end Vl
set_option Elab.async false
set_option linter.all false
set_option maxRecDepth 100000
set_option maxHeartbeats 2000000
namespace Vl
open PySem PySem.Spec PyProof.Rows L2 Sb
section
variable {X : Cx} {B : Bs} {Z : ZX} {a b c e : Expr} {es : List Expr} {pos : Pos} {f g : Ev D} {fs : Ev (List D)}
theorem dv (i : Nat) {x : Str} {pos : Pos} (hN : X.N[i]? = some x := by rfl) (hv : Vis X.env.scope x := by first | exact Or.inl rfl | exact Or.inr (Or.inl rfl) | exact Or.inr (Or.inr rfl)) (hd : (x == ("__debug__" : Str)) = false := by decide)
    (hcd : (x == ("__classdict__" : Str)) = false := by decide) : DE X B Z (.Name x pos) (fVar i) := de_var hN hv hd hcd
theorem dio (i : Nat) {x : Str} {gs : Ev (List Ag)} (hr : DAi X B Z es gs) (hN : X.N[i]? = some x := by rfl) (hv : Vis X.env.scope x := by first | exact Or.inl rfl | exact Or.inr (Or.inl rfl) | exact Or.inr (Or.inr rfl)) (hd : (x == ("__debug__" : Str)) = false := by decide)
    (hcd : (x == ("__classdict__" : Str)) = false := by decide) (hs : starEach (.Name x pos :: es) X.env = (false, eval (.Name x pos) X.env) :: starEach es X.env := by rfl) : DAi X B Z (.Name x pos :: es) (gIo i gs) := dai_io hN hv hr hd hcd hs
theorem dix (ha : DE X B Z a f) (hb : DE X B Z b g) (hs : PlainIx b := by exact fun _ _ => rfl) : DE X B Z (.Subscript a b pos) (fOp oIx f g) := de_ix opv_ix ha hb hs
theorem dixO (i : Nat) {x : Str} {apos : Pos} (hb : DE X B Z b g) (hN : X.N[i]? = some x := by rfl) (hv : Vis X.env.scope x := by first | exact Or.inl rfl | exact Or.inr (Or.inl rfl) | exact Or.inr (Or.inr rfl)) (hs : PlainIx b := by exact fun _ _ => rfl) (hd : (x == ("__debug__" : Str)) = false := by decide)
    (hcd : (x == ("__classdict__" : Str)) = false := by decide) : DE X B Z (.Subscript (.Name x apos) b pos) (fIxO i g) := de_ixO hN hv hb hs hd hcd
theorem dapp (i : Nat) {x : Str} {xpos apos cpos : Pos} (he : DE X B Z e f) (hN : X.N[i]? = some x := by rfl) (hv : Vis X.env.scope x := by first | exact Or.inl rfl | exact Or.inr (Or.inl rfl) | exact Or.inr (Or.inr rfl))
    (hd : (x == ("__debug__" : Str)) = false := by decide) (hcd : (x == ("__classdict__" : Str)) = false := by decide)
    (hbase : attributeBase (.Name x xpos) "append" X.env (eval (.Name x xpos) X.env) = eval (.Name x xpos) X.env := by rfl)
    (hfew : ((backTo cpos (starEach [e] X.env)).all (fun x => !x.1) && (backToKw cpos (keywordEach [] X.env)).all (fun x => x.1.isSome)
      && decide ([e].length + ([] : List Keyword).length + (if ([] : List Keyword).isEmpty then 0 else 1) < 30)) = true := by rfl)
    (hline : (apos.endLine == cpos.line) = true := by rfl) (hst : starEach [e] X.env = (false, eval e X.env) :: starEach [] X.env := by rfl) (hplain : (backTo cpos (starEach [] X.env)).any (·.1) = false := by rfl)
    (hs : swapsWith (.Call (.Attribute (.Name x xpos) "append" apos) [e] [] cpos) none pos.line X.env = pure false := by rfl) :
    DS X B Z (.Expr (.Call (.Attribute (.Name x xpos) "append" apos) [e] [] cpos) pos) (fApp i f) := ds_append hN hv he hd hcd hbase hfew hline hst hplain hs
theorem dgn (i : Nat) {x : Str} (hN : X.N.Nodup) (hi : X.N[i]? = some x := by rfl) (hx : Loc X.env.scope x := by first | exact Or.inl rfl | exact Or.inr rfl) (hf : X.fn x = true ∨ X.env.scope.names.lookup x = some .local := by first | exact .inl rfl | exact .inr rfl | assumption) : DG X B (.Name x pos) (.nm i) := dg_name hN hi hx hf
theorem dset (i : Nat) {x : Str} {pos' : Pos} (hN : X.N.Nodup) (he : DE X B Z e f) (hi : X.N[i]? = some x := by rfl) (hx : Loc X.env.scope x := by first | exact Or.inl rfl | exact Or.inr rfl) (hs : swapsWith e (some (.Name x pos')) pos.line X.env = pure false := by rfl)
    (hf : X.fn x = true ∨ X.env.scope.names.lookup x = some .local := by first | exact .inl rfl | exact .inr rfl | assumption) : DS X B Z (.Assign [.Name x pos'] e pos) (fAsg (.nm i) f) := ds_set hN hi hx he hs hf
def fLenO (i : Nat) : Ev D := fun env => match slotL env i with
  | some (_, l) => .val (.int (l.length : Int)) env
  | none => .stuck
theorem dlenO (i : Nat) {x : Str} {xpos px : Pos} (hm : X.mg "len" = none) (hg : Gl X "len" := by rfl) (hN : X.N[i]? = some x := by rfl) (hv : Vis X.env.scope x := by first | exact Or.inl rfl | exact Or.inr (Or.inl rfl) | exact Or.inr (Or.inr rfl)) (hd : (x == ("__debug__" : Str)) = false := by decide)
    (hcd : (x == ("__classdict__" : Str)) = false := by decide) (hs : starEach [.Name x xpos] X.env = (false, eval (.Name x xpos) X.env) :: starEach [] X.env := by rfl) (hpl : (backTo pos (starEach [] X.env)).any (·.1) = false := by rfl) : DE X B Z (.Call (.Name "len" px) [.Name x xpos] [] pos) (fLenO i) :=
  ⟨PE.weak (pe_callB call_len_seq hg hm (by decide +kernel) (pa_cons (pe_var hN hv hd hcd) pa_nil hs) (by decide) (by decide) hs hpl) fun σ H Q ⟨G, env, c, q⟩ => by
    unfold fLenO at q
    cases h0 : slotL env i with
    | none =>
      rw [h0] at q
      exact q.elim
    | some p0 =>
      obtain ⟨b0, l0⟩ := p0
      rw [h0] at q
      obtain ⟨a, r1, r2, vs0, r3, r4⟩ := c.own (slotL_own h0)
      exact ⟨_, r2, a, vs0, rfl, .inl (SqL.of r3), by rw [r4.len]; exact q G H Mono.refl c _ (.int _)⟩⟩
def fInO (neg : Bool) (f : Ev D) (i : Nat) : Ev D := fun env => (f env).bind fun d e => match slotL e i with
  | some (_, l) => Out.opt (oIn neg d (.lst l)) e
  | none => .stuck
theorem OwnAt.rpL {K : PySem.W.Frag} {ct : Ct} {H : Hp} {S : Addr → Prop} {a : Addr} {l : List D} (h : OwnAt K ct H (off S H) a (.lst l)) : Rp K ct H (.ref a) (.lst l) := by
  obtain ⟨vs, h1, h2⟩ := h
  exact .lst h1 (h2.mono off_le)
theorem oIn_bl {neg : Bool} {d e z : D} (h : oIn neg d e = some z) : ∃ b, z = .bl b := by
  unfold oIn at h
  split at h
  · split at h
    · cases h
      exact ⟨_, rfl⟩
    · cases h
  · cases h
theorem off_none {H : Hp} : off (fun _ => False) H = H := by
  funext a
  exact off_at id
theorem lift_inO {neg : Bool} {i : Nat} {r : R2} (ov : OpV X.K B.ct r (oIn neg)) (σ : L2.St) (H : Hp) (Q : VK) (h : liftE X.K B Z (fInO neg f i) σ H Q) : tOp r (liftE X.K B Z f) (tVar i) σ H Q := by
  obtain ⟨G, env, c, q⟩ := h
  refine ⟨G, env, c, post_imp (post_bind q) fun d e1 G1 H1 m1 c1 p1 v rv => ?_⟩
  cases h0 : slotL e1 i with
  | none =>
    rw [h0] at p1
    exact p1.elim
  | some p0 =>
    obtain ⟨b0, l⟩ := p0
    rw [h0] at p1
    simp only [] at p1
    obtain ⟨x', r1, r2, r3⟩ := c1.own (slotL_own h0)
    refine ⟨_, r2, ?_⟩
    cases ho : oIn neg d (.lst l) with
    | none =>
      rw [ho] at p1
      exact p1.elim
    | some z =>
      rw [ho] at p1
      obtain ⟨b, rfl⟩ := oIn_bl ho
      refine ov (fun _ => False) H1 v _ d _ _ Q (fun _ h => h.elim) (by rw [off_none]; exact rv.mono off_le) (by rw [off_none]; exact r3.rpL) ho fun u H' s' ru => ?_
      exact p1 G1 H' (c1.mono s') (c1.same s') u (by rw [ru.blE]; exact .bl _)
theorem dtnotInO (i : Nat) {x : Str} {xpos : Pos} (hu : X.A.units + 65 < cLine) (ha : DE X B Z a f) (hN : X.N[i]? = some x := by rfl) (hv : Vis X.env.scope x := by first | exact Or.inl rfl | exact Or.inr (Or.inl rfl) | exact Or.inr (Or.inr rfl)) (hd : (x == ("__debug__" : Str)) = false := by decide)
    (hcd : (x == ("__classdict__" : Str)) = false := by decide) (hmk : behindInMarks .NotIn (.Name x xpos) = false := by rfl) : DT X B Z (.Compare a [.NotIn] [.Name x xpos] pos) (fB (fInO true f i)) :=
  ⟨PT.weak (pt_cmpR (op_notInD hu) ha.pe (pe_var hN hv hd hcd) hmk) fun σ H Q ⟨G, env, c, q⟩ => lift_inO opv_notInD σ H _ ⟨G, env, c, post_imp (post_bind q) fun d e1 G1 H1 m1 c1 p1 v rv => by
    cases d with
    | bl k => exact ⟨k, rv.blE, p1 G1 H1 Mono.refl c1⟩
    | _ => exact p1.elim⟩⟩
def oNeg : D → Option D
  | .int i => some (.int (-i))
  | _ => none
def fNeg (f : Ev D) : Ev D := fun env => (f env).bind fun d e => Out.opt (oNeg d) e
theorem dputL (i : Nat) {x : Str} {k : Expr} {fk : Ev D} {xpos spos : Pos} (he : DE X B Z e f) (hk : DE X B Z k fk) (hN : X.N[i]? = some x := by rfl) (hv : Vis X.env.scope x := by first | exact Or.inl rfl | exact Or.inr (Or.inl rfl) | exact Or.inr (Or.inr rfl)) (hd : (x == ("__debug__" : Str)) = false := by decide)
    (hcd : (x == ("__classdict__" : Str)) = false := by decide)
    (ha : ∀ v, assign (.Subscript (.Name x xpos) k spos) X.env v = (do
      let ov ← holding [v] (eval (.Name x xpos) X.env)
      let iv ← holding [v, ov] (eval k X.env)
      standAt spos
      holding [v, ov, iv] (setItem ov iv v)
      release [v, ov, iv] []) := by intro _; rfl)
    (hs : swapsWithSole [.Subscript (.Name x xpos) k spos] e pos.line X.env = pure false := by rfl) (hw : swappedStores [.Subscript (.Name x xpos) k spos] e X.env = pure none := by rfl) (h1 : (assignEach [.Subscript (.Name x xpos) k spos] X.env).map (·.2) = [assign (.Subscript (.Name x xpos) k spos) X.env] := by rfl) :
    DS X B Z (.Assign [.Subscript (.Name x xpos) k spos] e pos) (fPutL i fk f) :=
  ⟨PS.weak (ps_asg he.pe (pg_sub (pe_var hN hv hd hcd) hk.pe set_list ha) hs hw h1) fun E σ H h => by
    obtain ⟨G, env, c, q⟩ := h
    refine ⟨G, env, c, post_imp (exprS q) fun d e1 G1 H1 m1 c1 p1 v rv => ?_⟩
    cases h0 : slotL e1 i with
    | none =>
      rw [h0] at p1
      exact p1.elim
    | some p0 =>
      obtain ⟨b0, l0⟩ := p0
      rw [h0] at p1
      obtain ⟨a, r1, r2, vs0, r3, r4⟩ := c1.own (slotL_own h0)
      refine ⟨_, r2, G1, e1, c1, post_imp (exprS p1) fun z e2 G2 H2 m2 c2 p2 w rw' => ?_⟩
      cases z with
      | int j =>
        cases h2 : slotL e2 i with
        | none =>
          rw [h2] at p2
          exact p2.elim
        | some p3 =>
          obtain ⟨b, l⟩ := p3
          rw [h2] at p2
          simp only [] at p2
          obtain ⟨a', g1, g2, vs, g3, g4⟩ := c2.own (slotL_own h2)
          rw [r2] at g2
          cases g2
          cases hn : ixN l.length j with
          | none =>
            rw [hn] at p2
            exact p2.elim
          | some n =>
            rw [hn] at p2
            refine ⟨a, vs, j, n, rfl, rw'.intE, g3, by rw [g4.len]; exact hn, ?_⟩
            exact p2 G2 _ _ (Mono.chg g1 (c2.hid i a g1)) (c2.chg g1 (slotL_own h2) ⟨vs.set n v, upd_same, Rps.set (rv.mono m2.same) n g4⟩)
      | _ => 
        have p2' := p2
        simp only [] at p2'
        exact p2'.elim⟩
def fAugI (i : Nat) (o : Int → Int → Int) (f : Ev D) : Ev Fl := fun env => match env[i]? with
  | some (.sh (.int a)) => (f env).bind fun d e => match d with
    | .int b => .val .nx (e.set i (.sh (.int (o a b))))
    | _ => .stuck
  | _ => .stuck
structure Vx (P : Program) (w : World) (K : PySem.W.Frag) (mg : Str → Option Value) (base : Heap) (k : Nat) (x : Str) (f : Addr) (fd : FuncData) (ps : List Str) (ct : Ct) (m : List Bool) (Φ : List D → Res) : Prop where
  ok : FnG P w K mg base CX0 k f fd ps (spV K ct m Φ)
  mg : mg x = some (.ref f)
  kp : PySem.W.keepIn K (.ref f) = true
  bd : Binds K fd ps []
theorem okVg {P : Program} {w : World} {K : PySem.W.Frag} {mg : Str → Option Value} {base : Heap} {k : Nat} {f : Addr} {ct : Ct} {x qual : Str} {st : Stmt} {fd : FuncData} {N ps : List Str} {m : List Bool} {Fs : Ev Fl} (F : Fun K x qual st f fd) (Zs : FnScope N ps (defScope st)) (hm : m.length = ps.length)
    (hb : ∀ (io : Nat → Option Addr) (cdv : Value) (A : Around) (out : List Env) (s : Shared) (H : Hp) (E : XK), (A.deeper (envOfC qual (defScope st) s.heap.objs.size f cdv)).guards = some [] → Room k (A.deeper (envOfC qual (defScope st) s.heap.objs.size f cdv)) →
      (A.deeper (envOfC qual (defScope st) s.heap.objs.size f cdv)).units + 66 < cLine → DSs (cxOf CX0 P w K mg base N qual (defScope st) f cdv A out s H E).nox ⟨ct, io, H, noT⟩ ZNo (defBody st) Fs) : FnG P w K mg base CX0 (k + 1) f fd ps (spV K ct m fun ds => (runV m N.length Fs ds).quiet) :=
  okV F Zs hm fun io cdv A out s H E hg hr => hb io cdv A out s H E (guards_in hg) hr (by have := hr.un; omega)
def E0v : XK := fun _ _ _ => False
end
end Vl
set_option Elab.async false
set_option linter.all false
set_option maxRecDepth 100000
set_option maxHeartbeats 4000000
namespace Vl
open PySem PySem.Spec PyProof.Rows L2 Sb
end Vl
set_option Elab.async false
set_option linter.all false
set_option maxRecDepth 100000
set_option maxHeartbeats 2000000
namespace Vl
open PySem PySem.Spec PyProof.Rows L2 Sb
section
variable {α : Type}
def ins (le : α → α → Bool) (x : α) : List α → List α
  | [] => [x]
  | y :: l => if le x y then x :: y :: l else y :: ins le x l
end
def strsOf : List D → Option (List Str)
  | [] => some []
  | .str b :: l => (strsOf l).map (b :: ·)
  | _ => none
section
variable {X : Cx} {ct : Ct}
theorem strs_v {F : Hp} : ∀ {l : List D} {vs : List V} {bs : List Str}, Rps X.K ct F vs l → strsOf l = some bs → vs = bs.map V.str
  | [], _, _, h, e => by
    cases e
    exact h.nilE
  | d :: l, vs, bs, h, e => by
    obtain ⟨v, ws, rfl, h1, h2⟩ := h.consE
    cases d with
    | str b =>
      simp only [strsOf] at e
      cases e2 : strsOf l with
      | none =>
        rw [e2] at e
        cases e
      | some cs =>
        rw [e2] at e
        cases e
        rw [h1.strE, strs_v h2 e2]
        rfl
    | _ => cases e
end
section
variable {X : Cx} {B : Bs} {Z : ZX} {a b c e : Expr} {es : List Expr} {pos : Pos} {f g : Ev D} {fs gs : Ev (List D)}
def rgOk (a b : Int) : Bool := sm62 a && sm62 b && Nat.ble (b - a).toNat 16777216
theorem rgOk_ok {a b : Int} (h : rgOk a b = true) : RgOk a b := by
  simp only [rgOk, Bool.and_eq_true] at h
  exact ⟨(sm62_ok h.1.1).1, (sm62_ok h.1.1).2, (sm62_ok h.1.2).1, (sm62_ok h.1.2).2, Nat.le_of_ble_eq_true h.2⟩
def fListRg1 (f : Ev D) : Ev D := fun env => (f env).bind fun d e => match d with
  | .int j => if rgOk 0 j then .val (.lst (rangeD 0 j.toNat)) e else .stuck
  | _ => .stuck
theorem Rps.rg {F : Hp} {K : PySem.W.Frag} {ct : Ct} (a b : Int) : Rps K ct F (rgV a b) (rangeD a (b - a).toNat) := by
  unfold rgV rangeD
  generalize List.range (b - a).toNat = l
  induction l with
  | nil => exact .nil
  | cons x l ih => exact .cons (.int _) ih
theorem de_listRg1 {p q pos2 : Pos} (hc : X.calm = true) (hg : Gl X "list") (hm : X.mg "list" = none) (hg2 : Gl X "range") (hm2 : X.mg "range" = none) (ha : DE X B Z a f) (na2 : starEach [a] X.env = (false, eval a X.env) :: starEach [] X.env := by rfl)
    (na : starEach [.Call (.Name "range" q) [a] [] pos2] X.env = (false, eval (.Call (.Name "range" q) [a] [] pos2) X.env) :: starEach [] X.env := by rfl) : DE X B Z (.Call (.Name "list" p) [.Call (.Name "range" q) [a] [] pos2] [] pos) (fListRg1 f) :=
  ⟨PE.weak (pe_listRg hc hg hm (prg_1 hg2 hm2 ha.pe na2) na) fun σ H Q ⟨G, env, c, q⟩ => ⟨G, env, c, post_imp (post_bind q) fun d e1 G1 H1 m1 c1 p1 v rv => by
    cases d with
    | int j =>
      simp only [] at p1
      by_cases hj : rgOk 0 j = true
      · rw [if_pos hj] at p1
        refine ⟨j, rv.intE, rgOk_ok hj, fun p hp => p1 G1 _ (c1.mono (Sb.Same.upd hp)) (c1.same (Sb.Same.upd hp)) _ (new_lst c1.live hp ?_)⟩
        have := Rps.rg (K := X.K) (ct := B.ct) (F := off G1.S H1) 0 j
        rw [Int.sub_zero] at this
        exact this
      · rw [if_neg hj] at p1
        exact p1.elim
    | _ => exact p1.elim⟩⟩
end
end Vl
set_option Elab.async false
set_option linter.all false
set_option maxRecDepth 100000
set_option maxHeartbeats 2000000
namespace Vl
open PySem PySem.Spec PyProof.Rows L2 Sb
section
variable {K : PySem.W.Frag} {B : Bs} {Z : ZX} {G G1 : Gh} {env : List Slot} {σ : L2.St} {H0 H1 : Hp} {Q : VK} {l : List D} {vs : List V} {q : Addr}
/-- a new list is handed on as owned -/
theorem put_new (c1 : Cfg K B G1 env σ H1) (hq : H1 q = none) (h0 : H0 q = none) (rvs : Rps K B.ct (off G1.S H1) vs l) (p : postG K B Z G1 σ H1 (.val (.lst l) env) (fun d _ G' H' => ∀ p, H0 p = none → G'.S p → G'.un p → OwnAt K B.ct H' (off G'.S H') p d → Q (.ref p) H')) :
    Q (.ref q) (upd H1 q (.lst vs)) :=
  p (G1.hide q) _ (Mono.hide hq c1.live) (c1.hide hq) q h0 (.inr rfl) (c1.newUn hq) ⟨vs, upd_same, rvs.mono (Mono.hide hq c1.live).same⟩
end
section
variable {X : Cx} {B : Bs} {Z : ZX} {a b c e elt tg : Expr} {es : List Expr} {pos : Pos} {f g fe : Ev D} {fs gs : Ev (List D)} {ft : Ev Bool} {p : Pat}
def fSlO (i : Nat) (lo hi : Ev (Option Int)) : Ev D := fun env => match slotL env i with
  | some _ => (lo env).bind fun l e2 => (hi e2).bind fun u e3 => match slotL e3 i with
    | some (_, m) => .val (.lst (cutD m l u)) e3
    | none => .stuck
  | none => .stuck
end
end Vl
set_option Elab.async false
set_option linter.all false
set_option maxRecDepth 100000
set_option maxHeartbeats 2000000
namespace Vl
open PySem PySem.Spec PyProof.Rows L2 Sb
section
variable {X : Cx} {B : Bs} {Z : ZX} {CX : CXT} {k n : Nat} {fa : Addr} {fd : FuncData} {ps ks : List Str} {E : XK} {x : Str} {p pos kpos : Pos} {e : Expr} {es : List Expr} {kws : List Keyword} {nm : Option Str} {f : Ev D} {fs gs : Ev (List D)} {m : List Bool} {Φ : List D → Res} {g : List Value → List Value → List Value} {gV : List V → List V → List V} {gD : List D → List D → List D}
theorem argsK {G : Gh} {env : List Slot} {σ : L2.St} {H : Hp} {vs : List V} {ds : List D} (c : Cfg X.K B G env σ H) (hm : ds.map (fun _ => false) = m) (rd : Rps X.K B.ct (off G.S H) vs ds) : ArgsOk X.K B.ct G.S (iaOf G []) m vs ds H := by
  have := args_of (l := []) (ds := []) (dd := ds) (vs := []) (dvs := vs) (m := m) c .nil rfl (by simpa using hm) (by simp [ioSlots]) rd
  simpa using this
end
end Vl
set_option Elab.async false
set_option linter.all false
set_option maxRecDepth 100000
set_option maxHeartbeats 2000000
namespace Vl
open PySem PySem.Spec PyProof.Rows L2 Sb
/-- the list at slot i is walked where it stands -/
def compO (i : Nat) (p : Pat) (ft : Ev Bool) (fe : Ev D) (vs : List Nat) : Nat → Nat → List D → Ev (List D)
  | 0, k, acc, env => match slotL (wipeE env vs) i with
    | some (_, l) => if l.length ≤ k then .val acc env else .stuck
    | none => .stuck
  | n + 1, k, acc, env => match slotL (wipeE env vs) i with
    | some (_, l) => (match l[k]? with
      | none => .val acc env
      | some d => match p.put d (wipeE env vs) with
        | none => .stuck
        | some e1 => (ft e1).bind fun b e2 => if b = true then (fe e2).bind fun y e3 => if acc.length < sizeLine then compO i p ft fe vs n (k + 1) (acc ++ [y]) e3 else .stuck
          else compO i p ft fe vs n (k + 1) acc e2)
    | none => .stuck
def fCompO (i : Nat) (p : Pat) (ft : Ev Bool) (fe : Ev D) (vs : List Nat) : Ev D := fun env => match slotL env i with
  | some (_, l) => if calmE env vs then (match compO i p ft fe vs l.length 0 [] env with
    | .val acc e2 => .val (.lst acc) (backE env e2 vs)
    | _ => .stuck) else .stuck
  | none => .stuck
section
variable {X : Cx} {B : Bs} {Z Zb : ZX} {elt tg : Expr} {pos : Pos} {fe : Ev D} {ft : Ev Bool} {p : Pat} {i0 : Nat} {x : Str}
def iOwn (K : PySem.W.Frag) (i : Nat) : TI := fun σ H R => ∃ a, σ[i]? = some (some (.ref a)) ∧ (∃ vs, SqL K H a vs) ∧ R (Itl K a) H
theorem pi_own (xpos : Pos) (hN : X.N[i0]? = some x) (hv : Vis X.env.scope x) (hd : (x == ("__debug__" : Str)) = false := by decide) (hcd : (x == ("__classdict__" : Str)) = false := by decide) : PI X tg (.Name x xpos) (iOwn X.K i0) :=
  PI.weak (pi_list (pe_var hN hv hd hcd)) fun σ H R ⟨a, h1, h2, h3⟩ => ⟨_, h1, a, rfl, h2, h3⟩
end
end Vl
set_option Elab.async false
set_option linter.all false
set_option maxRecDepth 100000
set_option maxHeartbeats 2000000
namespace Vl
open PySem L2 Sb
section
variable {α : Type} (l : List α) (a b c d e x y z u v w : α)
theorem atI_0 : atI l 0 = l[0]? := by
  cases l with
  | nil => rfl
  | cons a l => exact atI_nat (j := 0) rfl
theorem atI_ge (k : Nat) (i : Int) (h : i = (k : Int)) : atI l i = l[k]? := by
  subst h
  by_cases e : k < l.length
  · exact (atI_nat (by rw [List.getElem?_eq_getElem e])).trans (by rw [List.getElem?_eq_getElem e])
  · rw [List.getElem?_eq_none (by omega)]
    unfold atI ixN
    rw [if_pos (by omega), if_neg (by omega)]
    rfl
theorem atI_1 : atI l 1 = l[1]? := atI_ge l 1 1 rfl
theorem atI_2 : atI l 2 = l[2]? := atI_ge l 2 2 rfl
theorem atI_3 : atI l 3 = l[3]? := atI_ge l 3 3 rfl
theorem ixN_ge (n k : Nat) (i : Int) (h : i = (k : Int)) (hk : k < n) : ixN n i = some k := by
  subst h
  unfold ixN
  rw [if_pos (by omega), if_pos (by omega)]
  simp
theorem ixN_0 (n : Nat) : ixN (n + 1) 0 = some 0 := ixN_ge _ 0 0 rfl (by omega)
theorem ixN_1 (n : Nat) : ixN (n + 2) 1 = some 1 := ixN_ge _ 1 1 rfl (by omega)
theorem ixN_2 (n : Nat) : ixN (n + 3) 2 = some 2 := ixN_ge _ 2 2 rfl (by omega)
end
end Vl
set_option Elab.async false
set_option linter.all false
set_option maxRecDepth 100000
set_option maxHeartbeats 2000000
namespace Vl
open PySem PySem.Spec PyProof.Rows L2 Sb
end Vl
set_option Elab.async false
set_option linter.all false
set_option maxRecDepth 100000
set_option maxHeartbeats 2000000
namespace Vl
open PySem L2 Sb
theorem cMulR {i j : Int} (h : -(2 ^ 60) < j ∧ j < 2 ^ 60) : cMul i j = true := by
  unfold cMul
  have e : (2 : Nat) ^ 60 = 1152921504606846976 := by decide
  have e2 : (2 : Int) ^ 60 = 1152921504606846976 := by decide
  rw [e2] at h
  rw [Bool.or_eq_true, decide_eq_true_eq, decide_eq_true_eq, e]
  exact .inr (by omega)
theorem cMulL {i j : Int} (h : -(2 ^ 60) < i ∧ i < 2 ^ 60) : cMul i j = true := by
  unfold cMul
  have e : (2 : Nat) ^ 60 = 1152921504606846976 := by decide
  have e2 : (2 : Int) ^ 60 = 1152921504606846976 := by decide
  rw [e2] at h
  rw [Bool.or_eq_true, decide_eq_true_eq, decide_eq_true_eq, e]
  exact .inl (by omega)
theorem powOk {i j : Int} (k : Nat) (h : -(2 ^ k) < i ∧ i < 2 ^ k) (h0 : 0 ≤ j) (hj : (k : Int) * j ≤ 2 ^ 27) : (decide (0 ≤ j) && decide ((Builtin.Int.intBits i : Int) * j ≤ 2 ^ 27)) = true := by
  have hn : i.natAbs < 2 ^ k := by
    have e : ((2 ^ k : Nat) : Int) = 2 ^ k := by norm_cast
    have : ((i.natAbs : Nat) : Int) < ((2 ^ k : Nat) : Int) := by
      rw [e]
      omega
    exact_mod_cast this
  have := pow_fits (i := i) (j := j) hn h0 hj
  rw [Bool.and_eq_true, decide_eq_true_eq, decide_eq_true_eq]
  exact this
theorem divOk {j : Int} (h0 : 0 < j) (h1 : j < 1073741824) : (decide (0 < j) && decide (j < 1073741824)) = true := by
  rw [Bool.and_eq_true, decide_eq_true_eq, decide_eq_true_eq]
  exact ⟨h0, h1⟩
/-- a source of numbers: what is left of the digits, the mixed number, how often -/
def BagL (k : Int) (d : D) : Prop := ∃ g m c : Int, d = .lst [.int g, .int m, .int c] ∧ 0 ≤ g ∧ 0 ≤ m ∧ m < 2147483648 ∧ 0 ≤ c ∧ c ≤ k
theorem BagL.more {k k' : Int} {d : D} (h : BagL k d) (hk : k ≤ k') : BagL k' d := by
  obtain ⟨g, m, c, e, h1, h2, h3, h4, h5⟩ := h
  exact ⟨g, m, c, e, h1, h2, h3, h4, by omega⟩
/-- a loop that keeps something -/
theorem loop_ok {p : Pat} {s : Ev Fl} {ds : List D} (I : Nat → List Slot → Prop) (h : ∀ i d env, ds[i]? = some d → I i env → ∃ e1 e2, p.put d env = some e1 ∧ (s e1 = .val .nx e2 ∨ s e1 = .val .ct e2) ∧ I (i + 1) e2) {env : List Slot} (h0 : I 0 env) : ∃ env', loopF p s ds env = .val .nx env' ∧ I ds.length env' := by
  have key : ∀ (rest : List D) (k : Nat) (env : List Slot), ds.drop k = rest → I k env → ∃ env', loopF p s rest env = .val .nx env' ∧ I (k + rest.length) env' := by
    intro rest
    induction rest with
    | nil => exact fun k env _ hi => ⟨env, rfl, hi⟩
    | cons d rest ih =>
      intro k env e hi
      have hd : ds[k]? = some d := by
        have := congrArg (fun l => l[0]?) e
        simpa using this
      obtain ⟨e1, e2, hp, hs, hi2⟩ := h k d env hd hi
      have e' : ds.drop (k + 1) = rest := by
        have := congrArg List.tail e
        simpa using this
      obtain ⟨env', r1, r2⟩ := ih (k + 1) e2 e' hi2
      refine ⟨env', ?_, by rw [List.length_cons, show k + (rest.length + 1) = k + 1 + rest.length by omega]; exact r2⟩
      unfold loopF
      rw [hp]
      rcases hs with hs | hs <;> (simp only [hs]; exact r1)
  obtain ⟨env', r1, r2⟩ := key ds 0 env (by simp) h0
  exact ⟨env', r1, by simpa using r2⟩
theorem rangeD_get {lo : Int} {n i : Nat} {d : D} (h : (rangeD lo n)[i]? = some d) : i < n ∧ d = .int (lo + (i : Int)) := by
  unfold rangeD at h
  rw [List.getElem?_map] at h
  cases e : (List.range n)[i]? with
  | none =>
    rw [e] at h
    cases h
  | some j =>
    rw [e] at h
    have hl : i < n := by simpa using (List.getElem?_eq_some_iff.mp e).1
    have hj : j = i := by
      rw [List.getElem?_range hl] at e
      exact (Option.some.inj e).symm
    subst hj
    cases h
    exact ⟨hl, rfl⟩
theorem rangeD_len {lo : Int} {n : Nat} : (rangeD lo n).length = n := by simp [rangeD]
theorem seq7 {f g : Ev Fl} {e1 e2 : List Slot} {r : Out Fl} (h1 : f e1 = .val .nx e2) (h2 : g e2 = r) : fSeq f g e1 = r := by
  simp only [fSeq, h1]
  exact h2
end Vl
set_option Elab.async false
set_option linter.all false
set_option maxRecDepth 100000
set_option maxHeartbeats 2000000
namespace Vl
open PySem PySem.Spec PyProof.Rows L2 Sb
/-- __init__ of an own exception: the fields ns, the last argument first -/
def spXI (C : Addr) (ns : List Str) : Sp := fun vs H Q _ => ∃ (a : Addr) (ws : List V), vs = .ref a :: ws ∧ ws.length = ns.length ∧ H a = some (exo a C none) ∧
  ∀ (H' : Hp) (d : Addr), H' a = some (exo a C (some d)) → H d = none → d ≠ a → H' d = some (exd d (ns.zip ws.reverse)) → (∀ b o, H b = some o → b ≠ a → H' b = some o) → Q .non H'
/-- what a def lets out -/
def ZE (ct : Ct) (E : XK) : ZX := fun c as env G σ H dd => ∀ C nm, ct c = some (C, nm) → E (.ref C) (some dd) H
theorem zE {ct : Ct} {E : XK} : ∀ c as env G σ H dd C nm, ct c = some (C, nm) → ZE ct E c as env G σ H dd → E (.ref C) (some dd) H := fun _ _ _ _ _ _ _ C nm h z => z C nm h
def fRaise (c : Str) (fs : Ev (List D)) : Ev Fl := fun env => (fs env).bind fun l e => if l.length ≤ 1000 then .exc c l.reverse e else .stuck
theorem Rps.rev {K : PySem.W.Frag} {ct : Ct} {F : Hp} {vs : List V} {l : List D} (h : Rps K ct F vs l) : Rps K ct F vs.reverse l.reverse := by
  have key : ∀ {vs : List V} {l : List D}, Rps K ct F vs l → ∀ {ws : List V} {m : List D}, Rps K ct F ws m → Rps K ct F (vs.reverseAux ws) (l.reverseAux m) := by
    intro vs
    induction vs with
    | nil =>
      intro l h ws m g
      cases h
      exact g
    | cons v vs ih =>
      intro l h ws m g
      cases h with
      | cons h t => exact ih t (.cons h g)
  exact key h .nil
section
variable {X : Cx} {B : Bs} {Z : ZX} {e : Expr} {es : List Expr} {pos cpos p : Pos} {fs : Ev (List D)} {E : XK} {x c : Str} {C fI : Addr} {fd : FuncData} {ps ns : List Str} {kk : Nat}
theorem ds_raise (O : Ox X.prog X.w X.K X.mg X.base kk x C fI fd ps (spXI C ns)) (hct : B.ct c = some (C, ns)) (hc : X.calm = true) (tk : Takes X (fun cls d _ H => E cls d H)) (hr : Room (kk + 1) X.A) (hg : Gl X x)
    (hZ : ∀ c as env G σ H dd C nm, B.ct c = some (C, nm) → Z c as env G σ H dd → E (.ref C) (some dd) H) (ha : DA X B Z (e :: es) fs) (hlen : ∀ env l e', fs env = .val l e' → l.length = ns.length)
    (hdb : (x == ("__debug__" : Str)) = false := by decide) (he : starEach (e :: es) X.env = (false, eval e X.env) :: starEach es X.env := by rfl) (hpl : (backTo cpos (starEach es X.env)).any (·.1) = false := by rfl) :
    DS X B Z (.Raise (some (.Call (.Name x p) (e :: es) [] cpos)) none pos) (fRaise c fs) :=
  ⟨PS.weak (ps_raise hc tk (pmk_oex O.c O.iC O.tI O.ok hr O.bd .nil pass0 hg O.mg ha.pa hdb he hpl)) fun E' σ H h => by
    obtain ⟨G, env, cf, q⟩ := h
    refine ⟨G, env, cf, ?_⟩
    cases hf : fs env with
    | stuck =>
      unfold fRaise at q
      rw [hf] at q
      exact q.elim
    | exc cc as e1 =>
      unfold fRaise at q
      rw [hf] at q
      exact fun G1 H1 dd m1 c1 xx => q G1 σ H1 dd m1 c1 xx
    | val l e1 =>
      intro G1 H1 m1 c1 vs rvs
      unfold fRaise at q
      rw [hf] at q
      simp only [Out.bind] at q
      by_cases hl : l.length ≤ 1000
      · rw [if_pos hl] at q
        have ln := hlen _ _ _ hf
        refine ⟨by rw [rvs.len]; exact hl, fun a hA => ?_⟩
        rw [List.append_nil]
        refine ⟨a, vs, rfl, by rw [rvs.len, ln], upd_same, fun H2 d e1' n1 ne e2 kp => ⟨rfl, d, _, e1', e2, ?_, ?_⟩⟩
        · rw [upd_ne ne] at n1
          exact n1
        · have hd : H1 d = none := by
            rw [upd_ne ne] at n1
            exact n1
          have sm : Same H1 (upd (del H2 a) d (.xd (ns.zip vs.reverse))) := fun b o hb => by
            have nb : b ≠ a := ne_of_none hb hA
            have nd : b ≠ d := ne_of_none hb hd
            rw [upd_ne nd, del_ne nb]
            exact kp b o (by rw [upd_ne nb]; exact hb) nb
          refine hZ _ _ _ _ _ _ _ _ _ hct (q G1 σ _ d (m1.trans (c1.mono sm)) (c1.same sm) ⟨C, ns, vs.reverse, hct, by rw [List.length_reverse, rvs.len, ln], ?_, (rvs.mono (off_same sm)).rev⟩)
          rw [off_at fun z => c1.live d z hd]
          exact upd_same
      · rw [if_neg hl] at q
        exact q.elim⟩
end
/-- a def's promise by its body over data, which may raise -/
theorem okGX {P : Program} {w : World} {K : PySem.W.Frag} {mg : Str → Option Value} {base : Heap} {k : Nat} {f : Addr} {x qual : Str} {st : Stmt} {fd : FuncData} {N ps : List Str} {sp : Sp} (F : Fun K x qual st f fd) (Z : FnScope N ps (defScope st)) (size : ∀ xs H Q E, sp xs H Q E → xs.length = ps.length)
    (hb : ∀ (cdv : Value) (A : Around) (out : List Env) (s : Shared) (H : Hp) (xs : List V) (Q : VK) (E : XK), A.guards = some [] → Room k (A.deeper (envOfC qual (defScope st) s.heap.objs.size f cdv)) → sp xs H Q E →
      ∃ t, PSs (cxOf (L2.CX P w) P w K mg base N qual (defScope st) f cdv A out s H E) (defBody st) t ∧ t { nx := fun _ H' => Q .non H', rt := Q } (start N xs) H) : FnG P w K mg base (L2.CX P w) (k + 1) f fd ps sp := by
  obtain ⟨oc, od, kV, doc, pm, an, cdv, ct, osl, rfl, at_, cd_⟩ := F.ex
  exact fnG at_ cd_ Z size fun A out s H xs Q E hg hr hs => hb cdv A out s H xs Q E hg hr hs
section
variable {P : Program} {w : World} {K : PySem.W.Frag} {mg : Str → Option Value} {base : Heap} {k : Nat} {f : Addr} {ct : Ct}
theorem okXV {x qual : Str} {st : Stmt} {fd : FuncData} {N ps : List Str} {m : List Bool} {Fs : Ev Fl} (F : Fun K x qual st f fd) (Zs : FnScope N ps (defScope st)) (hm : m.length = ps.length)
    (hb : ∀ (io : Nat → Option Addr) (cdv : Value) (A : Around) (out : List Env) (s : Shared) (H : Hp) (E : XK), (A.deeper (envOfC qual (defScope st) s.heap.objs.size f cdv)).guards = some [] → Room k (A.deeper (envOfC qual (defScope st) s.heap.objs.size f cdv)) →
      (A.deeper (envOfC qual (defScope st) s.heap.objs.size f cdv)).units + 66 < cLine → DSs (cxOf (L2.CX P w) P w K mg base N qual (defScope st) f cdv A out s H E) ⟨ct, io, H, noT⟩ (ZE ct E) (defBody st) Fs) : FnG P w K mg base (L2.CX P w) (k + 1) f fd ps (spV K ct m fun ds => runV m N.length Fs ds) := by
  have hn : m.length ≤ N.length := by
    rw [hm]
    have := congrArg List.length Zs.pre
    rw [List.length_take] at this
    omega
  refine okGX F Zs (fun vs H Q E h => ?_) (fun cdv A out s H vs Q E hg hr h => ?_)
  · obtain ⟨S, ia, ds, A, _⟩ := h
    rw [A.lv, hm]
  · obtain ⟨S, ia, ds, Ar, q⟩ := h
    refine ⟨_, (hb ia cdv A out s H E (guards_in hg) hr (by have := hr.un; omega)).pss, ⟨S, ia, noT⟩, mkEnv m N.length ds, start_cfg Ar hn, ?_⟩
    have fin : ∀ {G' : Gh} {env : List Slot} {σ' : L2.St} {H' : Hp} {l : List D}, Mono ⟨S, ia, noT⟩ H G' H' → Cfg K ⟨ct, ia, H, noT⟩ G' env σ' H' → ioAt env 0 m = some l → Frame K ct S S ia H H' l ∧ Same (off G'.S H') (off S H') := fun a b c => end_frame Ar a b c fun _ h => .inl h
    have q : (match runV m N.length Fs ds with
  | .stuck => False
  | .ret false r ns => ∀ v H', Frame K ct S S ia H H' ns → Rp K ct (off S H') v r → Q v H'
  | .ret true r ns => ∀ a H', H a = none → Frame K ct S (more S a) ia H H' ns → OwnAt K ct H' (off (more S a) H') a r → Q (.ref a) H'
  | .exc c as ns => ∀ H' dd C nm, Frame K ct S S ia H H' ns → ExcAt K ct (off S H') dd c as → ct c = some (C, nm) → E (.ref C) (some dd) H') := q
    unfold runV at q
    cases ho : Fs (mkEnv m N.length ds) with
    | stuck =>
      rw [ho] at q
      exact q.elim
    | exc c as env =>
      rw [ho] at q
      simp only [Res.of] at q
      cases hl : ioAt env 0 m with
      | none =>
        rw [hl] at q
        exact q.elim
      | some l =>
        rw [hl] at q
        intro G' σ' H' dd mm cf xx C nm hC
        obtain ⟨fr, sm⟩ := fin mm cf hl
        obtain ⟨C2, ns2, vs2, y1, y2, y3, y4⟩ := xx
        exact q H' dd C nm fr ⟨C2, ns2, vs2, y1, y2, sm _ _ y3, y4.mono sm⟩ hC
    | val fl env =>
      rw [ho] at q
      cases fl with
      | bk => exact q.elim
      | ct => exact q.elim
      | nx =>
        simp only [Res.of] at q
        cases hl : ioAt env 0 m with
        | none =>
          rw [hl] at q
          exact q.elim
        | some l =>
          rw [hl] at q
          exact fun G' σ' H' mm c => q _ H' (fin mm c hl).1 .non
      | rt n d =>
        simp only [Res.of] at q
        cases hl : ioAt env 0 m with
        | none =>
          rw [hl] at q
          exact q.elim
        | some l =>
          rw [hl] at q
          cases n with
          | false => exact fun G' σ' H' mm c v rv => q v H' (fin mm c hl).1 (rv.mono (fin mm c hl).2)
          | true =>
            intro G' σ' H' mm c a h0 hs ho'
            have ee := end_frame (S' := more S a) Ar mm c hl fun x hx => hx.elim .inl fun e => .inr (by rw [e]; exact hs)
            exact q a H' h0 ee.1 (ho'.mono rfl ee.2)
end
end Vl
set_option Elab.async false
set_option linter.all false
set_option maxRecDepth 100000
set_option maxHeartbeats 2000000
namespace Vl
open PySem PySem.Spec PyProof.Rows L2 Sb
section
variable {X : Cx} {B : Bs} {Z : ZX} {CX : CXT} {k : Nat} {C fa : Addr} {fd : FuncData} {ps ns : List Str} {E : XK} {dsv : List Value} {dvs : List V} {dd : List D} {x c fn : Str} {p pos : Pos} {e o : Expr} {es : List Expr} {m : List Bool} {Φ : List D → Res} {f g : Ev D} {fs : Ev (List D)}
theorem run_makeGT {pins : List (Addr × Obj)} {σ : L2.St} {H : Hp} {s : Shared} {Q : VK} {us : List Value} {vs : List V} {sp : Sp} {ds : List Value} (M : Mk X.K C fa) (F : FnG X.prog X.w X.K X.mg X.base CX k fa fd ps sp) (hgd : X.A.guards = some []) (hr : Room (k + 1) X.A) (hb : Binds X.K fd ps ds) (hd : Vals dvs ds)
    (hx : PassesS CX X σ E) (I : Inv X pins σ H s) (r : Vals vs us)
    (h : ∀ x dx, H x = none → H dx = none → dx ≠ x → sp (.ref x :: (vs ++ dvs)) (upd (upd H dx (.own x)) x (.ins C dx [])) (fun v H2 => v = .non ∧ Q (.ref x) H2) E) :
    wpAny (model X.prog X.w) X.A (call (.ref C) us) (EP X pins σ Q) X.xe s := by
  have hq := h (s.heap.objs.size + 1) s.heap.objs.size (I.hok.fresh (Nat.le_succ _)) (I.hok.fresh (Nat.le_refl _)) (Nat.ne_of_lt (Nat.lt_succ_self _))
  have I2 := Inv.made (C := C) I
  have r2 : Vals (V.ref (s.heap.objs.size + 1) :: (vs ++ dvs)) (Value.ref (s.heap.objs.size + 1) :: (us ++ ds)) := .cons rfl (r.append hd)
  have hl : (Value.ref (s.heap.objs.size + 1) :: us ++ ds).length = ps.length := by
    have e := r2.length
    rw [F.size _ _ _ _ hq] at e
    exact e.symm
  refine wpAny_call (make_map (f := fa) I.kIn M.makes M.init (beq_iff_eq.mp M.fn) (codeAny_mono (F.go _ X.stack _ _ ⟨Value.ref (s.heap.objs.size + 1) :: us, []⟩ (Value.ref (s.heap.objs.size + 1) :: (us ++ ds)) _ _ E hgd (hr.make C us [])
    (I2.env0.make C us []) (hb _ (Value.ref (s.heap.objs.size + 1) :: us) I2.kIn hl) r2 hq) fun r s' hq' => ?_))
  match r, hq' with
  | .error e, hq' => exact hx pins _ _ e s' I2 hq'
  | .ok (.ret u), hq' =>
    obtain ⟨v, H', I3, rv, ev, q3⟩ := I2.after hq'
    subst ev
    exact ⟨rv, ⟨V.ref (s.heap.objs.size + 1), H', I3, rfl, q3⟩⟩
  | .ok .next, hq' => exact False.elim hq'
  | .ok .brk, hq' => exact False.elim hq'
  | .ok .cont, hq' => exact False.elim hq'
theorem pe_makeGT {E : L2.St → XK} {sp : Sp} {ds : List Value} {t : TA} (M : Mk X.K C fa) (F : FnG X.prog X.w X.K X.mg X.base CX k fa fd ps sp) (hgd : X.A.guards = some []) (hr : Room (k + 1) X.A) (hg : Gl X x) (hm : X.mg x = some (.ref C)) (hb : Binds X.K fd ps ds) (hd : Vals dvs ds) (hx : ∀ σ, PassesS CX X σ (E σ))
    (ha : PA X (e :: es) t) (hdb : (x == ("__debug__" : Str)) = false := by decide) (he : starEach (e :: es) X.env = (false, eval e X.env) :: starEach es X.env := by rfl) (hpl : (backTo pos (starEach es X.env)).any (·.1) = false := by rfl) :
    PE X (.Call (.Name x p) (e :: es) [] pos) (fun σ H Q => tMake C sp dvs (E σ) t σ H Q) := by
  refine ⟨fun pins s σ H Q I h => ?_⟩
  refine wpAny_Call_Name_kw (ld_glob I hg hm ?_ hdb)
  refine PySem.W.callWith_K (h₀ := X.base) I.ok.mod.kin M.kp (thn (ha.run pos pins s σ H _ I h) fun us s1 ⟨vs, H1, I1, r, q⟩ => ⟨I1.kIn, ?_⟩) he hpl
  exact run_makeGT M F hgd hr hb hd (hx σ) I1 r q
def fMake (c : Str) (m : List Bool) (Φ : List D → Res) (dd : List D) (fs : Ev (List D)) : Ev D := fun env => (fs env).bind fun l e => if true :: (l ++ dd).map (fun _ => false) = m then (match Φ (.ob c [] :: (l ++ dd)) with
    | .ret false .non (z :: _) => .val z e
    | .exc c as _ => .exc c as e
    | _ => .stuck) else .stuck
theorem made_same {S : Addr → Prop} {H1 : Hp} {a dx : Addr} {o1 o2 : HO} (live : ∀ a, S a → H1 a ≠ none) (ha : H1 a = none) (hdx : H1 dx = none) : Same (off S H1) (off (more S a) (upd (upd H1 dx o1) a o2)) := fun b u h => by
  obtain ⟨n, h⟩ := off_inv h
  have nb : b ≠ a := ne_of_none h ha
  have nd : b ≠ dx := ne_of_none h hdx
  rw [off_at fun z => z.elim n nb, upd_ne nb, upd_ne nd]
  exact h
theorem lift_makeT {E : L2.St → XK} (hct : B.ct c = some (C, ns)) (rd : ∀ F, Rps X.K B.ct F dvs dd) (hZ : ∀ c as env G σ H dd C nm, B.ct c = some (C, nm) → Z c as env G σ H dd → E σ (.ref C) (some dd) H) (σ : L2.St) (H : Hp) (Q : VK) (h : liftE X.K B Z (fMake c m Φ dd fs) σ H Q) :
    tMake C (spV X.K B.ct m Φ) dvs (E σ) (liftA X.K B Z fs) σ H Q := by
  obtain ⟨G, env, cf, q⟩ := h
  refine ⟨G, env, cf, post_imp (post_bind q) fun l e1 G1 H1 m1 c1 p1 vs rvs => ?_⟩
  intro a dx hna hndx hne
  by_cases hc : true :: (l ++ dd).map (fun _ => false) = m
  · rw [if_pos hc] at p1
    have sm := made_same (o1 := .own a) (o2 := .ins C dx []) c1.live hna hndx
    have rall : Rps X.K B.ct (off (more G1.S a) (upd (upd H1 dx (.own a)) a (.ins C dx []))) (vs ++ dvs) (l ++ dd) := (rvs.mono sm).app (rd _)
    have un : ¬ G1.S a := c1.unS hna
    have keepS : ∀ b, G1.S b → upd (upd H1 dx (.own a)) a (.ins C dx []) b = H1 b := fun b hb => by
      have n1 : b ≠ a := fun z => un (by rw [← z]; exact hb)
      have n2 : b ≠ dx := fun z => c1.live b hb (by rw [z]; exact hndx)
      rw [upd_ne n1, upd_ne n2]
    have md : ∀ {j : Nat} {b : Bool}, m[j]? = some b → (j = 0 ∧ b = true) ∨ ∃ i, j = i + 1 ∧ b = false := fun {j b} h => by
      rw [← hc] at h
      cases j with
      | zero =>
        cases h
        exact .inl ⟨rfl, rfl⟩
      | succ i =>
        have := List.mem_of_getElem? (show ((l ++ dd).map fun _ => false)[i]? = some b by simpa using h)
        obtain ⟨_, _, z⟩ := List.mem_map.mp this
        exact .inr ⟨i, rfl, z.symm⟩
    refine ⟨more G1.S a, fun j => if j = 0 then some a else none, .ob c [] :: (l ++ dd), ⟨?_, ?_, fun j v d h1 h2 h3 => ?_, fun j v d h1 h2 h3 => ?_, fun j b z => ?_, fun j b z => ?_, fun i j b z1 z2 => ?_, fun b hb => ?_⟩, ?_⟩
    · rw [← hc]
      simp [rall.len]
    · rw [← hc]
      simp
    · rcases md h1 with ⟨_, z⟩ | ⟨i, rfl, _⟩
      · cases z
      · obtain ⟨d', g1, g2⟩ := rall.get (i := i) (by simpa using h2)
        have h3' : (l ++ dd)[i]? = some d := by simpa using h3
        rw [h3'] at g1
        cases g1
        exact g2
    · rcases md h1 with ⟨rfl, _⟩ | ⟨i, _, z⟩
      · cases h2
        cases h3
        exact ⟨a, if_pos rfl, rfl, C, dx, ns, [], hct, Nat.zero_le _, by rw [List.zip_nil_right]; exact upd_same, .nil⟩
      · cases z
    · by_cases ej : j = 0
      · subst ej
        rw [← hc]
        rfl
      · rw [if_neg ej] at z
        cases z
    · by_cases ej : j = 0
      · rw [if_pos ej] at z
        cases z
        exact .inr rfl
      · rw [if_neg ej] at z
        cases z
    · by_cases ei : i = 0
      · by_cases ej : j = 0
        · omega
        · rw [if_neg ej] at z2
          cases z2
      · rw [if_neg ei] at z1
        cases z1
    · rcases hb with hb | rfl
      · rw [keepS b hb]
        exact c1.live b hb
      · rw [upd_same]
        exact Option.some_ne_none _
    · have fr1 : ∀ {H' : Hp} {ns' : List D}, Frame X.K B.ct (more G1.S a) (more G1.S a) (fun j => if j = 0 then some a else none) (upd (upd H1 dx (.own a)) a (.ins C dx [])) H' ns' → Frame X.K B.ct G1.S G1.S (iaOf G1 []) H1 H' [] := fun {H' ns'} fr =>
        ⟨fun b u h => off_more _ _ (fr.same _ _ (sm _ _ h)), fun b hb _ => by
          rw [fr.hold b (.inl hb) fun j z => by
            by_cases ej : j = 0
            · rw [if_pos ej] at z
              cases z
              exact un hb
            · rw [if_neg ej] at z
              cases z]
          exact keepS b hb, fun j b z => by
          obtain ⟨i, z1, _⟩ := iaOf_some z
          simp at z1, fun b hb => fr.dom b (by
          by_cases n1 : b = a
          · rw [n1, upd_same]
            exact Option.some_ne_none _
          · rw [upd_ne n1]
            by_cases n2 : b = dx
            · rw [n2, upd_same]
              exact Option.some_ne_none _
            · rw [upd_ne n2]
              exact hb)⟩
      cases hr : Φ (.ob c [] :: (l ++ dd)) with
      | stuck =>
        rw [hr] at p1
        exact p1.elim
      | exc cc as ns' =>
        rw [hr] at p1
        intro H' dd' C' nm fr xa hC
        obtain ⟨mm, c'⟩ := after_call (l := []) (ds := []) c1 rfl (by simp [ioSlots]) (fr1 fr)
        obtain ⟨C2, ns2, vs2, y1, y2, y3, y4⟩ := xa
        exact hZ _ _ _ _ _ _ _ _ _ hC (p1 G1 H' dd' mm c' ⟨C2, ns2, vs2, y1, y2, off_more _ _ y3, y4.mono off_more⟩)
      | ret nw r ns' =>
        rw [hr] at p1
        cases nw with
        | true => exact p1.elim
        | false =>
          cases r with
          | non =>
            cases ns' with
            | nil => exact p1.elim
            | cons z rest =>
              intro v H' fr rv
              refine ⟨rv.nonE, ?_⟩
              obtain ⟨d, g1, g2⟩ := fr.new 0 a (if_pos rfl)
              cases g1
              obtain ⟨mm, c'⟩ := after_call (l := []) (ds := []) c1 rfl (by simp [ioSlots]) (fr1 fr)
              exact p1 G1 H' mm c' _ ((g2.mono rfl off_more).rp (off_at un))
          | _ => exact p1.elim
  · rw [if_neg hc] at p1
    exact p1.elim
theorem de_makeT {E : L2.St → XK} {M : Mk X.K C fa} (F : FnG X.prog X.w X.K X.mg X.base CX k fa fd ps (spV X.K B.ct m Φ)) (hct : B.ct c = some (C, ns)) (hgd : X.A.guards = some []) (hr : Room (k + 1) X.A) (hg : Gl X x) (hm : X.mg x = some (.ref C)) (hb : Binds X.K fd ps dsv) (hd : Vals dvs dsv) (rd : ∀ F, Rps X.K B.ct F dvs dd) (hx : ∀ σ, PassesS CX X σ (E σ))
    (hZ : ∀ c as env G σ H dd C nm, B.ct c = some (C, nm) → Z c as env G σ H dd → E σ (.ref C) (some dd) H) (ha : DA X B Z (e :: es) fs) (hdb : (x == ("__debug__" : Str)) = false := by decide) (he : starEach (e :: es) X.env = (false, eval e X.env) :: starEach es X.env := by rfl)
    (hpl : (backTo pos (starEach es X.env)).any (·.1) = false := by rfl) : DE X B Z (.Call (.Name x p) (e :: es) [] pos) (fMake c m Φ dd fs) :=
  ⟨PE.weak (pe_makeGT M F hgd hr hg hm hb hd hx ha.pa hdb he hpl) (lift_makeT hct rd hZ)⟩
theorem de_make {M : Mk X.K C fa} (F : FnG X.prog X.w X.K X.mg X.base CX k fa fd ps (spV X.K B.ct m Φ)) (hct : B.ct c = some (C, ns)) (hgd : X.A.guards = some []) (hr : Room (k + 1) X.A) (hg : Gl X x) (hm : X.mg x = some (.ref C)) (hb : Binds X.K fd ps dsv) (hd : Vals dvs dsv) (rd : ∀ F, Rps X.K B.ct F dvs dd) (hx : Passes CX X E)
    (hZ : ∀ c as env G σ H dd C nm, B.ct c = some (C, nm) → Z c as env G σ H dd → E (.ref C) (some dd) H) (ha : DA X B Z (e :: es) fs) (hdb : (x == ("__debug__" : Str)) = false := by decide) (he : starEach (e :: es) X.env = (false, eval e X.env) :: starEach es X.env := by rfl)
    (hpl : (backTo pos (starEach es X.env)).any (·.1) = false := by rfl) : DE X B Z (.Call (.Name x p) (e :: es) [] pos) (fMake c m Φ dd fs) :=
  de_makeT (M := M) (E := fun _ => E) F hct hgd hr hg hm hb hd rd (fun σ pins H s e s' => hx pins σ H s e s') hZ ha hdb he hpl
def oFld (c : Str) (j : Nat) : D → Option D
  | .ob c' l => if c' = c then l[j]? else none
  | _ => none
def fUn (o : D → Option D) (f : Ev D) : Ev D := fun env => (f env).bind fun d e => Out.opt (o d) e
theorem zip_lookup {ns : List Str} {vs : List V} {j : Nat} {v : V} {n : Str} (nd : ns.Nodup) (hn : ns[j]? = some n) (hv : vs[j]? = some v) : (ns.zip vs).lookup n = some v := by
  induction ns generalizing vs j with
  | nil => simp at hn
  | cons y ns ih =>
    cases vs with
    | nil => simp at hv
    | cons w vs =>
      obtain ⟨h1, h2⟩ := List.nodup_cons.mp nd
      cases j with
      | zero =>
        simp at hn hv
        subst hn hv
        simp [List.lookup]
      | succ j =>
        simp only [List.getElem?_cons_succ] at hn hv
        have hne : n ≠ y := fun z => h1 (by rw [← z]; exact List.mem_of_getElem? hn)
        have hb : (n == y) = false := by simpa using hne
        rw [List.zip_cons_cons, List.lookup_cons, hb]
        exact ih h2 hn hv
theorem de_fld {j : Nat} (cl : Cls X.K C) (nf : NoAttr X.K C fn) (hct : B.ct c = some (C, ns)) (nd : ns.Nodup) (hj : ns[j]? = some fn) (h : DE X B Z o f) (hb : attributeBase o fn X.env (eval o X.env) = eval o X.env := by rfl) : DE X B Z (.Attribute o fn pos) (fUn (oFld c j) f) :=
  ⟨PE.weak (pe_fld h.pe hb) fun σ H Q ⟨G, env, cf, q⟩ => ⟨G, env, cf, post_imp (post_bind q) fun d e1 G1 H1 m1 c1 p1 v rv => by
    cases ho : oFld c j d with
    | none =>
      rw [ho] at p1
      exact p1.elim
    | some z =>
      rw [ho] at p1
      unfold oFld at ho
      split at ho
      · split at ho
        · rename_i ec
          subst ec
          obtain ⟨a, C', dx, ns', vs, rfl, h1, h2, h3, h4⟩ := rv.obE
          rw [hct] at h1
          cases h1
          obtain ⟨w, g1, g2⟩ := h4.get' ho
          exact ⟨a, C, dx, _, w, rfl, off_le _ _ h3, cl, nf, zip_lookup nd hj g1, p1 G1 H1 Mono.refl c1 w g2⟩
        · cases ho
      · cases ho⟩⟩
/-- a property that hands an attribute out -/
theorem de_prop {j : Nat} {pa ga : Addr} {fdg : FuncData} {at_ : Str} {E : XK} (P : Px X.prog X.w X.K X.mg X.base C pa ga fdg fn at_) (cl : Cls X.K C) (hct : B.ct c = some (C, ns)) (nd : ns.Nodup) (hj : ns[j]? = some at_) (hr : Room 2 X.A) (h : DE X B Z o f) (hb : attributeBase o fn X.env (eval o X.env) = eval o X.env := by rfl) : DE X B Z (.Attribute o fn pos) (fUn (oFld c j) f) :=
  ⟨PE.weak (pe_prop (E := E0) h.pe cl P.pof P.ok hr P.bd .nil pass0 hb) fun σ H Q ⟨G, env, cf, q⟩ => ⟨G, env, cf, post_imp (post_bind q) fun d e1 G1 H1 m1 c1 p1 v rv => by
    cases ho : oFld c j d with
    | none =>
      rw [ho] at p1
      exact p1.elim
    | some z =>
      rw [ho] at p1
      unfold oFld at ho
      split at ho
      · split at ho
        · rename_i ec
          subst ec
          obtain ⟨a, C', dx, ns', vs, rfl, h1, h2, h3, h4⟩ := rv.obE
          rw [hct] at h1
          cases h1
          obtain ⟨w, g1, g2⟩ := h4.get' ho
          exact ⟨a, dx, _, rfl, off_le _ _ h3, a, dx, _, w, rfl, off_le _ _ h3, zip_lookup nd hj g1, p1 G1 H1 Mono.refl c1 w g2⟩
        · cases ho
      · cases ho⟩⟩
end
end Vl
set_option Elab.async false
set_option linter.all false
set_option maxRecDepth 100000
set_option maxHeartbeats 2000000
namespace Vl
open PySem PySem.Spec PyProof.Rows L2 Sb
theorem putF_new {ns : List Str} {vs : List V} {fn : Str} {y : V} (nd : ns.Nodup) (hj : ns[vs.length]? = some fn) : putF fn y (ns.zip vs) = ns.zip (vs ++ [y]) := by
  induction ns generalizing vs with
  | nil => simp at hj
  | cons n ns ih =>
    obtain ⟨h1, h2⟩ := List.nodup_cons.mp nd
    cases vs with
    | nil =>
      simp at hj
      subst hj
      simp [putF]
    | cons v vs =>
      have hj' : ns[vs.length]? = some fn := by simpa using hj
      have hne : ¬ n = fn := fun z => h1 (by rw [z]; exact List.mem_of_getElem? hj')
      show putF fn y ((n, v) :: ns.zip vs) = (n, v) :: ns.zip (vs ++ [y])
      unfold putF
      rw [if_neg hne, ih h2 hj']
section
variable {X : Cx} {B : Bs} {Z : ZX} {a b e o : Expr} {es : List Expr} {pos xpos apos : Pos} {f g h : Ev D} {fs : Ev (List D)} {x c fn : Str} {C : Addr} {ns : List Str} {i j : Nat}
def fFldS (c : Str) (i j : Nat) (f : Ev D) : Ev Fl := fun env => (f env).bind fun d e1 => match e1[i]? with
  | some (.io (.ob c' l)) => if c' = c ∧ l.length = j then .val .nx (e1.set i (.io (.ob c (l ++ [d])))) else .stuck
  | _ => .stuck
theorem ds_fldS (cl : Cls X.K C) (nf : NoAttr X.K C fn) (hct : B.ct c = some (C, ns)) (nd : ns.Nodup) (hj : ns[j]? = some fn) (few : ns.length < 1000) (hN : X.N[i]? = some x) (hv : Vis X.env.scope x) (he : DE X B Z e f)
    (hd : (x == ("__debug__" : Str)) = false := by decide) (hcd : (x == ("__classdict__" : Str)) = false := by decide) (hs : swapsWith e (some (.Attribute (.Name x xpos) fn apos)) pos.line X.env = pure false := by rfl) :
    DS X B Z (.Assign [.Attribute (.Name x xpos) fn apos] e pos) (fFldS c i j f) :=
  ⟨PS.weak (ps_fld (pe_var hN hv hd hcd) he.pe hs) fun E σ H h => by
    obtain ⟨G, env, cf, q⟩ := h
    refine ⟨G, env, cf, post_imp (exprS q) fun d e1 G1 H1 m1 c1 p1 v rv => ?_⟩
    split at p1
    · rename_i c' l hs1
      split at p1
      · rename_i hc
        obtain ⟨rfl, hl⟩ := hc
        obtain ⟨a', g1, g2, C', dx, ns', vs, h0, h1, h2, h3⟩ := c1.own (b := true) hs1
        rw [hct] at h0
        cases h0
        have hl' : vs.length = j := h3.len.trans hl
        subst hl'
        refine ⟨_, g2, a', C, dx, _, rfl, h2, cl, nf, ?_, ?_⟩
        · rw [List.length_zip]
          omega
        · rw [putF_new nd hj]
          exact p1 G1 _ _ (Mono.chg g1 (c1.hid i a' g1)) (c1.chg (b := true) g1 hs1 ⟨C, dx, ns, vs ++ [v], hct, by
            have := (List.getElem?_eq_some_iff.mp hj).1
            rw [List.length_append, List.length_singleton]
            omega, upd_same, h3.app (.one rv)⟩)
      · exact p1.elim
    · exact p1.elim⟩
def keyOf : D → Option Key
  | .int i => some (.inl i)
  | .str s => some (.inr s)
  | _ => none
def keysOf : List D → Option (List Key)
  | [] => some []
  | d :: l => match keyOf d, keysOf l with
    | some k, some ks => some (k :: ks)
    | _, _ => none
def tkeyOf : D → Option (List Key)
  | .tup l => keysOf l
  | _ => none
theorem keyOf_v {K : PySem.W.Frag} {ct : Ct} {F : Hp} {v : V} {d : D} {k : Key} (r : Rp K ct F v d) (e : keyOf d = some k) : v = kV k := by
  cases d with
  | int i =>
    cases e
    exact r.intE
  | str s =>
    cases e
    exact r.strE
  | _ => cases e
theorem keysOf_v {K : PySem.W.Frag} {ct : Ct} {F : Hp} : ∀ {l : List D} {vs : List V} {ks : List Key}, Rps K ct F vs l → keysOf l = some ks → vs = ks.map kV
  | [], _, _, r, e => by
    cases e
    exact r.nilE
  | d :: l, vs, ks, r, e => by
    obtain ⟨v, ws, rfl, h1, h2⟩ := r.consE
    unfold keysOf at e
    cases e1 : keyOf d with
    | none =>
      rw [e1] at e
      cases e
    | some k =>
      cases e2 : keysOf l with
      | none =>
        rw [e1, e2] at e
        cases e
      | some ks' =>
        rw [e1, e2] at e
        cases e
        rw [keyOf_v h1 e1, keysOf_v h2 e2]
        rfl
theorem tkeyOf_v {K : PySem.W.Frag} {ct : Ct} {F : Hp} {v : V} {d : D} {ks : List Key} (r : Rp K ct F v d) (e : tkeyOf d = some ks) : ∃ b, v = .ref b ∧ F b = some (.tup (ks.map kV)) := by
  cases d with
  | tup l =>
    obtain ⟨b, vs, rfl, h1, h2⟩ := r.tupP
    rw [keysOf_v h2 e] at h1
    exact ⟨b, rfl, h1⟩
  | _ => cases e
variable {κ : Type} [DecidableEq κ]
/-- what stands at a key -/
def getD' (ks : List κ) (l : List D) (k : κ) : Option D := ((ks.zip l).find? fun p => decide (p.1 = k)).map (·.2)
theorem getD_v {K : PySem.W.Frag} {ct : Ct} {F : Hp} {k : κ} : ∀ {ks : List κ} {vs : List V} {l : List D}, Rps K ct F vs l → (match getD' ks l k with | some d => ∃ v, valV (ks.zip vs) k = some v ∧ Rp K ct F v d | none => valV (ks.zip vs) k = none)
  | [], _, _, _ => by simp [getD', valV]
  | y :: ks, vs, l, r => by
    cases r with
    | nil => simp [getD', valV]
    | @cons v vs d l h t =>
      have ih := getD_v (ks := ks) (k := k) t
      unfold getD' valV at ih ⊢
      simp only [List.zip_cons_cons, List.find?_cons]
      by_cases e : y = k
      · simp only [e, decide_true]
        exact ⟨v, rfl, h⟩
      · simp only [e, decide_false]
        exact ih
/-- in its place, or at the end -/
def putKs (ks : List κ) (l : List D) (k : κ) (d : D) : List κ × List D := if (ks.any fun y => decide (y = k)) = true then (ks, List.zipWith (fun y e => if y = k then d else e) ks l) else (ks ++ [k], l ++ [d])
def putVs (ks : List κ) (vs : List V) (k : κ) (v : V) : List V := if (ks.any fun y => decide (y = k)) = true then List.zipWith (fun y e => if y = k then v else e) ks vs else vs ++ [v]
theorem zip_any {k : κ} : ∀ {ks : List κ} {vs : List V}, ks.length = vs.length → ((ks.zip vs).any fun p => decide (p.1 = k)) = ks.any fun y => decide (y = k)
  | [], [], _ => rfl
  | y :: ks, v :: vs, h => by
    simp only [List.zip_cons_cons, List.any_cons]
    rw [zip_any (by simpa using h)]
theorem putK_zip {ks : List κ} {vs : List V} (k : κ) (v : V) (d : D) (l : List D) (h : ks.length = vs.length) : putK (ks.zip vs) k v = (putKs ks l k d).1.zip (putVs ks vs k v) ∧ (putKs ks l k d).1.length = (putVs ks vs k v).length := by
  unfold putK putKs putVs
  rw [zip_any h]
  by_cases e : (ks.any fun y => decide (y = k)) = true
  · rw [if_pos e, if_pos e, if_pos e]
    clear e
    constructor
    · induction ks generalizing vs with
      | nil => rfl
      | cons y ks ih =>
        cases vs with
        | nil => simp at h
        | cons w vs =>
          simp only [List.zip_cons_cons, List.map_cons, List.zipWith_cons_cons]
          rw [ih (by simpa using h)]
          by_cases ey : y = k
          · rw [if_pos ey, if_pos ey]
          · rw [if_neg ey, if_neg ey]
    · simp [h]
  · rw [if_neg e, if_neg e, if_neg e]
    refine ⟨?_, by simp [h]⟩
    rw [List.zip_append h]
    rfl
theorem putVs_rp {K : PySem.W.Frag} {ct : Ct} {F : Hp} {k : κ} {v : V} {d : D} (r : Rp K ct F v d) {ks : List κ} {vs : List V} {l : List D} (t : Rps K ct F vs l) : Rps K ct F (putVs ks vs k v) (putKs ks l k d).2 := by
  unfold putVs putKs
  by_cases e : (ks.any fun y => decide (y = k)) = true
  · rw [if_pos e, if_pos e]
    clear e
    show Rps K ct F (List.zipWith _ ks vs) (List.zipWith _ ks l)
    induction ks generalizing vs l with
    | nil => exact .nil
    | cons y ks ih =>
      cases t with
      | nil => exact .nil
      | cons h t =>
        simp only [List.zipWith_cons_cons]
        refine .cons ?_ (ih t)
        by_cases ey : y = k
        · rw [if_pos ey, if_pos ey]
          exact r
        · rw [if_neg ey, if_neg ey]
          exact h
  · rw [if_neg e, if_neg e]
    exact t.app (.one r)
def oDGet : D → D → Option (Option D)
  | .dk ks l, y => (keyOf y).map fun k => getD' ks l k
  | .dt ks l, y => (tkeyOf y).map fun k => getD' ks l k
  | _, _ => none
def oDPut : D → D → D → Option D
  | .dk ks l, y, d => if l.length < sizeLine then (keyOf y).map fun k => .dk (putKs ks l k d).1 (putKs ks l k d).2 else none
  | .dt ks l, y, d => if l.length < sizeLine then (tkeyOf y).map fun k => .dt (putKs ks l k d).1 (putKs ks l k d).2 else none
  | _, _, _ => none
/-- the relation of what is got -/
def GotV (K : PySem.W.Frag) (ct : Ct) (F : Hp) (o : Option V) : Option D → Prop
  | some d => ∃ v, o = some v ∧ Rp K ct F v d
  | none => o = none
theorem own_get {K : PySem.W.Frag} {ct : Ct} {S : Addr → Prop} {H : Hp} {p : Addr} {d y : D} {yv : V} {r : Option D} (w : OwnAt K ct H (off S H) p d) (ry : Rp K ct (off S H) yv y) (e : oDGet d y = some r) : ∃ o, DGet H p yv o ∧ GotV K ct (off S H) o r := by
  cases d with
  | dk ks l =>
    obtain ⟨vs, h0, h1, h2⟩ := w
    have e : (keyOf y).map (fun k => getD' ks l k) = some r := e
    cases ek : keyOf y with
    | none =>
      rw [ek] at e
      cases e
    | some k =>
      rw [ek] at e
      cases e
      rw [keyOf_v ry ek]
      refine ⟨_, DGet.k h1, ?_⟩
      have := getD_v (ks := ks) (k := k) h2
      show GotV K ct (off S H) (valV (ks.zip vs) k) (getD' ks l k)
      split at this <;> (rename_i q; rw [q]; exact this)
  | dt ks l =>
    obtain ⟨vs, h0, h1, h2⟩ := w
    have e : (tkeyOf y).map (fun k => getD' ks l k) = some r := e
    cases ek : tkeyOf y with
    | none =>
      rw [ek] at e
      cases e
    | some k =>
      rw [ek] at e
      cases e
      obtain ⟨b, rfl, hb⟩ := tkeyOf_v ry ek
      refine ⟨_, DGet.t h1 (off_le _ _ hb), ?_⟩
      have := getD_v (ks := ks) (k := k) h2
      show GotV K ct (off S H) (valV (ks.zip vs) k) (getD' ks l k)
      split at this <;> (rename_i q; rw [q]; exact this)
  | _ => cases e
theorem own_put {K : PySem.W.Frag} {ct : Ct} {S : Addr → Prop} {H : Hp} {p : Addr} {d y z d' : D} {yv v : V} (w : OwnAt K ct H (off S H) p d) (ry : Rp K ct (off S H) yv y) (rz : Rp K ct (off S H) v z) (e : oDPut d y z = some d') : ∃ o, DPut H p yv v (upd H p o) ∧ OwnAt K ct (upd H p o) (off S H) p d' := by
  cases d with
  | dk ks l =>
    obtain ⟨vs, h0, h1, h2⟩ := w
    have e : (if l.length < sizeLine then (keyOf y).map (fun k => D.dk (putKs ks l k z).1 (putKs ks l k z).2) else none) = some d' := e
    by_cases hl : l.length < sizeLine
    · rw [if_pos hl] at e
      cases ek : keyOf y with
      | none =>
        rw [ek] at e
        cases e
      | some k =>
        rw [ek] at e
        cases e
        rw [keyOf_v ry ek]
        obtain ⟨e1, e2⟩ := putK_zip k v z l h0
        exact ⟨_, DPut.k h1 (by rw [List.length_zip, h2.len]; omega), _, e2, by rw [upd_same, e1], putVs_rp rz h2⟩
    · rw [if_neg hl] at e
      cases e
  | dt ks l =>
    obtain ⟨vs, h0, h1, h2⟩ := w
    have e : (if l.length < sizeLine then (tkeyOf y).map (fun k => D.dt (putKs ks l k z).1 (putKs ks l k z).2) else none) = some d' := e
    by_cases hl : l.length < sizeLine
    · rw [if_pos hl] at e
      cases ek : tkeyOf y with
      | none =>
        rw [ek] at e
        cases e
      | some k =>
        rw [ek] at e
        cases e
        obtain ⟨b, rfl, hb⟩ := tkeyOf_v ry ek
        obtain ⟨e1, e2⟩ := putK_zip k v z l h0
        exact ⟨_, DPut.t h1 (off_le _ _ hb) (by rw [List.length_zip, h2.len]; omega), _, e2, by rw [upd_same, e1], putVs_rp rz h2⟩
    · rw [if_neg hl] at e
      cases e
  | _ => cases e
end
section
variable {X : Cx} {B : Bs} {Z : ZX} {a b e o : Expr} {es : List Expr} {pos xpos apos spos cpos : Pos} {f g h : Ev D} {x : Str} {i : Nat}
/-- the dict that slot i owns -/
def slotO (env : List Slot) (i : Nat) : Option (Bool × D) := match env[i]? with
  | some (.ow d) => some (false, d)
  | some (.io d) => some (true, d)
  | _ => none
theorem slotO_own {env : List Slot} {b : Bool} {d : D} (h : slotO env i = some (b, d)) : env[i]? = some (own b d) := by
  unfold slotO at h
  split at h
  · cases h
    assumption
  · cases h
    assumption
  · cases h
/-- d[k] -/
def fDGetO (i : Nat) (f : Ev D) : Ev D := fun env => match slotO env i with
  | some _ => (f env).bind fun y e => match slotO e i with
    | some (_, d) => (match oDGet d y with
      | some (some z) => .val z e
      | _ => .stuck)
    | none => .stuck
  | none => .stuck
/-- k in d -/
def fDInO (neg : Bool) (i : Nat) (f : Ev D) : Ev D := fun env => (f env).bind fun y e => match slotO e i with
    | some (_, d) => (match oDGet d y with
      | some r => .val (.bl (if neg then !r.isSome else r.isSome)) e
      | _ => .stuck)
    | none => .stuck
theorem GotV.some {K : PySem.W.Frag} {ct : Ct} {F : Hp} {o : Option V} {r : Option D} (h : GotV K ct F o r) : o.isSome = r.isSome := by
  cases r with
  | none =>
    rw [show o = none from h]
    rfl
  | some d =>
    obtain ⟨v, rfl, _⟩ := h
    rfl
theorem lift_dinO {neg : Bool} (σ : L2.St) (H : Hp) (Q : VK) (h : liftE X.K B Z (fDInO neg i f) σ H Q) : liftE X.K B Z f σ H fun y H1 => tVar i σ H1 fun x H2 => ∃ a o, x = .ref a ∧ DGet H2 a y o ∧ Q (.bl (if neg then !o.isSome else o.isSome)) H2 := by
  obtain ⟨G, env, c, q⟩ := h
  refine ⟨G, env, c, post_imp (post_bind q) fun yd e1 G1 H1 m1 c1 p1 yv ry => ?_⟩
  cases h1 : slotO e1 i with
  | none =>
    rw [h1] at p1
    exact p1.elim
  | some p2 =>
    obtain ⟨b1, d1⟩ := p2
    rw [h1] at p1
    obtain ⟨y', g1, g2, g3⟩ := c1.own (slotO_own h1)
    cases hg : oDGet d1 yd with
    | none =>
      simp only [hg] at p1
      exact p1.elim
    | some r =>
      simp only [hg] at p1
      obtain ⟨o, k1, k2⟩ := own_get g3 ry hg
      exact ⟨_, g2, y', o, rfl, k1, by rw [k2.some]; exact p1 G1 H1 Mono.refl c1 _ (.bl _)⟩
/-- d[k] = e -/
def fDPutO (i : Nat) (k f : Ev D) : Ev Fl := fun env => (f env).bind fun v e1 => match slotO e1 i with
  | some _ => (k e1).bind fun y e2 => (match slotO e2 i with
    | some (b, d) => (match oDPut d y v with
      | some d' => .val .nx (e2.set i (own b d'))
      | none => .stuck)
    | none => .stuck)
  | none => .stuck
theorem ds_dputO (hu : X.A.units + 65 < cLine) (hN : X.N[i]? = some x) (hv : Vis X.env.scope x) (he : DE X B Z e f) (hk : DE X B Z a g) (hd : (x == ("__debug__" : Str)) = false := by decide) (hcd : (x == ("__classdict__" : Str)) = false := by decide)
    (hs : swapsWith e (some (.Subscript (.Name x xpos) a spos)) pos.line X.env = pure false := by rfl) : DS X B Z (.Assign [.Subscript (.Name x xpos) a spos] e pos) (fDPutO i g f) :=
  ⟨PS.weak (ps_dput (by omega) (pe_var hN hv hd hcd) hk.pe he.pe hs) fun E σ H h => by
    obtain ⟨G, env, c, q⟩ := h
    refine ⟨G, env, c, post_imp (exprS q) fun vd e1 G1 H1 m1 c1 p1 v rv => ?_⟩
    cases h0 : slotO e1 i with
    | none =>
      rw [h0] at p1
      exact p1.elim
    | some p0 =>
      obtain ⟨b0, d0⟩ := p0
      rw [h0] at p1
      obtain ⟨y, r1, r2, _⟩ := c1.own (slotO_own h0)
      refine ⟨_, r2, G1, e1, c1, post_imp (exprS p1) fun yd e2 G2 H2 m2 c2 p2 yv ry => ?_⟩
      cases h1 : slotO e2 i with
      | none =>
        rw [h1] at p2
        exact p2.elim
      | some p3 =>
        obtain ⟨b1, d1⟩ := p3
        rw [h1] at p2
        obtain ⟨y', g1, g2, g3⟩ := c2.own (slotO_own h1)
        rw [r2] at g2
        cases g2
        cases hp : oDPut d1 yd vd with
        | none =>
          simp only [hp] at p2
          exact p2.elim
        | some d' =>
          simp only [hp] at p2
          obtain ⟨o, k1, k2⟩ := own_put g3 ry (rv.mono m2.same) hp
          exact ⟨y, _, rfl, k1, p2 G2 _ _ (Mono.chg g1 (c2.hid i y g1)) (c2.chg g1 (slotO_own h1) k2)⟩⟩
end
end Vl
set_option Elab.async false
set_option linter.all false
set_option maxRecDepth 100000
set_option maxHeartbeats 2000000
namespace Vl
open PySem PySem.Spec PyProof.Rows L2 Sb
section
variable {X : Cx} {B : Bs} {Z : ZX} {a b e o : Expr} {es : List Expr} {pos xpos apos spos cpos : Pos} {f g h : Ev D} {x : Str} {i : Nat}
theorem lift_dinB {neg : Bool} (σ : L2.St) (H : Hp) (Q : Bool → Hp → Prop) (h : liftT X.K B Z (fB (fDInO neg i f)) σ H Q) : liftE X.K B Z f σ H fun y H1 => tVar i σ H1 fun x H2 => ∃ a o, x = .ref a ∧ DGet H2 a y o ∧ ∃ k, V.bl (if neg then !o.isSome else o.isSome) = .bl k ∧ Q k H2 := by
  obtain ⟨G, env, c, q⟩ := h
  have := lift_dinO (Z := Z) (neg := neg) (i := i) (f := f) σ H (fun v H' => ∃ k, v = .bl k ∧ Q k H') ⟨G, env, c, post_imp (post_bind q) fun d e1 G1 H1 m1 c1 p1 v rv => by
    cases d with
    | bl k => exact ⟨k, rv.blE, p1 G1 H1 Mono.refl c1⟩
    | _ => exact p1.elim⟩
  exact this
theorem dt_dinO (hu : X.A.units + 65 < cLine) (hN : X.N[i]? = some x) (hv : Vis X.env.scope x) (hi : DE X B Z a f) (hd : (x == ("__debug__" : Str)) = false := by decide) (hcd : (x == ("__classdict__" : Str)) = false := by decide) (hm : behindInMarks .In (.Name x xpos) = false := by rfl) :
    DT X B Z (.Compare a [.In] [.Name x xpos] pos) (fB (fDInO false i f)) :=
  ⟨PT.weak (pt_cmp (pc_din (by omega) hi.pe (pe_var hN hv hd hcd)) hm) fun σ H Q h => lift_dinB (neg := false) σ H Q h⟩
def fDNewK : Ev D := fun env => .val (.dk [] []) env
def fPop (i : Nat) : Ev D := fun env => match slotL env i with
  | some (b, l) => (match l[l.length - 1]? with
    | some d => .val d (env.set i (own b (.lst l.dropLast)))
    | none => .stuck)
  | none => .stuck
theorem Rps.dropLast {K : PySem.W.Frag} {ct : Ct} {F : Hp} {vs : List V} {l : List D} (h : Rps K ct F vs l) : Rps K ct F vs.dropLast l.dropLast := by
  rw [List.dropLast_eq_take, List.dropLast_eq_take, h.len]
  exact h.take _
end
end Vl
set_option Elab.async false
set_option linter.all false
set_option maxRecDepth 100000
set_option maxHeartbeats 2000000
namespace Sb
open PySem PySem.Spec PyProof.Rows L2
section
variable {X : Cx} {CX : CXT} {k : Nat} {C f : Addr} {fd : FuncData} {ps : List Str} {sp : Sp} {E : XK}
/-- str(x) by an own __str__ -/
def rStrOwn (C : Addr) (sp : Sp) (E : XK) : List V → Hp → VK → Prop := fun xs H Q => ∃ (a dx : Addr) (fs : List (Str × V)), xs = [.ref a] ∧ H a = some (.ins C dx fs) ∧ sp [.ref a] H (fun v H' => ∃ z : Str, v = .str z ∧ Q (.str z) H') E
end
/-- the text of a part, of a row, of a machine, of an end -/
def plT : Pl → Str
  | .num n => Str.ofString (toString (n : Int))
  | .word s => s
def rowT (r : Row) : Str := ((((Str.empty ++ Str.ofString (toString (r.put : Int))) ++ (" " : Str)) ++ plT r.a) ++ (" " : Str)) ++ plT r.b
def machT (rs : List Row) : Str := Txt.join (", " : Str) (rs.map rowT)
def endT (hs ss : List Row) : Str := ((Str.empty ++ machT hs) ++ (" | " : Str)) ++ machT ss
def smallPl : Pl → Prop
  | .num n => n ≤ 1000
  | .word s => okWord s
def smallRow (r : Row) : Prop := r.put ≤ 1000 ∧ smallPl r.a ∧ smallPl r.b
theorem num_len {n : Nat} (h : n ≤ 1000) : (Str.ofString (toString (n : Int))).length ≤ 10 := by
  have key : ∀ m : Fin 1001, (Str.ofString (toString ((m.val : Nat) : Int))).length ≤ 10 := by decide +kernel
  exact key ⟨n, by omega⟩
theorem num_log {n : Nat} (h : n ≤ 1000) : ((n : Int)).natAbs.log2 < 1920 := Nat.lt_of_le_of_lt (Nat.log2_le_self _) (by omega)
theorem plT_len {p : Pl} (h : smallPl p) : (plT p).length ≤ 10 := by
  cases p with
  | num n => exact num_len h
  | word s => rcases okWord_cases h with rfl | rfl | rfl | rfl <;> decide +kernel
theorem rowT_len {r : Row} (h : smallRow r) : (rowT r).length ≤ 32 := by
  have h1 := num_len h.1
  have h2 := plT_len h.2.1
  have h3 := plT_len h.2.2
  have e : (" " : Str).length = 1 := by decide +kernel
  have e0 : Str.empty.length = 0 := by decide +kernel
  unfold rowT
  rw [strLen_append, strLen_append, strLen_append, strLen_append, strLen_append, e, e0]
  omega
theorem smallPl_of {many : Nat} {ws : List Str} (hw : isWords ws) (hm : many ≤ 1000) {p : Pl} (h : p.Ok many ws) : smallPl p := by
  cases p with
  | num n => exact Nat.le_of_lt (Nat.lt_of_lt_of_le h hm)
  | word s => exact okPl_of hw h
theorem smallRow_of {many : Nat} {ws : List Str} (hw : isWords ws) (hm : many ≤ 1000) {r : Row} (h : r.Ok many ws) : smallRow r := ⟨by have := h.1; omega, smallPl_of hw hm h.2.1, smallPl_of hw hm h.2.2⟩
theorem machT_len {rs : List Row} (h : ∀ r, r ∈ rs → smallRow r) : ((rs.map rowT).map (·.length)).sum ≤ 32 * rs.length := by
  induction rs with
  | nil => simp
  | cons r rs ih =>
    have h1 := rowT_len (h r (by simp))
    have h2 := ih fun q hq => h q (by simp [hq])
    simp only [List.map_cons, List.sum_cons, List.length_cons]
    omega
theorem join_len (sep : Str) (xs : List Str) : (Txt.join sep xs).length ≤ (xs.map (·.length)).sum + xs.length * sep.length := by
  show (Builtin.Str.glued sep xs).length ≤ _
  rw [StrLaws.glued_eq_join]
  exact StrLaws.join_length_le sep xs
theorem machT_fits {rs : List Row} (h : ∀ r, r ∈ rs → smallRow r) (hn : rs.length ≤ 1000) : (machT rs).length ≤ 34000 := by
  have h1 := join_len (", " : Str) (rs.map rowT)
  have h2 := machT_len h
  have e : (", " : Str).length = 2 := by decide +kernel
  rw [e, List.length_map] at h1
  unfold machT
  omega
end Sb
set_option Elab.async false
set_option linter.all false
set_option maxRecDepth 100000
set_option maxHeartbeats 2000000
namespace Sb
open PySem PySem.Spec PyProof.Rows L2
/-- at it an iterator over the tuple at a, at its i-th place -/
def TiO (a it : Addr) (i : Nat) : HO := .ext fun h => h.IsTupleIter it a i
theorem tiO_ok {P : Program} {w : World} {H : Hp} {h : Heap} {a it : Addr} {i : Nat} (e : h.IsTupleIter it a i) : ObjOk P w H h it (TiO a it i) :=
  ⟨e, let ⟨o, z, _⟩ := e; ⟨o, z⟩, fun h1 h2 q k => q.at fun o z => k o z⟩
/-- iter(e), e a tuple -/
def rIterT (K : PySem.W.Frag) (n : Nat) : List V → Hp → VK → Prop := fun xs H Q => ∃ (a : Addr) (zs : List V), xs = [.ref a] ∧ SqT K H a zs ∧ ∀ it, H it = none → n ≤ it → Q (.ref it) (upd H it (TiO a it 0))
theorem call_iterT {X : Cx} : CallR X (.builtin "iter") (rIterT X.K X.s_0.heap.objs.size) := by
  intro pins s σ H xs us Q I r h
  obtain ⟨a, zs, rfl, hq, q⟩ := h
  obtain ⟨u, rfl, ru⟩ := vals1 r
  cases (show u = Value.ref a from ru)
  obtain ⟨its, rv, tp, hz⟩ := I.tuple hq
  refine Calls.call_function_entry (by decide +kernel) (by decide +kernel) PySem.W.kdk_entry_iter (PySem.W.kdk_args_iter _) ?_
  unfold Builtin.«iter»
  refine wpAny_bind (m := someArgs "iter" 1 2 _) (wpAny_of_eq (a := [Value.ref a]) (by first | rfl | kernel_rfl!) ?_)
  show wpAny _ _ (pyIter (.ref a) >>= _) _ _ _
  refine wpAny_bind (wpAny_pyIter_tuple tp (wpAny_pure ⟨_, rfl, ?_⟩))
  exact ⟨.ref s.heap.objs.size, _, I.laid (t' := s.toks) (fun b u e => Heap.get?_push_of_some _ e) (Nat.le_refl _) (tiO_ok ⟨_, Heap.get?_push_size _ rfl, rfl, rfl⟩), rfl, q _ (I.hok.fresh (Nat.le_refl _)) I.sz⟩
/-- what a def keeps, by the size of the heap it comes to -/
structure FnN (P : Program) (w : World) (K : PySem.W.Frag) (mg : Str → Option Value) (base : Heap) (CX : CXT) (k : Nat) (f : Addr) (fd : FuncData) (ps : List Str) (sp : Nat → Sp) : Prop where
  size : ∀ n xs H Q E, sp n xs H Q E → xs.length = ps.length
  go : ∀ (A : Around) (st : List Env) (s : Shared) (H : Hp) (args : Args) (us : List Value) (xs : List V) (Q : VK) (E : XK), Room k A → Env0 P w K mg base A st s H → BindsTo s fd args (ps.zip us) → Vals xs us → sp s.heap.objs.size xs H Q E →
    codeAny (model P w) A (.call (.ref f) args) (CR CX st P w H s Q E) s
theorem okN {P : Program} {w : World} {K : PySem.W.Frag} {mg : Str → Option Value} {base : Heap} {k : Nat} {f : Addr} {x qual : Str} {st : Stmt} {fd : FuncData} {N ps : List Str} {sp : Nat → Sp} (F : Fun K x qual st f fd) (Z : FnScope N ps (defScope st)) (size : ∀ n xs H Q E, sp n xs H Q E → xs.length = ps.length)
    (hb : ∀ (cdv : Value) (A : Around) (out : List Env) (s : Shared) (H : Hp) (xs : List V) (Q : VK) (E : XK), Room k (A.deeper (envOfC qual (defScope st) s.heap.objs.size f cdv)) → sp s.heap.objs.size xs H Q E →
      ∃ t, PSs (cxOf CX0 P w K mg base N qual (defScope st) f cdv A out s H E).nox (defBody st) t ∧ t { nx := fun _ H' => Q .non H', rt := Q } (start N xs) H) : FnN P w K mg base CX0 (k + 1) f fd ps sp := by
  obtain ⟨oc, od, kV, doc, pm, an, cdv, ct, osl, rfl, at_, cd_⟩ := F.ex
  refine ⟨size, fun A out s H args us xs Q E hr e0 bnd r hs => ?_⟩
  have hlen := size _ _ _ _ _ hs
  have inK : K.In s.heap := e0.mod.kin.keeps fun b o e => (e0.bs b o e).1
  have nol : s.heap.NoLimit := e0.mod.nolimit.keeps fun b o e => (e0.bs b o e).1
  refine codeAny_call_function hr.depth (inK _ _ at_) rfl Z.co Z.gen rfl (PySem.W.codeRec_of inK cd_) (bnd _ _ _ _ ?_)
  refine wpAny_newFunctionEnv_cells Z.kind (fun ⟨n, v⟩ hy => ?_) fun env he s1 x => ?_
  · rcases Z.par n (List.of_mem_zip hy).1 with q | q
    · exact .inl q
    · exact .inr ⟨q, PySem.W.cellsFrom_some _ _ _ (.inl q)⟩
  subst he
  refine ⟨nol.keeps x.toInCall.keep, codeAny_func ?_⟩
  obtain ⟨t, ht, hq⟩ := hb cdv A out s H xs Q E (hr.deeper _) hs
  have I : Inv (cxOf CX0 P w K mg base N qual (defScope st) f cdv A out s H E) [] (start N xs) H s1 := inv_start Z hr.hd e0 hlen r x
  refine wpAny_mono (ht.nox.run [] s1 (start N xs) H _ I hq) (fun fl s' z => ?_) fun e s' z => z
  match fl, z with
  | .ret u, ⟨v, σ', H', J, rv, q⟩ => exact ⟨v, H', J.os, J.bare, J.base, J.hok, rv, q⟩
  | .next, ⟨σ', H', J, q⟩ => exact ⟨V.non, H', J.os, J.bare, J.base, J.hok, rfl, q⟩
  | .brk, ⟨_, _, _, q⟩ => exact False.elim q
  | .cont, ⟨_, _, _, q⟩ => exact False.elim q
/-- x.__iter__(): an iterator over the tuple that one attribute holds -/
def spIterOf (K : PySem.W.Frag) (C : Addr) (fld : Str) : Nat → Sp := fun n vs H Q _ => ∃ (a dx t : Addr) (fs : List (Str × V)) (xs : List V), vs = [.ref a] ∧ H a = some (.ins C dx fs) ∧ fs.lookup fld = some (.ref t) ∧ SqT K H t xs ∧
  ∀ it, H it = none → n ≤ it → Q (.ref it) (upd H it (TiO t it 0))
/-- for x in e, e of an own class with such an __iter__ -/
def iOwn (K : PySem.W.Frag) (C : Addr) (fld : Str) (te : TE) : TI := fun σ H R => te σ H fun x H1 => ∃ (a dx t : Addr) (fs : List (Str × V)) (xs : List V), x = .ref a ∧ H1 a = some (.ins C dx fs) ∧ fs.lookup fld = some (.ref t) ∧ SqT K H1 t xs ∧ R (Itt K t) H1
theorem pi_own {X : Cx} {k : Nat} {C f : Addr} {fd : FuncData} {fld : Str} {tg e : Expr} {te : TE} (he : PE X e te) (M : Meth X.K C "__iter__" f) (F : FnN X.prog X.w X.K X.mg X.base CX0 k f fd ["self"] (spIterOf X.K C fld)) (hr : Room k X.A) (hb : Binds X.K fd ["self"] []) :
    PI X tg e (iOwn X.K C fld te) := by
  refine ⟨fun pins s σ H R I h => ?_⟩
  refine thn (he.run pins s σ H _ I h) fun u s1 ⟨x, H1, I1, r1, a, dx, t, fs, xs, ex, ea, el, et, q⟩ => ?_
  subst ex
  cases (show u = Value.ref a from r1)
  obtain ⟨mA, O, _⟩ := ins_get I1.hok ea
  obtain ⟨od, J, _⟩ := O.look
  obtain ⟨m, hF⟩ := I1.fr
  refine PySem.W.owit_iter hF I1.ok.mod.kin J M.at_ M.fn ?_
  have bnd := hb s1 [.ref a] I1.kIn rfl
  rw [List.append_nil] at bnd
  have run := F.go X.A X.stack s1 H1 ⟨[.ref a], []⟩ [.ref a] [.ref a] (fun v H2 => ∃ it, v = .ref it ∧ H1 it = none ∧ s1.heap.objs.size ≤ it ∧ H2 = upd H1 it (TiO t it 0)) E0 hr I1.env0 bnd (.cons rfl .nil)
    ⟨a, dx, t, fs, xs, rfl, ea, el, et, fun it n1 n2 => ⟨it, rfl, n1, n2, rfl⟩⟩
  refine wpAny_call (codeAny_mono run fun r s' hq => ?_)
  match r, hq with
  | .error er, hq => exact False.elim hq
  | .ok .next, hq => exact False.elim hq
  | .ok .brk, hq => exact False.elim hq
  | .ok .cont, hq => exact False.elim hq
  | .ok (.ret v), hq =>
    obtain ⟨v', H2, I2, rv, it, ev, n1, n2, eH⟩ := I1.after hq
    subst ev
    cases (show v = Value.ref it from rv)
    subst eH
    have st : s'.heap.IsTupleIter it t 0 := (I2.hok it _ upd_same).1
    show wpAny _ _ (specialOf (.ref it) "__next__") _ _ s'
    refine wpAny_specialOf st.typeIs PySem.F.slot_tuple_iterator_next.lookup ?_
    have Id := ItX.inv_drop I2 (φ := fun h => h.IsTupleIter it t 0) upd_same
    have fp := ItX.inv_fp I2 upd_same (Nat.le_trans I1.sz n2)
    rw [ItX.dropH_upd n1] at Id fp
    refine ⟨it, [it], _, Itt X.K t, H1, rfl, Id, turn_tuple t it, st, fun b hb => ?_, q⟩
    have e : b = it := by simpa using hb
    rw [e]
    exact fp
end Sb
set_option Elab.async false
set_option linter.all false
set_option maxRecDepth 100000
set_option maxHeartbeats 2000000
namespace Vl
open PySem PySem.Spec PyProof.Rows L2 Sb
/-- a def that raises nothing, as one that may -/
theorem _root_.Sb.FnG.up {P : Program} {w : World} {K : PySem.W.Frag} {mg : Str → Option Value} {base : Heap} {CX : CXT} {k : Nat} {f : Addr} {fd : FuncData} {ps : List Str} {sp : Sp} (F : FnG P w K mg base CX0 k f fd ps sp) : FnG P w K mg base CX k f fd ps sp := by
  refine ⟨F.size, fun A st s H args us xs Q E hg hr he hb hv hs => codeAny_mono (F.go A st s H args us xs Q E hg hr he hb hv hs) fun r s' h => ?_⟩
  match r, h with
  | .error e, h => exact h.elim
  | .ok (.ret u), h => exact h
  | .ok .next, h => exact h
  | .ok .brk, h => exact h
  | .ok .cont, h => exact h
theorem _root_.Sb.FnG.mono {P : Program} {w : World} {K : PySem.W.Frag} {mg : Str → Option Value} {base : Heap} {CX : CXT} {j k : Nat} {f : Addr} {fd : FuncData} {ps : List Str} {sp : Sp} (F : FnG P w K mg base CX j f fd ps sp) (h : j ≤ k) : FnG P w K mg base CX k f fd ps sp :=
  ⟨F.size, fun A st s H args us xs Q E hg hr => F.go A st s H args us xs Q E hg (hr.mono h)⟩
section
variable {K : PySem.W.Frag} {ct : Ct} {S : Addr → Prop} {H : Hp} {vs : List V} {ds : List D} {m : List Bool} {Φ : List D → Res} {Q : VK} {E : XK}
theorem args0 (live : ∀ a, S a → H a ≠ none) (hm : ds.map (fun _ => false) = m) (rd : Rps K ct (off S H) vs ds) : ArgsOk K ct S (fun _ => none) m vs ds H := by
  refine ⟨by rw [rd.len, ← hm]; simp, by rw [← hm]; simp, fun j v d h1 h2 h3 => ?_, fun j v d h1 h2 h3 => ?_, fun _ _ z => (by cases z), fun _ _ z => (by cases z), fun _ _ _ z => (by cases z), live⟩
  · obtain ⟨d', g1, g2⟩ := rd.get h2
    rw [h3] at g1
    cases g1
    exact g2
  · rw [← hm, List.getElem?_map] at h1
    cases e : ds[j]? with
    | none =>
      rw [e] at h1
      cases h1
    | some x =>
      rw [e] at h1
      cases h1
theorem Frame.all {S' : Addr → Prop} {H' : Hp} {ns : List D} (fr : Frame K ct S S (fun _ => none) H H' ns) : Same H H' := fun b o h => by
  by_cases hs : S b
  · rw [fr.hold b hs fun _ z => by cases z]
    exact h
  · have := fr.same b o (by rw [off_at hs]; exact h)
    exact (off_inv this).2
/-- a def called by shared values, and its value -/
theorem spV_use (live : ∀ a, S a → H a ≠ none) (hm : ds.map (fun _ => false) = m) (rd : Rps K ct (off S H) vs ds) {r : D} {nw : Bool} {ns : List D} (e : Φ ds = .ret nw r ns) (hq : ∀ v H', Same H H' → Rp K ct (off S H') v r → Q v H') : spV K ct m Φ vs H Q E := by
  refine ⟨S, fun _ => none, ds, args0 live hm rd, ?_⟩
  rw [e]
  cases nw with
  | false =>
    intro v H' fr rv
    have s : Same H H' := Frame.all (S' := S) fr
    exact hq v H' s rv
  | true =>
    intro a H' ha fr ho
    have s : Same H H' := Frame.all (S' := S) fr.bare
    exact hq _ H' s ((ho.mono rfl off_more).rp (off_at fun z => live a z ha))
end
/-- what the value of a call is, where nothing is changed and nothing raised -/
def Res.val : Res → Option D
  | .ret _ r _ => some r
  | _ => none
theorem Res.val_ret {r : Res} {d : D} (h : r.val = some d) : ∃ nw ns, r = .ret nw d ns := by
  cases r with
  | ret nw r ns =>
    cases h
    exact ⟨_, _, rfl⟩
  | _ => cases h
/-- facts of an own class, as it is asked by isinstance -/
structure OwC (K : PySem.W.Frag) (C : Addr) : Prop where
  cl : Cls K C
  i : (PySem.W.clsIn K C).isSome = true
  t : PySem.W.typeIn K (.ref C) = some (.type "type")
  u : PySem.W.findIn K (.ref C) "__class__" = some (some (.builtin "object.__class__"))
  g : PySem.W.specialIn K (.builtin "object.__class__") "__get__" = some (some (.builtin "getset_descriptor.__get__"))
  k : PySem.W.takesIn K (.builtin "object.__class__") = some true
  m : PySem.W.mroIn K C (.type "object") = some true
theorem kit_self {K : PySem.W.Frag} {C : Addr} : PySem.W.kitOne K (.ref C) (.ref C) = some true := by
  unfold PySem.W.kitOne
  rw [if_pos (by simp)]
theorem kit_other {K : PySem.W.Frag} {C : Addr} (c : OwC K C) {n : String} {l : List Value} (e : fastBuiltinMro n = some l) (h : l.contains (.ref C) = false) : PySem.W.kitOne K (.type n) (.ref C) = some false := by
  unfold PySem.W.kitOne
  rw [if_neg (by intro z; cases z)]
  unfold PySem.W.kitCls
  dsimp only
  rw [if_pos (by rw [c.i, c.t]; rfl)]
  show (fastBuiltinMro n).map (·.contains (.ref C)) = some false
  rw [e]
  simpa using h
theorem ty_mro (t : Ty) (C : Addr) : ∃ l, fastBuiltinMro t.nm = some l ∧ l.contains (.ref C) = false := by
  cases t <;> exact ⟨_, rfl, rfl⟩
section
variable {X : Cx} {CX : CXT} {k : Nat} {C f : Addr} {fd : FuncData} {ps : List Str} {sp : Sp} {E : XK}
theorem run_in1G {pins : List (Addr × Obj)} {σ : L2.St} {H : Hp} {s : Shared} {Q : VK} {us : List Value} {vs : List V} (F : FnG X.prog X.w X.K X.mg X.base CX k f fd ps sp) (hgd : X.A.guards = some []) (hr : Room (k + 1) X.A) (hb : Binds X.K fd ps []) (hx : Passes CX X E)
    (I : Inv X pins σ H s) (r : Vals vs us) (h : sp vs H Q E) : wpAny (model X.prog X.w) X.A.in1 (call (.ref f) us) (EP X pins σ Q) X.xe s := by
  have hl : us.length = ps.length := by
    rw [← r.length]
    exact F.size _ _ _ _ h
  have bnd := hb s us I.kIn (by rw [List.append_nil]; exact hl)
  rw [List.append_nil] at bnd
  have run := F.go X.A.in1 X.stack s H ⟨us, []⟩ us vs Q E hgd hr.in1 I.env0.in1 bnd r h
  refine wpAny_call (codeAny_mono run fun q s' hq => ?_)
  match q, hq with
  | .error er, hq => exact hx pins σ H s er s' I hq
  | .ok (.ret u), hq => exact I.after hq
  | .ok .next, hq => exact False.elim hq
  | .ok .brk, hq => exact False.elim hq
  | .ok .cont, hq => exact False.elim hq
theorem run_in2G {pins : List (Addr × Obj)} {σ : L2.St} {H : Hp} {s : Shared} {Q : VK} {us : List Value} {vs : List V} (F : FnG X.prog X.w X.K X.mg X.base CX k f fd ps sp) (hgd : X.A.guards = some []) (hr : Room (k + 2) X.A) (hb : Binds X.K fd ps []) (hx : Passes CX X E)
    (I : Inv X pins σ H s) (r : Vals vs us) (h : sp vs H Q E) : wpAny (model X.prog X.w) X.A.in1.in1 (call (.ref f) us) (EP X pins σ Q) X.xe s := by
  have hl : us.length = ps.length := by
    rw [← r.length]
    exact F.size _ _ _ _ h
  have bnd := hb s us I.kIn (by rw [List.append_nil]; exact hl)
  rw [List.append_nil] at bnd
  have run := F.go X.A.in1.in1 X.stack s H ⟨us, []⟩ us vs Q E hgd hr.in1.in1 I.env0.in1.in1 bnd r h
  refine wpAny_call (codeAny_mono run fun q s' hq => ?_)
  match q, hq with
  | .error er, hq => exact hx pins σ H s er s' I hq
  | .ok (.ret u), hq => exact I.after hq
  | .ok .next, hq => exact False.elim hq
  | .ok .brk, hq => exact False.elim hq
  | .ok .cont, hq => exact False.elim hq
theorem op_eqG (M : Meth X.K C "__eq__" f) (F : FnG X.prog X.w X.K X.mg X.base CX k f fd ps sp) (hgd : X.A.guards = some []) (hr : Room k X.A) (hb : Binds X.K fd ps []) (hx : Passes CX X E) : OpR X (compareOp .Eq) (rEqOwn X.K C sp E) := by
  intro pins s σ H x y v u Q I rx ry h
  obtain ⟨a, dx, fs, t, rfl, ha, ty, nf, hsp⟩ := h
  have ru := ry
  obtain ⟨P, Z, p, _⟩ := kit_of I ry ty
  cases (show v = Value.ref a from rx)
  obtain ⟨mA, O, _⟩ := ins_get I.hok ha
  obtain ⟨od, J, _⟩ := O.look
  obtain ⟨m, hF⟩ := I.fr
  show wpAny (model X.prog X.w) X.A (richCompare .Eq (.ref a) u) (EP X pins σ Q) X.xe s
  refine PySem.W.cmp_K (op := .Eq) (tb := t) hr.units0 hF I.ok.mod.kin J (Z.ty _ _ I.kIn p) nf M.at_ M.fn ?_
  refine wpAny_mono (run_fnG (Q := fun v H' => ∃ b, v = .bl b ∧ Q (.bl b) H') (us := [.ref a, u]) (vs := [.ref a, y]) (ds := []) (dvs := []) F hgd hr hb .nil hx I (.cons rfl (.cons ru .nil)) (by rw [List.append_nil]; exact hsp)) (fun w s' z => ?_) fun _ _ q => q
  obtain ⟨v', H', I', rv, b, eb, q⟩ := z
  subst eb
  cases (show w = Value.bool b from rv)
  exact ⟨.bl b, H', I', rfl, q⟩
theorem op_notInG (M : Meth X.K C "__contains__" f) (F : FnG X.prog X.w X.K X.mg X.base CX k f fd ps sp) (hgd : X.A.guards = some []) (hr : Room k X.A) (hb : Binds X.K fd ps []) (hx : Passes CX X E) : OpR X (compareOp .NotIn) (rInOwn true C sp E) := by
  intro pins s σ H y x u v Q I ry rx h
  obtain ⟨a, dx, fs, rfl, ha, hsp⟩ := h
  have ru := ry
  cases (show v = Value.ref a from rx)
  obtain ⟨mA, O, _⟩ := ins_get I.hok ha
  obtain ⟨od, J, _⟩ := O.look
  obtain ⟨m, hF⟩ := I.fr
  refine PySem.W.notIn_K hF I.ok.mod.kin J M.at_ M.fn ?_
  refine wpAny_mono (run_fnG (Q := fun v H' => ∃ b, v = .bl b ∧ Q (.bl (if true then !b else b)) H') (us := [.ref a, u]) (vs := [.ref a, y]) (ds := []) (dvs := []) F hgd hr hb .nil hx I (.cons rfl (.cons ru .nil)) (by rw [List.append_nil]; exact hsp)) (fun w s' z => ?_) fun _ _ q => q
  obtain ⟨v', H', I', rv, b, eb, q⟩ := z
  subst eb
  cases (show w = Value.bool b from rv)
  exact wpAny_pure ⟨.bl (!b), H', I', rfl, q⟩
theorem call_lenG (M : Meth X.K C "__len__" f) (F : FnG X.prog X.w X.K X.mg X.base CX k f fd ps sp) (hgd : X.A.guards = some []) (hr : Room (k + 1) X.A) (hb : Binds X.K fd ps []) (hx : Passes CX X E) : CallR X (.builtin "len") (rLenOwn C sp E) := by
  intro pins s σ H xs us Q I r h
  obtain ⟨a, dx, fs, rfl, ha, hsp⟩ := h
  obtain ⟨u, rfl, rx⟩ := vals1 r
  cases (show u = Value.ref a from rx)
  obtain ⟨mA, O, _⟩ := ins_get I.hok ha
  obtain ⟨od, J, _⟩ := O.look
  obtain ⟨m, hF⟩ := I.fr
  refine PySem.W.len_K hF I.ok.mod.kin J M.at_ M.fn (wpAny_mono (run_in1G (us := [.ref a]) (vs := [.ref a]) F hgd hr hb hx I (.cons rfl .nil) hsp) (fun w s' z => ?_) fun _ _ q => q)
  obtain ⟨v', H', I', rv, n, en, h0, h1, q⟩ := z
  subst en
  obtain ⟨tk, e⟩ := (show ∃ t, w = Value.int n t from rv)
  subst e
  exact ⟨⟨h0, h1⟩, .int n, H', I'.tok _, ⟨_, rfl⟩, q⟩
theorem call_strG (M : Meth X.K C "__str__" f) (F : FnG X.prog X.w X.K X.mg X.base CX k f fd ps sp) (hgd : X.A.guards = some []) (hr : Room (k + 2) X.A) (hb : Binds X.K fd ps []) (hx : Passes CX X E) : CallR X (.type "str") (rStrOwn C sp E) := by
  intro pins s σ H xs us Q I r h
  obtain ⟨a, dx, fs, rfl, ha, hsp⟩ := h
  obtain ⟨u, rfl, rx⟩ := vals1 r
  cases (show u = Value.ref a from rx)
  obtain ⟨mA, O, _⟩ := ins_get I.hok ha
  obtain ⟨od, J, _⟩ := O.look
  refine PySem.W.kso_call hr.in1.in1.units0 I.kIn J M.at_ M.fn (wpAny_mono (run_in2G (us := [.ref a]) (vs := [.ref a]) F hgd hr hb hx I (.cons rfl .nil) hsp) (fun w s' z => ?_) fun _ _ q => q)
  obtain ⟨v', H', I', rv, y, ey, q⟩ := z
  subst ey
  obtain ⟨tk, e⟩ := (show ∃ t, w = Value.str y t from rv)
  subst e
  exact ⟨.str y, H', I', ⟨_, rfl⟩, q⟩
end
def D.isOb (c : Str) : D → Bool
  | .ob c' _ => decide (c' = c)
  | _ => false
def bOf (b : Bool) : Option D → Option D
  | some (.bl x) => some (.bl (if b then !x else x))
  | _ => none
def sOf : Option D → Option D
  | some (.str x) => some (.str x)
  | _ => none
theorem isOb_ob {c : Str} {d : D} (h : d.isOb c = true) : ∃ l, d = .ob c l := by
  unfold D.isOb at h
  split at h
  · rename_i c' l
    have := of_decide_eq_true h
    subst this
    exact ⟨l, rfl⟩
  · cases h
theorem bOf_some {b : Bool} {o : Option D} {z : D} (h : bOf b o = some z) : ∃ x, o = some (.bl x) ∧ z = .bl (if b then !x else x) := by
  unfold bOf at h
  split at h
  · cases h
    exact ⟨_, rfl, rfl⟩
  · cases h
theorem sOf_some {o : Option D} {z : D} (h : sOf o = some z) : ∃ x, o = some (.str x) ∧ z = .str x := by
  unfold sOf at h
  split at h
  · cases h
    exact ⟨_, rfl, rfl⟩
  · cases h
def oEqOwn (c : Str) (Φ : List D → Res) (d e : D) : Option D := if d.isOb c && (e.ty.isSome || e.isOb c) then bOf false (Φ [d, e]).val else none
def oInOwn (c : Str) (neg : Bool) (Φ : List D → Res) (e d : D) : Option D := if d.isOb c then bOf neg (Φ [d, e]).val else none
def oStrOwn (c : Str) (Φ : List D → Res) (d : D) : Option D := if d.isOb c then sOf (Φ [d]).val else none
def oLenOwn (c : Str) (Φ : List D → Res) (d : D) : Option D := if d.isOb c then (match (Φ [d]).val with
  | some (.int n) => if 0 ≤ n ∧ sm62 n = true then some (.int n) else none
  | _ => none) else none
def oIsO (c : Str) (d : D) : Option D := if d.isOb c then some (.bl true) else if d.ty.isSome then some (.bl false) else none
section
variable {X : Cx} {ct : Ct} {c : Str} {C : Addr} {ns : List Str} {Φ : List D → Res} {E : XK}
theorem tyx_of {K : PySem.W.Frag} {S : Addr → Prop} {H : Hp} {v : V} {d : D} (o : OwC K C) (hct : ct c = some (C, ns)) (r : Rp K ct (off S H) v d) (h : (d.ty.isSome || d.isOb c) = true) :
    (d.isOb c = true ∧ TyX K H v (.ref C)) ∨ ∃ t : Ty, d.isOb c = false ∧ TyX K H v (.type t.nm) := by
  cases e : d.isOb c with
  | true =>
    obtain ⟨l, rfl⟩ := isOb_ob e
    obtain ⟨a, C', dx, ns', vs, rfl, h1, h2, h3, h4⟩ := r.obE
    rw [hct] at h1
    cases h1
    exact .inl ⟨rfl, .base (.ins (off_le _ _ h3) o.cl o.u o.g o.k o.m)⟩
  | false =>
    rw [e, Bool.or_false] at h
    obtain ⟨t, ht⟩ := Option.isSome_iff_exists.mp h
    exact .inr ⟨t, rfl, r.tyx ht⟩
theorem opv_eqOwn (o : OwC X.K C) (hct : ct c = some (C, ns)) : OpV X.K ct (rEqOwn X.K C (spV X.K ct [false, false] Φ) E) (oEqOwn c Φ) := by
  intro S H x y d e z Q live rx ry ho hq
  unfold oEqOwn at ho
  split at ho
  · rename_i hc
    rw [Bool.and_eq_true] at hc
    obtain ⟨b, hb, rfl⟩ := bOf_some ho
    obtain ⟨nw, nl, hr⟩ := Res.val_ret hb
    have fin : spV X.K ct [false, false] Φ [x, y] H (fun v H' => ∃ b, v = .bl b ∧ Q (.bl b) H') E := spV_use live rfl (.cons rx (.one ry)) hr fun v H' s rv => ⟨b, rv.blE, hq _ H' s (.bl _)⟩
    obtain ⟨l, rfl⟩ := isOb_ob hc.1
    obtain ⟨a, C', dx, ns', vs, rfl, h1, h2, h3, h4⟩ := rx.obE
    rw [hct] at h1
    cases h1
    rcases tyx_of o hct ry hc.2 with ⟨_, ty⟩ | ⟨t, _, ty⟩
    · exact ⟨a, dx, _, _, rfl, off_le _ _ h3, ty, first_self, fin⟩
    · obtain ⟨l', e1, e2⟩ := ty_mro t C
      exact ⟨a, dx, _, _, rfl, off_le _ _ h3, ty, not_first e1 e2, fin⟩
  · cases ho
theorem opv_inOwn {neg : Bool} (hct : ct c = some (C, ns)) : OpV X.K ct (rInOwn neg C (spV X.K ct [false, false] Φ) E) (oInOwn c neg Φ) := by
  intro S H x y d e z Q live rx ry ho hq
  unfold oInOwn at ho
  split at ho
  · rename_i hc
    obtain ⟨b, hb, rfl⟩ := bOf_some ho
    obtain ⟨nw, nl, hr⟩ := Res.val_ret hb
    obtain ⟨l, rfl⟩ := isOb_ob hc
    have fin : spV X.K ct [false, false] Φ [y, x] H (fun v H' => ∃ b, v = .bl b ∧ Q (.bl (if neg then !b else b)) H') E := spV_use live rfl (.cons ry (.one rx)) hr fun v H' s rv => ⟨b, rv.blE, hq _ H' s (.bl _)⟩
    obtain ⟨a, C', dx, ns', vs, rfl, h1, h2, h3, h4⟩ := ry.obE
    rw [hct] at h1
    cases h1
    exact ⟨a, dx, _, rfl, off_le _ _ h3, fin⟩
  · cases ho
theorem cv_strOwn (hct : ct c = some (C, ns)) : CallV X.K ct (rStrOwn C (spV X.K ct [false] Φ) E) (o1 (oStrOwn c Φ)) := cv1 fun S H x d z Q live rx ho hq => by
  unfold oStrOwn at ho
  split at ho
  · rename_i hc
    obtain ⟨b, hb, rfl⟩ := sOf_some ho
    obtain ⟨nw, nl, hr⟩ := Res.val_ret hb
    obtain ⟨l, rfl⟩ := isOb_ob hc
    have fin : spV X.K ct [false] Φ [x] H (fun v H' => ∃ b, v = .str b ∧ Q (.str b) H') E := spV_use live rfl (.one rx) hr fun v H' s rv => ⟨b, rv.strE, hq _ H' s (.str _)⟩
    obtain ⟨a, C', dx, ns', vs, rfl, h1, h2, h3, h4⟩ := rx.obE
    rw [hct] at h1
    cases h1
    exact ⟨a, dx, _, rfl, off_le _ _ h3, fin⟩
  · cases ho
theorem cv_lenOwn (hct : ct c = some (C, ns)) : CallV X.K ct (rLenOwn C (spV X.K ct [false] Φ) E) (o1 (oLenOwn c Φ)) := cv1 fun S H x d z Q live rx ho hq => by
  unfold oLenOwn at ho
  split at ho
  · rename_i hc
    split at ho
    · rename_i n hb
      split at ho
      · rename_i hn
        cases ho
        obtain ⟨nw, nl, hr⟩ := Res.val_ret hb
        obtain ⟨l, rfl⟩ := isOb_ob hc
        have fin : spV X.K ct [false] Φ [x] H (fun v H' => ∃ n : Int, v = .int n ∧ 0 ≤ n ∧ n < 2 ^ 63 ∧ Q (.int n) H') E := spV_use live rfl (.one rx) hr fun v H' s rv => ⟨n, rv.intE, hn.1, by have := (sm62_ok hn.2).2; omega, hq _ H' s (.int _)⟩
        obtain ⟨a, C', dx, ns', vs, rfl, h1, h2, h3, h4⟩ := rx.obE
        rw [hct] at h1
        cases h1
        exact ⟨a, dx, _, rfl, off_le _ _ h3, fin⟩
      · cases ho
    · cases ho
  · cases ho
variable {B : Bs} {Z : ZX} {e : Expr} {f : Ev D} {pos px pc : Pos} {x : Str}
theorem de_isO (o : OwC X.K C) (hct : B.ct c = some (C, ns)) (hm : X.mg "isinstance" = none) (hg : Gl X "isinstance") (he : DE X B Z e f) (hgC : Gl X x) (hmC : X.mg x = some (.ref C)) (hdb : (x == ("__debug__" : Str)) = false := by decide)
    (hs : starEach [e, .Name x pc] X.env = (false, eval e X.env) :: starEach [.Name x pc] X.env := by rfl) (hs2 : starEach (.Name x pc :: []) X.env = (false, eval (.Name x pc) X.env) :: starEach [] X.env := by rfl)
    (hpl : (backTo pos (starEach [.Name x pc] X.env)).any (·.1) = false := by rfl) : DE X B Z (.Call (.Name "isinstance" px) [e, .Name x pc] [] pos) (fUn (oIsO c) f) :=
  ⟨PE.weak (pe_callB call_isi hg hm (by decide +kernel) (pa_cons he.pe (pa_cons (pe_glob (v := .ref C) hgC hmC rfl hdb) pa_nil hs2) hs) (by decide) (by decide) hs hpl) fun σ H Q ⟨G, env, cf, q⟩ => ⟨G, env, cf, post_imp (post_bind q) fun d e1 G1 H1 m1 c1 p1 v rv => by
    cases ho : oIsO c d with
    | none =>
      rw [ho] at p1
      exact p1.elim
    | some z =>
      rw [ho] at p1
      unfold oIsO at ho
      split at ho
      · rename_i hc
        cases ho
        rcases tyx_of o hct rv (by rw [hc, Bool.or_true]) with ⟨_, ty⟩ | ⟨t, h, _⟩
        · exact ⟨v, .ref C, _, _, _, rfl, .own _, ty, kit_self, p1 G1 H1 Mono.refl c1 _ (.bl _)⟩
        · rw [hc] at h
          cases h
      · rename_i hc
        split at ho
        · rename_i ht
          cases ho
          rcases tyx_of o hct rv (by rw [ht, Bool.true_or]) with ⟨h, _⟩ | ⟨t, _, ty⟩
          · exact absurd h hc
          · obtain ⟨l', e1, e2⟩ := ty_mro t C
            exact ⟨v, .ref C, _, _, _, rfl, .own _, ty, kit_other o e1 e2, p1 G1 H1 Mono.refl c1 _ (.bl _)⟩
        · cases ho⟩⟩
end
end Vl
set_option Elab.async false
set_option linter.all false
set_option maxRecDepth 100000
set_option maxHeartbeats 2000000
namespace Vl
open PySem PySem.Spec PyProof.Rows L2 Sb
/-- the address of a class -/
def cA (ct : Ct) (c : Str) : Addr := ((ct c).map (·.1)).getD 0
section
variable {P : Program} {w : World} {K : PySem.W.Frag} {mg : Str → Option Value} {base : Heap} {N : List Str} {qual : Str} {sc : Scope} {f : Addr} {cdv : Value} {A : Around} {out : List Env} {s : Shared} {H : Hp} {E : XK}
theorem tk_of : Takes (cxOf (L2.CX P w) P w K mg base N qual sc f cdv A out s H E) (fun cls d _ H => E cls d H) := takes_of rfl rfl rfl rfl
theorem pw_of : PassesOwn (model P w) (cxOf (L2.CX P w) P w K mg base N qual sc f cdv A out s H E).A (cxOf (L2.CX P w) P w K mg base N qual sc f cdv A out s H E).env (cxOf (L2.CX P w) P w K mg base N qual sc f cdv A out s H E).xe := passes_of (X := cxOf (L2.CX P w) P w K mg base N qual sc f cdv A out s H E) rfl
theorem ps_of : Passes (L2.CX P w) (cxOf (L2.CX P w) P w K mg base N qual sc f cdv A out s H E) E := passes_call tk_of (fun _ _ _ _ h => h)
end
/-- a constant of the module -/
def GC (K : PySem.W.Frag) (mg : Str → Option Value) (ct : Ct) (x : Str) (d : D) : Prop := ∃ v, (∃ u, mg x = some u ∧ RelV v u) ∧ ∀ F, Rp K ct F v d
section
variable {X : Cx} {B : Bs} {Z : ZX} {e o e2 : Expr} {es : List Expr} {pos pos' apos : Pos} {f g : Ev D} {x y c : Str} {d : D} {C : Addr}
theorem de_gc (h : GC X.K X.mg B.ct x d) (hg : Gl X x := by rfl) (hd : (x == ("__debug__" : Str)) = false := by decide) : DE X B Z (.Name x pos) (fC d) := by
  obtain ⟨v, h1, h2⟩ := h
  exact de_const (C8.pe_gc hg h1 hd) h2
/-- C.f, a constant of the class -/
theorem de_cval {v : V} (hm : X.mg x = some (.ref C)) (h : ∃ mc u, ClX.CRead X.K C mc ∧ ClX.CVal X.K C mc y v u) (r : ∀ F, Rp X.K B.ct F v d) (hg : Gl X x := by rfl) (hd : (x == ("__debug__" : Str)) = false := by decide)
    (hb : attributeBase (.Name x pos') y X.env (eval (.Name x pos') X.env) = eval (.Name x pos') X.env := by rfl) : DE X B Z (.Attribute (.Name x pos') y pos) (fC d) := by
  obtain ⟨mc, u, h1, h2⟩ := h
  exact ⟨PE.weak (ClX.pe_cval (pe_glob (v := .ref C) hg hm rfl hd) hb) fun σ H Q ⟨G, env, c, p⟩ => ⟨C, mc, v, u, rfl, h1, h2, p G H Mono.refl c v (r _)⟩⟩
def oFmt : D → Option D
  | .str y => if y.length ≤ sizeLine then some (.str y) else none
  | .int i => if i.natAbs.log2 < 1920 then some (.str (toString i)) else none
  | _ => none
def fFmt (f : Ev D) : Ev D := fun env => (f env).bind fun d e => Out.opt (oFmt d) e
theorem de_fmt (h : DE X B Z e f) : DE X B Z (.FormattedValue e (-1) none pos) (fFmt f) :=
  ⟨PE.weak (pe_fmt h.pe) fun σ H Q ⟨G, env, cf, q⟩ => ⟨G, env, cf, post_imp (post_bind q) fun d e1 G1 H1 m1 c1 p1 v rv => by
    cases ho : oFmt d with
    | none =>
      rw [ho] at p1
      exact p1.elim
    | some z =>
      rw [ho] at p1
      unfold oFmt at ho
      split at ho
      · split at ho
        · cases ho
          exact .inl ⟨_, rv.strE, by assumption, p1 G1 H1 Mono.refl c1 _ (.str _)⟩
        · cases ho
      · split at ho
        · cases ho
          exact .inr ⟨_, rv.intE, by assumption, p1 G1 H1 Mono.refl c1 _ (.str _)⟩
        · cases ho
      · cases ho⟩⟩
/-- the parts one behind the other -/
def fJs : List (Ev D) → Str → Ev D
  | [], acc, env => .val (.str acc) env
  | f :: fs, acc, env => (f env).bind fun d e => match d with
    | .str y => if (acc ++ y).length ≤ sizeLine then fJs fs (acc ++ y) e else .stuck
    | _ => .stuck
inductive DJ (X : Cx) (B : Bs) (Z : ZX) : List Expr → List (Ev D) → Prop where
  | nil : DJ X B Z [] []
  | cons {e : Expr} {f : Ev D} {es : List Expr} {fs : List (Ev D)} (h : DE X B Z e f) (r : DJ X B Z es fs) : DJ X B Z (e :: es) (f :: fs)
theorem DJ.pj {es : List Expr} {fs : List (Ev D)} (h : DJ X B Z es fs) : PJ X es (fs.map (liftE X.K B Z)) := by
  induction h with
  | nil => exact .nil
  | cons h r ih => exact .cons h.pe ih
theorem lift_js {σ : L2.St} : ∀ {fs : List (Ev D)} {acc : Str} {H : Hp} {Q : VK} {G : Gh} {env : List Slot}, Cfg X.K B G env σ H → postG X.K B Z G σ H (fJs fs acc env) (fun d _ G' H' => ∀ v, Rp X.K B.ct (off G'.S H') v d → Q v H') → tJs (fs.map (liftE X.K B Z)) acc σ H (fun out H1 => Q (.str out) H1)
  | [], acc, H, Q, G, env, c, q => q G H Mono.refl c _ (.str _)
  | f :: fs, acc, H, Q, G, env, c, q => by
    refine ⟨G, env, c, post_imp (post_bind q) fun d e1 G1 H1 m1 c1 p1 v rv => ?_⟩
    cases d with
    | str y =>
      simp only at p1
      by_cases hl : (acc ++ y).length ≤ sizeLine
      · rw [if_pos hl] at p1
        exact ⟨y, rv.strE, hl, lift_js c1 p1⟩
      · rw [if_neg hl] at p1
        exact p1.elim
    | _ => exact p1.elim
theorem de_joined {v1 v2 : Expr} {rest : List Expr} {fs : List (Ev D)} (h : DJ X B Z (v1 :: v2 :: rest) fs) : DE X B Z (.JoinedStr (v1 :: v2 :: rest) pos) (fJs fs Str.empty) :=
  ⟨PE.weak (pe_joined h.pj) fun σ H Q ⟨G, env, cf, q⟩ => lift_js cf q⟩
def fM0 (o : Str → Option D) (f : Ev D) : Ev D := fun env => (f env).bind fun d e => match d with
  | .str a => Out.opt (o a) e
  | _ => .stuck
def fM1 (o : Str → D → Option D) (f g : Ev D) : Ev D := fun env => (f env).bind fun d e => match d with
  | .str a => (g e).bind fun y e2 => Out.opt (o a y) e2
  | _ => .stuck
def M0V (K : PySem.W.Frag) (ct : Ct) (r : V → List V → Hp → VK → Prop) (o : Str → Option D) : Prop := ∀ (S : Addr → Prop) (H : Hp) (a : Str) (z : D) (Q : VK), (∀ a, S a → H a ≠ none) → o a = some z → (∀ v H', Same H H' → Rp K ct (off S H') v z → Q v H') → r (.str a) [] H Q
def M1V (K : PySem.W.Frag) (ct : Ct) (r : V → List V → Hp → VK → Prop) (o : Str → D → Option D) : Prop := ∀ (S : Addr → Prop) (H : Hp) (a : Str) (y : V) (d z : D) (Q : VK), (∀ a, S a → H a ≠ none) → Rp K ct (off S H) y d → o a d = some z → (∀ v H', Same H H' → Rp K ct (off S H') v z → Q v H') → r (.str a) [y] H Q
theorem lift_m0 {r : V → List V → Hp → VK → Prop} {m : Str → Option D} (ov : M0V X.K B.ct r m) (σ : L2.St) (H : Hp) (Q : VK) (h : liftE X.K B Z (fM0 m f) σ H Q) : tM0 r (liftE X.K B Z f) σ H Q := by
  obtain ⟨G, env, cf, q⟩ := h
  refine ⟨G, env, cf, post_imp (post_bind q) fun d e1 G1 H1 m1 c1 p1 v rv => ?_⟩
  cases d with
  | str a =>
    refine ⟨⟨_, rv.strE⟩, ?_⟩
    rw [rv.strE]
    simp only at p1
    cases ho : m a with
    | none =>
      rw [ho] at p1
      exact p1.elim
    | some z =>
      rw [ho] at p1
      exact ov G1.S H1 a z Q c1.live ho fun u H' s' ru => p1 G1 H' (c1.mono s') (c1.same s') u ru
  | _ => exact p1.elim
theorem lift_m1 {r : V → List V → Hp → VK → Prop} {m : Str → D → Option D} (ov : M1V X.K B.ct r m) (σ : L2.St) (H : Hp) (Q : VK) (h : liftE X.K B Z (fM1 m f g) σ H Q) : tM1 r (liftE X.K B Z f) (liftE X.K B Z g) σ H Q := by
  obtain ⟨G, env, cf, q⟩ := h
  refine ⟨G, env, cf, post_imp (post_bind q) fun d e1 G1 H1 m1 c1 p1 v rv => ?_⟩
  cases d with
  | str a =>
    refine ⟨⟨_, rv.strE⟩, G1, e1, c1, ?_⟩
    rw [rv.strE]
    simp only at p1
    refine post_imp (post_bind p1) fun d2 e2 G2 H2 m2 c2 p2 y ry => ?_
    cases ho : m a d2 with
    | none =>
      rw [ho] at p2
      exact p2.elim
    | some z =>
      rw [ho] at p2
      exact ov G2.S H2 a y d2 z Q c2.live ry ho fun u H' s' ru => p2 G2 H' (c2.mono s') (c2.same s') u ru
  | _ => exact p1.elim
theorem de_m0 {id : String} {name : Str} {r : V → List V → Hp → VK → Prop} {m : Str → Option D} (slot : PySem.Slot "str" name id) (ty : typeOf (.builtin id) = pure (.type "method_descriptor")) (rule : MtR X id r) (ov : M0V X.K B.ct r m) (ho : DE X B Z o f)
    (hbase : attributeBase o name X.env (eval o X.env) = eval o X.env := by rfl) (hline : (apos.endLine == pos.line) = true := by rfl) : DE X B Z (.Call (.Attribute o name apos) [] [] pos) (fM0 m f) :=
  ⟨PE.weak (pe_m0 slot ty rule ho.pe hbase hline) (lift_m0 ov)⟩
theorem de_m1 {id : String} {name : Str} {r : V → List V → Hp → VK → Prop} {m : Str → D → Option D} (slot : PySem.Slot "str" name id) (ty : typeOf (.builtin id) = pure (.type "method_descriptor")) (rule : MtR X id r) (ov : M1V X.K B.ct r m) (ho : DE X B Z o f) (he : DE X B Z e g)
    (hs : starEach [e] X.env = [(false, eval e X.env)] := by rfl) (hbase : attributeBase o name X.env (eval o X.env) = eval o X.env := by rfl) (hline : (apos.endLine == pos.line) = true := by rfl) : DE X B Z (.Call (.Attribute o name apos) [e] [] pos) (fM1 m f g) :=
  ⟨PE.weak (pe_m1 slot ty rule ho.pe he.pe hs hbase hline) (lift_m1 ov)⟩
/-- sep.join(xs) -/
def oJoin (a : Str) : D → Option D
  | .lst l => (strsOf l).bind fun ys => if (ys.map (·.length)).sum + ys.length * a.length ≤ 16777216 then some (.str (Txt.join a ys)) else none
  | _ => none
theorem mv_join : M1V X.K B.ct (fun x xs H Q => ∃ a p, ∃ ys : List Str, x = .str a ∧ xs = [.ref p] ∧ (SqL X.K H p (ys.map V.str) ∨ SqT X.K H p (ys.map V.str)) ∧ (ys.map (·.length)).sum + ys.length * a.length ≤ 16777216 ∧ Q (.str (Txt.join a ys)) H) oJoin := by
  intro S H a y d z Q live ry ho hq
  unfold oJoin at ho
  split at ho
  · rename_i l
    cases hs : strsOf l with
    | none =>
      rw [hs] at ho
      cases ho
    | some ys =>
      rw [hs] at ho
      simp only [Option.bind_some] at ho
      split at ho
      · cases ho
        obtain ⟨p, vs, rfl, h1, t1⟩ := ry.lstE
        have e := strs_v (X := X) t1 hs
        subst e
        exact ⟨a, p, ys, rfl, rfl, .inl (SqL.of (off_le _ _ h1)), by assumption, hq _ H (Same.refl _) (.str _)⟩
      · cases ho
  · cases ho
theorem de_join (ho : DE X B Z o f) (he : DE X B Z e g) (hs : starEach [e] X.env = [(false, eval e X.env)] := by rfl) (hbase : attributeBase o "join" X.env (eval o X.env) = eval o X.env := by rfl) (hline : (apos.endLine == pos.line) = true := by rfl) :
    DE X B Z (.Call (.Attribute o "join" apos) [e] [] pos) (fM1 oJoin f g) := de_m1 PySem.F.slot_str_join PySem.F.type_str_join mt_join mv_join ho he hs hbase hline
end
section
variable {X : Cx} {ct : Ct}
def rNotInT (K : PySem.W.Frag) : R2 := fun x y H Q => ∃ d ds, Dp K H x d ∧ Dp K H y (.tuple ds) ∧ SeqAt.shaped d = true ∧ SeqAt.shaped (.tuple ds) = true ∧ Q (.bl (!(ds.any fun z => PyData.eqv z d))) H
theorem op_notInT (hu : X.A.units + 66 < cLine) : OpR X (compareOp .NotIn) (rNotInT X.K) := by
  intro pins s σ H x y v u Q I rx ry h
  obtain ⟨d, ds, hd, he, sd, se, q⟩ := h
  obtain ⟨as, r1⟩ := Dp.reads I d x v hd rx
  obtain ⟨bs, r2⟩ := Dp.reads I (.tuple ds) y u he ry
  have dd : d.depth ≤ 64 := by
    have h' : (d.canLay0 && decide (d.depth ≤ 64)) = true := sd
    rw [Bool.and_eq_true] at h'
    exact of_decide_eq_true h'.2
  have cs : PyData.canLayAll0 ds = true := by
    have := SeqAt.canLay_of_shaped se
    simpa [PyData.canLay0] using this
  exact SeqAt.notIn_tuple_reads r2 r1 cs (SeqAt.canLay_of_shaped sd) (by have := Nat.min_le_right (PyData.depthAll ds) d.depth; omega) ⟨.bl _, H, I, rfl, q⟩
theorem opv_notInT : OpV X.K ct (rNotInT X.K) (oInT true) := by
  intro S H x y d e z Q live rx ry ho hq
  unfold oInT at ho
  split at ho <;> first | cases ho | skip
  all_goals
    rename_i l
    split at ho
    · rename_i c
      cases ho
      simp only [D.eok, Bool.and_eq_true] at c
      have h2 := (ry.mono off_le).dp c.2.1
      simp only [D.py] at h2 c
      refine ⟨_, D.pyAll l, (rx.mono off_le).dp c.1.1, h2, c.1.2, c.2.2, ?_⟩
      rw [any_py]
      exact hq _ H (Same.refl _) (.bl _)
    · cases ho
end
section
variable {X : Cx} {B : Bs} {Z : ZX} {a b e : Expr} {pos xpos apos cpos px : Pos} {f g : Ev D} {x : Str}
theorem dpop (i : Nat) (hN : X.N[i]? = some x := by rfl) (hv : Vis X.env.scope x := by first | exact Or.inl rfl | exact Or.inr (Or.inl rfl) | exact Or.inr (Or.inr rfl)) (hd : (x == ("__debug__" : Str)) = false := by decide) (hcd : (x == ("__classdict__" : Str)) = false := by decide)
    (hbase : attributeBase (.Name x xpos) "pop" X.env (eval (.Name x xpos) X.env) = eval (.Name x xpos) X.env := by rfl) (hline : (apos.endLine == cpos.line) = true := by rfl) : DE X B Z (.Call (.Attribute (.Name x xpos) "pop" apos) [] [] cpos) (fPop i) :=
  ⟨PE.weak (pe_bm0 PySem.F.plainAttrs_list PySem.F.slot_list_pop PySem.F.type_list_pop mt_pop (pe_var hN hv hd hcd) hbase hline) fun σ H Q ⟨G, env, c, q⟩ => by
    unfold fPop at q
    cases h0 : slotL env i with
    | none =>
      rw [h0] at q
      exact q.elim
    | some p0 =>
      obtain ⟨b0, l⟩ := p0
      rw [h0] at q
      simp only at q
      obtain ⟨a, r1, r2, vs, r3, r4⟩ := c.own (slotL_own h0)
      cases h1 : l[l.length - 1]? with
      | none =>
        rw [h1] at q
        exact q.elim
      | some d =>
        rw [h1] at q
        obtain ⟨v, g1, g2⟩ := r4.get' h1
        rw [← r4.len] at g1
        refine ⟨_, r2, .inl ⟨rfl, _, SqL.of r3⟩, a, vs, v, rfl, rfl, r3, g1, ?_⟩
        have m := Mono.chg (o := .lst vs.dropLast) r1 (c.hid i a r1) (H := H)
        exact q G _ m (c.chg r1 (slotL_own h0) ⟨vs.dropLast, upd_same, r4.dropLast⟩) v (g2.mono m.same)⟩
def fTruO (i : Nat) : Ev Bool := fun env => match slotO env i with
  | some (_, d) => Out.opt d.tru env
  | none => match env[i]? with
    | some (.sh d) => Out.opt d.tru env
    | _ => .stuck
theorem own_tru {S : Addr → Prop} {H : Hp} {p : Addr} {d : D} {k : Bool} (w : OwnAt X.K B.ct H (off S H) p d) (e : d.tru = some k) : TruV X.K (.ref p) H k := by
  cases d with
  | lst l =>
    obtain ⟨vs, h1, h2⟩ := w
    cases e
    exact .inl ⟨vs, SqL.of h1, by rw [h2.emp]⟩
  | dk ks l =>
    obtain ⟨vs, hl, h1, h2⟩ := w
    cases e
    exact .inr (.inr ⟨_, h1, by rw [zip_emp hl h2.len]⟩)
  | dt ks l => cases e
  | ob c l => cases e
  | nk ks l => cases e
  | _ => exact w.elim
theorem dt_truO (i : Nat) (hN : X.N[i]? = some x := by rfl) (hv : Vis X.env.scope x := by first | exact Or.inl rfl | exact Or.inr (Or.inl rfl) | exact Or.inr (Or.inr rfl)) (hd : (x == ("__debug__" : Str)) = false := by decide) (hcd : (x == ("__classdict__" : Str)) = false := by decide)
    (he : ∀ whole, isTrue (.Name x pos) X.env whole = (do let v ← whole; standAt (Expr.Name x pos).pos; holding [v] (truthy v)) := by intro _; rfl) : DT X B Z (.Name x pos) (fTruO i) :=
  ⟨PT.weak (pt_truth (pe_var hN hv hd hcd) he) fun σ H Q ⟨G, env, c, q⟩ => by
    unfold fTruO at q
    split at q
    · rename_i b d h0
      obtain ⟨a, r1, r2, r3⟩ := c.own (slotO_own h0)
      cases ho : d.tru with
      | none =>
        rw [ho] at q
        exact q.elim
      | some k =>
        rw [ho] at q
        exact ⟨_, r2, k, own_tru r3 ho, q G H Mono.refl c⟩
    · split at q
      · rename_i d hd
        obtain ⟨v, h1, h2⟩ := c.sh i d hd
        cases ho : d.tru with
        | none =>
          rw [ho] at q
          exact q.elim
        | some k =>
          rw [ho] at q
          exact ⟨v, h1, k, tru_v h2 ho, q G H Mono.refl c⟩
      · exact q.elim⟩
def keyD : Key → D
  | .inl i => .int i
  | .inr s => .str s
def fListD (i : Nat) : Ev D := fun env => match slotO env i with
  | some (_, .dk ks _) => .val (.lst (ks.map keyD)) env
  | _ => .stuck
theorem Rps.keys {K : PySem.W.Frag} {ct : Ct} {F : Hp} : ∀ {ks : List Key} {vs : List V}, ks.length = vs.length → Rps K ct F ((ks.zip vs).map fun kv => kV kv.1) (ks.map keyD)
  | [], [], _ => .nil
  | k :: ks, v :: vs, h => by
    refine .cons ?_ (Rps.keys (by simpa using h))
    cases k with
    | inl i => exact .int i
    | inr s => exact .str s
theorem dnlistD (i : Nat) (hc : X.calm = true := by rfl) (hm : X.mg "list" = none) (hg : Gl X "list" := by rfl) (hN : X.N[i]? = some x := by rfl) (hv : Vis X.env.scope x := by first | exact Or.inl rfl | exact Or.inr (Or.inl rfl) | exact Or.inr (Or.inr rfl)) (hd : (x == ("__debug__" : Str)) = false := by decide) (hcd : (x == ("__classdict__" : Str)) = false := by decide)
    (he : starEach [.Name x xpos] X.env = (false, eval (.Name x xpos) X.env) :: starEach [] X.env := by rfl) (hpl : (backTo pos (starEach [] X.env)).any (·.1) = false := by rfl) : DN X B Z (.Call (.Name "list" px) [.Name x xpos] [] pos) (fListD i) :=
  ⟨PE.weak (pe_callTy (call_list_dK hc) hg hm (by decide +kernel) (pa_cons (pe_var hN hv hd hcd) pa_nil he) (by decide) (by decide) he hpl) fun σ H Q ⟨G, env, c, q⟩ => by
    unfold fListD at q
    split at q
    · rename_i b ks l h0
      obtain ⟨a, r1, r2, vs, hl, r3, r4⟩ := c.own (slotO_own h0)
      refine ⟨_, r2, a, _, rfl, r3, fun p hp => ?_⟩
      exact put_new c hp hp (Rps.keys hl) q
    · exact q.elim⟩
def fDOne (f g : Ev D) : Ev D := fun env => (f env).bind fun k e1 => (g e1).bind fun d e2 => match keyOf k with
  | some y => .val (.dk [y] [d]) e2
  | none => .stuck
theorem dn_oneK (ha : DE X B Z a f) (hb : DE X B Z b g) : DN X B Z (.Dict [some a] [b] pos) (fDOne f g) :=
  ⟨PE.weak (pe_disp (pps_cons ha.pe hb.pe pps_nil) (by rfl) (by rfl) (fun z => by cases z) (by show 1 ≤ 15; omega)) fun σ H Q ⟨G, env, c, q⟩ p hp => by
    have c0 := c.hide (o := .dK []) hp
    have m0 := Mono.hide (o := .dK []) hp c.live
    have un : G.un p := c.newUn hp
    unfold fDOne at q
    refine ⟨G.hide p, env, c0, ?_⟩
    cases hf : f env with
    | stuck =>
      rw [hf] at q
      exact q.elim
    | exc cc as e1 =>
      rw [hf] at q
      exact fun G' H' dd m' c' x => q G' H' dd (m0.trans m') c' x
    | val k e1 =>
      rw [hf] at q
      intro G1 H1 m1 c1 kv rk
      refine ⟨G1, e1, c1, ?_⟩
      simp only [Out.bind] at q
      cases hg : g e1 with
      | stuck =>
        rw [hg] at q
        exact q.elim
      | exc cc as e2 =>
        rw [hg] at q
        exact fun G' H' dd m' c' x => q G' H' dd ((m0.trans m1).trans m') c' x
      | val d e2 =>
        rw [hg] at q
        intro G2 H2 m2 c2 v rv
        simp only at q
        cases hk : keyOf k with
        | none =>
          rw [hk] at q
          exact q.elim
        | some y =>
          rw [hk] at q
          have ek := keyOf_v rk hk
          obtain ⟨x1, x2, x3⟩ := m1.tmp p (.inr rfl) un
          obtain ⟨y1, y2, y3⟩ := m2.tmp p x1 x2
          have eH : H2 p = some (.dK []) := by rw [y3, x3, upd_same]
          refine ⟨eH, [(y, v)], by rw [ek]; rfl, (by show 1 ≤ 15; omega), ?_⟩
          have mm := ((m0.trans m1).trans m2).tmpUpd (o := .dK (mergeK [] [(y, v)])) y1 (c.unS hp)
          exact q G2 _ mm (c2.tmpUpd y1 y2) p hp y1 y2 ⟨[v], rfl, upd_same, .one (rv.mono (fun b u h => by
            obtain ⟨n, h⟩ := off_inv h
            rw [off_at n, upd_ne fun z => n (by rw [z]; exact y1)]
            exact h))⟩⟩
end
def oCatA : D → D → Option D
  | .tup l, .tup m => if l.length + m.length ≤ sizeLine then some (.tup (l ++ m)) else none
  | _, _ => none
section
variable (P : Program) (w : World) (K : PySem.W.Frag) (mg : Str → Option Value) (base : Heap)
/-- a def that may raise -/
structure VxX (k : Nat) (x : Str) (f : Addr) (fd : FuncData) (ps : List Str) (ct : Ct) (m : List Bool) (Φ : List D → Res) : Prop where
  ok : FnG P w K mg base (L2.CX P w) k f fd ps (spV K ct m Φ)
  mg : mg x = some (.ref f)
  kp : PySem.W.keepIn K (.ref f) = true
  bd : Binds K fd ps []
/-- a method of a class -/
structure Vm (CX : CXT) (k : Nat) (C : Addr) (n : Str) (f : Addr) (fd : FuncData) (ps : List Str) (ct : Ct) (m : List Bool) (Φ : List D → Res) : Prop where
  mt : Meth K C n f
  ok : FnG P w K mg base CX k f fd ps (spV K ct m Φ)
  bd : Binds K fd ps []
/-- a class with its __init__ -/
structure Vc (CX : CXT) (k : Nat) (x : Str) (C : Addr) (f : Addr) (fd : FuncData) (ps : List Str) (ct : Ct) (m : List Bool) (Φ : List D → Res) : Prop where
  mkC : Mk K C f
  ok : FnG P w K mg base CX k f fd ps (spV K ct m Φ)
  mg : mg x = some (.ref C)
  bd : Binds K fd ps []
end
theorem len_nil : ∀ env l e', fNil env = .val l e' → l.length = 0 := fun env l e' h => by
  cases h
  rfl
theorem len_cons {f : Ev D} {fs : Ev (List D)} {n : Nat} (h : ∀ env l e', fs env = .val l e' → l.length = n) : ∀ env l e', fCons f fs env = .val l e' → l.length = n + 1 := fun env l e' q => by
  unfold fCons at q
  cases h1 : f env with
  | val d e1 =>
    rw [h1] at q
    simp only [Out.bind] at q
    cases h2 : fs e1 with
    | val l2 e2 =>
      rw [h2] at q
      cases q
      rw [List.length_cons, h _ _ _ h2]
    | stuck =>
      rw [h2] at q
      cases q
    | exc c as e2 =>
      rw [h2] at q
      cases q
  | stuck =>
    rw [h1] at q
    cases q
  | exc c as e2 =>
    rw [h1] at q
    cases q
end Vl
set_option Elab.async false
set_option linter.all false
set_option maxRecDepth 100000
set_option maxHeartbeats 2000000
namespace Vl
open PySem PySem.Spec PyProof.Rows L2 Sb
def D.atom : D → Bool
  | .non | .bl _ | .int _ | .str _ => true
  | _ => false
/-- what can hold nothing of what was looked at -/
def flatR : Bool → D → Bool
  | true, .lst l => l.all D.atom
  | _, d => d.atom
theorem Rp.atom {K : PySem.W.Frag} {ct : Ct} {F F' : Hp} {v : V} {d : D} (r : Rp K ct F v d) (h : d.atom = true) : Rp K ct F' v d := by
  cases r with
  | non => exact .non
  | bl b => exact .bl b
  | int i => exact .int i
  | str s => exact .str s
  | _ => cases h
theorem Rps.atoms {K : PySem.W.Frag} {ct : Ct} {F F' : Hp} : ∀ {l : List D} {vs : List V}, Rps K ct F vs l → l.all D.atom = true → Rps K ct F' vs l
  | [], _, r, _ => by
    cases r
    exact .nil
  | d :: l, _, r, h => by
    rw [List.all_cons, Bool.and_eq_true] at h
    cases r with
    | cons r t => exact .cons (r.atom h.1) (t.atoms h.2)
/-- a call that looks at owned things -/
def fCallL (m : List Bool) (Φ : List D → Res) (fs : Ev (List Ag)) : Ev D := fun env => (fs env).bind fun l e => match agDs e l with
  | none => .stuck
  | some ds => if l.map (fun _ => false) = m then (match Φ ds with
    | .ret n r _ => if flatR n r then .val r e else .stuck
    | _ => .stuck) else .stuck
section
variable {X : Cx} {B : Bs} {Z : ZX} {CX : CXT} {k : Nat} {f : Addr} {fd : FuncData} {ps : List Str} {E : XK} {x : Str} {p pos : Pos} {e : Expr} {es : List Expr} {m : List Bool} {Φ : List D → Res} {fs : Ev (List Ag)}
theorem look_args {K : PySem.W.Frag} {B : Bs} {G : Gh} {env : List Slot} {σ : L2.St} {H : Hp} {S : Addr → Prop} (c : Cfg K B G env σ H) (hS : ∀ x, S x → G.S x) : ∀ {l : List Ag} {vs : List V} {ds : List D}, (∀ i a, i ∈ ioSlots l → G.r i = some a → ¬ S a) → Paired (fun v (g : Ag) => match g with
  | .inl d => Rp K B.ct (off G.S H) v d
  | .inr i => σ[i]? = some (some v)) vs l → agDs env l = some ds → Rps K B.ct (off S H) vs ds
  | [], _, ds, _, .nil, h => by
    cases h
    exact .nil
  | g :: l, v :: vs, ds, nS, .cons r t, h => by
    unfold agDs at h
    split at h
    · rename_i d ds' e1 e2
      cases h
      have le : Same (off G.S H) (off S H) := fun x u h => by
        obtain ⟨n, h⟩ := off_inv h
        rw [off_at fun z => n (hS x z)]
        exact h
      refine .cons ?_ (look_args c hS (fun i a hi => nS i a ?_) t e2)
      · cases g with
        | inl d0 =>
          cases e1
          exact r.mono le
        | inr i =>
          obtain ⟨b, ho⟩ := agD_own e1
          obtain ⟨a, g1, g2, g3⟩ := c.own ho
          have r : σ[i]? = some (some v) := r
          rw [g2] at r
          cases r
          exact (g3.mono rfl le).rp (off_at (nS i a (by simp [ioSlots]) g1))
      · cases g with
        | inl d0 => exact hi
        | inr j => exact List.mem_cons_of_mem _ hi
    · cases h
theorem lift_callL (σ : L2.St) (H : Hp) (Q : VK) (h : liftE X.K B Z (fCallL m Φ fs) σ H Q) : tCall (spV X.K B.ct m Φ) [] E (liftAi X.K B Z fs) σ H Q := by
  obtain ⟨G, env, c, q⟩ := h
  refine ⟨G, env, c, post_imp (post_bind q) fun l e1 G1 H1 m1 c1 p1 vs rvs => ?_⟩
  cases had : agDs e1 l with
  | none =>
    rw [had] at p1
    exact p1.elim
  | some ds =>
    rw [had] at p1
    simp only [] at p1
    by_cases hc : l.map (fun _ => false) = m
    · rw [if_pos hc] at p1
      have ra := look_args (S := fun x => G1.S x ∧ ∀ i, i ∈ ioSlots l → G1.r i ≠ some x) c1 (fun x h => h.1) (fun i a hi e z => z.2 i hi e) rvs had
      have sm : ∀ {H' : Hp} {S' : Addr → Prop} {ns : List D}, Frame X.K B.ct (fun x => G1.S x ∧ ∀ i, i ∈ ioSlots l → G1.r i ≠ some x) S' (fun _ => none) H1 H' ns → Same H1 H' := fun {H' S' ns} fr x u hx => by
        by_cases hs : G1.S x ∧ ∀ i, i ∈ ioSlots l → G1.r i ≠ some x
        · rw [fr.hold x hs fun j z => by cases z]
          exact hx
        · exact (off_inv (fr.same x u (by rw [off_at hs]; exact hx))).2
      have ml : ∀ {j : Nat} {b : Bool}, m[j]? = some b → b = false := fun {j b} h => by
        rw [← hc] at h
        obtain ⟨_, _, z⟩ := List.mem_map.mp (List.mem_of_getElem? h)
        exact z.symm
      have lm : m.length = l.length := by rw [← hc, List.length_map]
      refine ⟨fun x => G1.S x ∧ ∀ i, i ∈ ioSlots l → G1.r i ≠ some x, fun _ => none, ds, ⟨?_, ?_, fun j v d h1 h2 h3 => ?_, fun j v d h1 => ?_, (fun j a h => nomatch h), (fun j a h => nomatch h), (fun i j a h => nomatch h), fun a h => c1.live a h.1⟩, ?_⟩
      · rw [List.append_nil, lm, ra.len]
        exact agDs_len had
      · rw [lm]
        exact agDs_len had
      · rw [List.append_nil] at h2
        obtain ⟨d', e1', e2⟩ := ra.get h2
        rw [h3] at e1'
        cases e1'
        exact e2
      · cases ml h1
      · cases hr : Φ ds with
        | stuck =>
          rw [hr] at p1
          exact p1.elim
        | exc cc as ns =>
          rw [hr] at p1
          exact p1.elim
        | ret n r ns =>
          rw [hr] at p1
          simp only [] at p1
          by_cases hf : flatR n r = true
          · rw [if_pos hf] at p1
            cases n with
            | false =>
              intro v H' fr rv
              have s := sm fr
              have ha : r.atom = true := by cases r <;> first | exact hf | (exact hf)
              exact p1 G1 H' (c1.mono s) (c1.same s) v (rv.atom ha)
            | true =>
              intro a H' hn fr ho
              have s := sm fr
              cases r with
              | lst l2 =>
                obtain ⟨ws, h1, h2⟩ := ho
                refine p1 G1 H' (c1.mono s) (c1.same s) _ (.lst (vs := ws) ?_ (h2.atoms hf))
                rw [off_at (c1.unS hn)]
                exact h1
              | non | bl | int | str | tup | ctup | scr | cl | bx | ex => exact ho.elim
              | ob | dk | dt | nk => cases hf
          · rw [if_neg hf] at p1
            exact p1.elim
    · rw [if_neg hc] at p1
      exact p1.elim
theorem de_callL (F : FnG X.prog X.w X.K X.mg X.base CX k f fd ps (spV X.K B.ct m Φ)) (hgd : X.A.guards = some []) (hr : Room k X.A) (hg : Gl X x) (hm : X.mg x = some (.ref f)) (hk : PySem.W.keepIn X.K (.ref f) = true) (hb : Binds X.K fd ps []) (hd : Vals [] []) (hx : Passes CX X E)
    (ha : DAi X B Z (e :: es) fs) (hdb : (x == ("__debug__" : Str)) = false := by decide) (he : starEach (e :: es) X.env = (false, eval e X.env) :: starEach es X.env := by rfl)
    (hpl : (backTo pos (starEach es X.env)).any (·.1) = false := by rfl) : DE X B Z (.Call (.Name x p) (e :: es) [] pos) (fCallL m Φ fs) :=
  ⟨PE.weak (pe_callG F hgd hr hg hm hk hb hd hx ha.pa hdb he hpl) lift_callL⟩
end
end Vl
set_option Elab.async false
set_option linter.all false
set_option maxRecDepth 100000
set_option maxHeartbeats 2000000
namespace Vl
open PySem PySem.Spec PyProof.Rows L2 Sb
/-- an expression of a caught error's fields -/
def tX (K : PySem.W.Frag) (ct : Ct) (i : Nat) (c : Str) (a : Addr) (d : Option Addr) (g : List D → Option D) : TE := fun σ H Q => ∃ (S : Addr → Prop) (dd : Addr) (l : List D) (z : D), d = some dd ∧ σ[i]? = some (some (.ref a)) ∧ ExcAt K ct (off S H) dd c l ∧ (∀ x, S x → H x ≠ none) ∧ g l = some z ∧
  ∀ v H', Same H H' → Rp K ct (off S H') v z → Q v H'
def tXs (K : PySem.W.Frag) (ct : Ct) (i : Nat) (c : Str) (a : Addr) (d : Option Addr) (g : List D → Option (List D)) : TA := fun σ H Q => ∃ (S : Addr → Prop) (dd : Addr) (l : List D) (z : List D), d = some dd ∧ σ[i]? = some (some (.ref a)) ∧ ExcAt K ct (off S H) dd c l ∧ (∀ x, S x → H x ≠ none) ∧ g l = some z ∧
  ∀ v H', Same H H' → Rps K ct (off S H') v z → Q v H'
structure XD (X : Cx) (ct : Ct) (i : Nat) (c : Str) (a : Addr) (d : Option Addr) (e : Expr) (g : List D → Option D) : Prop where
  pe : PE X e (tX X.K ct i c a d g)
structure XDs (X : Cx) (ct : Ct) (i : Nat) (c : Str) (a : Addr) (d : Option Addr) (es : List Expr) (g : List D → Option (List D)) : Prop where
  pa : PA X es (tXs X.K ct i c a d g)
theorem ExcAt.mono {K : PySem.W.Frag} {ct : Ct} {F F' : Hp} {dd : Addr} {c : Str} {l : List D} (s : Same F F') (h : ExcAt K ct F dd c l) : ExcAt K ct F' dd c l := by
  obtain ⟨C, ns, vs, h1, h2, h3, h4⟩ := h
  exact ⟨C, ns, vs, h1, h2, s _ _ h3, h4.mono s⟩
theorem live_same {S : Addr → Prop} {H H' : Hp} (live : ∀ x, S x → H x ≠ none) (s : Same H H') : ∀ x, S x → H' x ≠ none := fun x hx => same_dom s x (live x hx)
section
variable {X : Cx} {ct : Ct} {i : Nat} {c : Str} {C a : Addr} {d : Option Addr} {e : Expr} {es : List Expr} {g : List D → Option D} {gs : List D → Option (List D)} {pos : Pos}
def gK (z : D) : List D → Option D := fun _ => some z
def gF (j : Nat) : List D → Option D := fun l => l[j]?
def gNil : List D → Option (List D) := fun _ => some []
def gCons (g : List D → Option D) (gs : List D → Option (List D)) : List D → Option (List D) := fun l => match g l, gs l with
  | some x, some xs => some (x :: xs)
  | _, _ => none
def gTup (gs : List D → Option (List D)) : List D → Option D := fun l => match gs l with
  | some xs => if xs.length ≤ 1000 then some (.tup xs) else none
  | none => none
def gLst (gs : List D → Option (List D)) : List D → Option D := fun l => match gs l with
  | some xs => if xs.length ≤ 1000 then some (.lst xs) else none
  | none => none
theorem xds_nil : XDs X ct i c a d [] gNil :=
  ⟨PA.weak pa_nil fun σ H Q ⟨S, dd, l, z', _, _, _, _, hz, q⟩ => by
    cases hz
    exact q [] H (Same.refl _) .nil⟩
theorem xds_cons (he : XD X ct i c a d e g) (hr : XDs X ct i c a d es gs) (hs : starEach (e :: es) X.env = (false, eval e X.env) :: starEach es X.env := by rfl) : XDs X ct i c a d (e :: es) (gCons g gs) :=
  ⟨PA.weak (pa_cons he.pe hr.pa hs) fun σ H Q ⟨S, dd, l, z', h1, h2, h3, h4, hz, q⟩ => by
    unfold gCons at hz
    split at hz
    · rename_i x xs e1 e2
      cases hz
      refine ⟨S, dd, l, x, h1, h2, h3, h4, e1, fun v H1 s1 r1 => ⟨S, dd, l, xs, h1, h2, h3.mono (off_same s1), live_same h4 s1, e2, fun vs H2 s2 r2 => q _ H2 (s1.trans s2) (.cons (r1.mono (off_same s2)) r2)⟩⟩
    · cases hz⟩
theorem xd_tup {k : Nat} (h : XDs X ct i c a d es gs) : XD X ct i c a d (.Tuple es k pos) (gTup gs) :=
  ⟨PE.weak (pe_tup h.pa) fun σ H Q ⟨S, dd, l, z', h1, h2, h3, h4, hz, q⟩ => by
    unfold gTup at hz
    split at hz
    · rename_i xs e1
      split at hz
      · rename_i hl
        cases hz
        refine ⟨S, dd, l, xs, h1, h2, h3, h4, e1, fun vs H1 s1 r1 => ⟨by rw [r1.len]; exact Nat.le_trans hl (by decide), fun p hp => q _ _ (s1.trans (Sb.Same.upd hp)) (new_tup (live_same h4 s1) hp r1)⟩⟩
      · cases hz
    · cases hz⟩
end
/-- e.f -/
theorem xd_fld {X : Cx} {ct : Ct} {i j : Nat} {c n y : Str} {C a : Addr} {oe : Obj} {d : Option Addr} {pn : List (Addr × Obj)} {pos px : Pos} {ns : List Str} (T : XfC X.K C) (hct : ct c = some (C, ns)) (nd : ns.Nodup) (hn : ns[j]? = some n) (hno : PySem.W.findIn X.K (.ref C) n = some none)
    (hz : Zc (.ref C) d oe) (hf : ∃ vs, oe.data = .fields vs) (hN : X.N[i]? = some y) (hv : Vis X.env.scope y) (hb : attributeBase (.Name y px) n X.env (eval (.Name y px) X.env) = eval (.Name y px) X.env := by rfl) (hd : (y == ("__debug__" : Str)) = false := by decide) (hcd : (y == ("__classdict__" : Str)) = false := by decide) :
    XD (X.suite a ((a, oe) :: pn)) ct i c a d (.Attribute (.Name y px) n pos) (gF j) :=
  ⟨PE.weak (pe_xf T hno hz hf (pe_var (X := X.suite a ((a, oe) :: pn)) hN hv hd hcd) hb) fun σ H Q ⟨S, dd, l, z, h1, h2, h3, h4, hz, q⟩ => by
    obtain ⟨C', ns', vs, y1, y2, y3, y4⟩ := h3
    rw [hct] at y1
    cases y1
    obtain ⟨v, g1, g2⟩ := y4.get' hz
    exact ⟨_, h2, rfl, rfl, dd, _, v, h1, (off_inv y3).2, zip_lookup nd hn g1, q v H (Same.refl _) g2⟩⟩
/-- a if t else b -/
def gIte (t g1 g2 : List D → Option D) : List D → Option D := fun l => match t l with
  | some (.bl true) => g1 l
  | some (.bl false) => g2 l
  | _ => none
theorem te_own {K : PySem.W.Frag} {C : Addr} (h1 : PySem.W.subIn K (.ref C) (.type "BaseException") = some true) (h2 : PySem.W.isClsIn K C = true) (h3 : PySem.W.typeIn K (.ref C) = some (.type "type")) (h4 : PySem.W.subIn K (.ref C) (.ref C) = some true) : PySem.W.exmOne K (.ref C) (.ref C) = some true := by
  have e1 : (PySem.W.subIn K (.ref C) (.type "BaseException") == some true) = true := by rw [h1] <;> rfl
  have h2' : (PySem.W.clsIn K C).isSome = true := h2
  have e2 : ((PySem.W.clsIn K C).isSome && PySem.W.typeIn K (.ref C) == some (.type "type")) = true := by rw [h2', h3] <;> rfl
  unfold PySem.W.exmOne
  rw [if_pos e1]
  unfold PySem.W.kitCls
  dsimp only
  rw [if_pos e2]
  exact h4
end Vl
set_option Elab.async false
set_option linter.all false
set_option maxRecDepth 100000
set_option maxHeartbeats 2000000
namespace Vl
open PySem PySem.Spec PyProof.Rows L2 Sb
end Vl
set_option Elab.async false
set_option linter.all false
set_option maxRecDepth 100000
set_option maxHeartbeats 2000000
namespace Vl
open PySem PySem.Spec PyProof.Rows L2 Sb
section
variable {X : Cx} {B : Bs} {Z : ZX} {CX : CXT} {k n : Nat} {C fa g : Addr} {fd : FuncData} {ps ns ks : List Str} {c x m y : Str} {p pos px apos kpos : Pos} {e : Expr} {es : List Expr} {kws : List Keyword} {ml : List Bool} {Φ : List D → Res} {fs : Ev (List D)} {f : Ev D}
theorem pT {E : XK} (h : Passes CX X E) : ∀ σ, PassesS CX X σ E := fun σ pins H s e s' I c => h pins σ H s e s' I c
theorem Rp.clE {K : PySem.W.Frag} {ct : Ct} {F : Hp} {v : V} (h : Rp K ct F v (.cl c)) : ∃ C ns, ct c = some (C, ns) ∧ v = .ref C := by
  cases h with
  | cl hc => exact ⟨_, _, hc, rfl⟩
/-- the class's method, its arguments by position -/
def tCM (C : Addr) (sp : Sp) (E : XK) (t : TA) : TE := fun σ H Q => t σ H fun vs H2 => sp (.ref C :: vs) H2 Q E
theorem pe_cmG {E : L2.St → XK} {sp : Sp} {t : TA} {mc : Value} {q : Addr} {pl : Sem Bool} (r : ClX.CRead X.K C mc) (cm : ClX.CMet X.K C mc m q g) (F : FnG X.prog X.w X.K X.mg X.base CX k g fd ps sp) (hgd : X.A.guards = some []) (hr : Room k X.A) (hg : Gl X x) (hm : X.mg x = some (.ref C)) (hb : Binds X.K fd ps []) (hx : ∀ σ, PassesS CX X σ (E σ)) (ha : PA X (e :: es) t)
    (hdb : (x == ("__debug__" : Str)) = false := by decide) (hst : starEach (e :: es) X.env = (false, eval e X.env) :: starEach es X.env := by rfl) (hpl : (backTo pos (starEach es X.env)).any (·.1) = false := by rfl)
    (ht : eval (.Call (.Attribute (.Name x px) m apos) (e :: es) [] pos) X.env = (do
      let ov ← eval (.Name x px) X.env
      standAt apos.atName
      let (f, first) ← holding [ov] (getMethod ov m pl)
      callWith pos f first (backTo pos (starEach (e :: es) X.env)) (backToKw pos (keywordEach [] X.env))) := by rfl) :
    PE X (.Call (.Attribute (.Name x px) m apos) (e :: es) [] pos) (fun σ H Q => tCM C sp (E σ) t σ H Q) := by
  refine ⟨fun pins s σ H Q I h => ?_⟩
  refine PySem.W.methodCall_KW (pl := pl) (thn ((pe_glob (X := X) (pos := px) (v := .ref C) hg hm rfl hdb).run pins s σ H (fun v H1 => v = .ref C ∧ tCM C sp (E σ) t σ H1 Q) I ⟨rfl, h⟩) fun u s1 ⟨v, H1, I1, rx, ex, q1⟩ => ?_) ht
  subst ex
  obtain rfl : u = Value.ref C := rx
  refine ClX.getmethcm_ok I1 r cm fun s2 I2 => ?_
  refine ClX.callwith_cm I2 (ClX.base_none I1 (Nat.le_refl _)) cm.fi (thn (ha.run pos _ s2 σ H1 _ I2 q1) fun us s3 ⟨vs, H2, I3, rv, q2⟩ => ⟨⟨ClX.pin_at I3, I3.kIn⟩, ?_⟩) hst hpl
  suffices z : wpAny (model X.prog X.w) X.A (call (.ref s1.heap.objs.size) us) (EP X ((s1.heap.objs.size, PySem.W.methodObj (.ref g) (.ref C)) :: pins) σ Q) X.xe s3 from thn z fun _ _ y => ClX.unpinE y
  refine wpAny_call (PySem.W.method_call (ClX.pin_at I3) ?_)
  have r2 : Vals (V.ref C :: vs) (Value.ref C :: us) := .cons rfl rv
  have hl : (Value.ref C :: us ++ []).length = ps.length := by
    rw [List.append_nil, ← r2.length]
    exact F.size _ _ _ _ q2
  have hbb := hb s3 (Value.ref C :: us) I3.kIn hl
  rw [List.append_nil] at hbb
  refine codeAny_mono (F.go X.A X.stack s3 H2 ⟨.ref C :: us, []⟩ (.ref C :: us) (.ref C :: vs) Q (E σ) hgd hr I3.env0 hbb r2 q2) fun r s' hq => ?_
  match r, hq with
  | .error e, hq => exact hx σ _ _ _ e s' I3 hq
  | .ok (.ret u), hq => exact I3.after hq
  | .ok .next, hq => exact False.elim hq
  | .ok .brk, hq => exact False.elim hq
  | .ok .cont, hq => exact False.elim hq
/-- what the method gives -/
def resE (r : Res) (e : List Slot) : Out D := match r with
  | .ret _ r _ => .val r e
  | .exc c as _ => .exc c as e
  | .stuck => .stuck
def fCM (c : Str) (m : List Bool) (Φ : List D → Res) (fs : Ev (List D)) : Ev D := fun env => (fs env).bind fun l e => if (D.cl c :: l).map (fun _ => false) = m then resE (Φ (.cl c :: l)) e else .stuck
def fCMK (c : Str) (m : List Bool) (Φ : List D → Res) (n : Nat) (gD : List D → List D → List D) (fs : Ev (List D)) : Ev D := fun env => (fs env).bind fun z e => if z.length = n ∧ (gD [.cl c] z).map (fun _ => false) = m then resE (Φ (gD [.cl c] z)) e else .stuck
theorem lift_res {E : XK} {sp : Sp} {ds : List D} {vs : List V} {σ : L2.St} {G : Gh} {env : List Slot} {H : Hp} {Q : VK} (hZ : ∀ c as env G H dd C nm, B.ct c = some (C, nm) → Z c as env G σ H dd → E (.ref C) (some dd) H) (c : Cfg X.K B G env σ H) (hm : ds.map (fun _ => false) = ml) (rd : Rps X.K B.ct (off G.S H) vs ds)
    (p : postG X.K B Z G σ H (resE (Φ ds) env) fun d _ G' H' => ∀ v, Rp X.K B.ct (off G'.S H') v d → Q v H') : spV X.K B.ct ml Φ vs H Q E := by
  refine ⟨G.S, iaOf G [], ds, argsK c hm rd, ?_⟩
  cases hr : Φ ds with
  | stuck =>
    rw [hr] at p
    exact p.elim
  | ret nw r ns =>
    rw [hr] at p
    cases nw with
    | false =>
      intro v H' fr rv
      obtain ⟨mm, c'⟩ := after_call (l := []) (ds := []) c rfl (by simp [ioSlots]) fr
      exact p G H' mm c' v rv
    | true =>
      intro a H' ha fr ho
      obtain ⟨mm, c'⟩ := after_call (l := []) (ds := []) c rfl (by simp [ioSlots]) fr.bare
      exact p G H' mm c' _ ((ho.mono rfl off_more).rp (off_at (c.unS ha)))
  | exc cc as ns =>
    rw [hr] at p
    intro H' dd' C nm fr xa hC
    obtain ⟨mm, c'⟩ := after_call (l := []) (ds := []) c rfl (by simp [ioSlots]) fr
    exact hZ _ _ _ _ _ _ _ _ hC (p G H' dd' mm c' xa)
/-- C.m(..), m a class method of C -/
theorem de_cm {E : L2.St → XK} {pl : Sem Bool} (r : ∃ mc q, ClX.CRead X.K C mc ∧ ClX.CMet X.K C mc m q g) (F : FnG X.prog X.w X.K X.mg X.base CX k g fd ps (spV X.K B.ct ml Φ)) (hct : B.ct c = some (C, ns)) (hgd : X.A.guards = some []) (hr : Room k X.A) (hg : Gl X x) (hm : X.mg x = some (.ref C)) (hb : Binds X.K fd ps []) (hx : ∀ σ, PassesS CX X σ (E σ))
    (hZ : ∀ c as env G σ H dd C nm, B.ct c = some (C, nm) → Z c as env G σ H dd → E σ (.ref C) (some dd) H) (ha : DA X B Z (e :: es) fs)
    (hdb : (x == ("__debug__" : Str)) = false := by decide) (hst : starEach (e :: es) X.env = (false, eval e X.env) :: starEach es X.env := by rfl) (hpl : (backTo pos (starEach es X.env)).any (·.1) = false := by rfl)
    (ht : eval (.Call (.Attribute (.Name x px) m apos) (e :: es) [] pos) X.env = (do
      let ov ← eval (.Name x px) X.env
      standAt apos.atName
      let (f, first) ← holding [ov] (getMethod ov m pl)
      callWith pos f first (backTo pos (starEach (e :: es) X.env)) (backToKw pos (keywordEach [] X.env))) := by rfl) :
    DE X B Z (.Call (.Attribute (.Name x px) m apos) (e :: es) [] pos) (fCM c ml Φ fs) := by
  obtain ⟨mc, q, r1, r2⟩ := r
  exact ⟨PE.weak (pe_cmG (E := E) r1 r2 F hgd hr hg hm hb hx ha.pa hdb hst hpl ht) fun σ H Q ⟨G, env, cf, p⟩ => ⟨G, env, cf, post_imp (post_bind p) fun l e1 G1 H1 m1 c1 p1 vs rvs => by
    by_cases hc : (D.cl c :: l).map (fun _ => false) = ml
    · rw [if_pos hc] at p1
      exact lift_res (sp := spV X.K B.ct ml Φ) (fun c as env G H dd C nm => hZ c as env G σ H dd C nm) c1 hc (.cons (.cl hct) rvs) p1
    · rw [if_neg hc] at p1
      exact p1.elim⟩⟩
theorem pe_makeL {E : L2.St → XK} {sp : Sp} {ds : List Value} {dvs : List V} {t : TA} {i : Nat} (M : Mk X.K C fa) (F : FnG X.prog X.w X.K X.mg X.base CX k fa fd ps sp) (hgd : X.A.guards = some []) (hr : Room (k + 1) X.A) (hN : X.N[i]? = some x) (hv : Vis X.env.scope x) (hb : Binds X.K fd ps ds) (hd : Vals dvs ds) (hx : ∀ σ, PassesS CX X σ (E σ))
    (ha : PA X (e :: es) t) (hdb : (x == ("__debug__" : Str)) = false := by decide) (hcd : (x == ("__classdict__" : Str)) = false := by decide) (he : starEach (e :: es) X.env = (false, eval e X.env) :: starEach es X.env := by rfl) (hpl : (backTo pos (starEach es X.env)).any (·.1) = false := by rfl) :
    PE X (.Call (.Name x p) (e :: es) [] pos) (fun σ H Q => σ[i]? = some (some (.ref C)) ∧ tMake C sp dvs (E σ) t σ H Q) := by
  refine ⟨fun pins s σ H Q I ⟨hs, h⟩ => ?_⟩
  refine wpAny_Call_Name_kw (thn ((pe_var (pos := p) hN hv hdb hcd).run pins s σ H (fun v H1 => v = .ref C ∧ H1 = H) I ⟨.ref C, hs, rfl, rfl⟩) fun u s1 ⟨v, H1, I1, r1, q1⟩ => ?_)
  obtain ⟨rfl, rfl⟩ := q1
  cases r1
  refine PySem.W.callWith_K (h₀ := X.base) I.ok.mod.kin M.kp (thn (ha.run pos pins s1 σ _ _ I1 h) fun us s2 ⟨vs, H2, I2, r, q⟩ => ⟨I2.kIn, ?_⟩) he hpl
  exact run_makeGT M F hgd hr hb hd (hx σ) I2 r q
def fMakeL (i : Nat) (c : Str) (m : List Bool) (Φ : List D → Res) (dd : List D) (fs : Ev (List D)) : Ev D := fun env => match env[i]? with
  | some (.sh (.cl c')) => if c' = c then fMake c m Φ dd fs env else .stuck
  | _ => .stuck
theorem de_makeL {E : L2.St → XK} {M : Mk X.K C fa} {i : Nat} {dsv : List Value} {dvs : List V} {dd : List D} (F : FnG X.prog X.w X.K X.mg X.base CX k fa fd ps (spV X.K B.ct ml Φ)) (hct : B.ct c = some (C, ns)) (hgd : X.A.guards = some []) (hr : Room (k + 1) X.A) (hN : X.N[i]? = some x) (hv : Vis X.env.scope x) (hb : Binds X.K fd ps dsv) (hd : Vals dvs dsv) (rd : ∀ F, Rps X.K B.ct F dvs dd) (hx : ∀ σ, PassesS CX X σ (E σ))
    (hZ : ∀ c as env G σ H dd C nm, B.ct c = some (C, nm) → Z c as env G σ H dd → E σ (.ref C) (some dd) H) (ha : DA X B Z (e :: es) fs) (hdb : (x == ("__debug__" : Str)) = false := by decide) (hcd : (x == ("__classdict__" : Str)) = false := by decide) (he : starEach (e :: es) X.env = (false, eval e X.env) :: starEach es X.env := by rfl)
    (hpl : (backTo pos (starEach es X.env)).any (·.1) = false := by rfl) : DE X B Z (.Call (.Name x p) (e :: es) [] pos) (fMakeL i c ml Φ dd fs) :=
  ⟨PE.weak (pe_makeL M F hgd hr hN hv hb hd hx ha.pa hdb hcd he hpl) fun σ H Q ⟨G, env, cf, q⟩ => by
    unfold fMakeL at q
    cases hi : env[i]? with
    | none =>
      rw [hi] at q
      exact q.elim
    | some s =>
      rw [hi] at q
      cases s with
      | sh d =>
        cases d with
        | cl c' =>
          simp only at q
          by_cases ec : c' = c
          · rw [if_pos ec] at q
            subst ec
            obtain ⟨v, h1, h2⟩ := cf.sh i _ hi
            obtain ⟨C', ns', h3, rfl⟩ := h2.clE
            rw [hct] at h3
            cases h3
            exact ⟨h1, lift_makeT hct rd hZ σ H Q ⟨G, env, cf, q⟩⟩
          · rw [if_neg ec] at q
            exact q.elim
        | _ => exact q.elim
      | _ => exact q.elim⟩
def oSplit (a : Str) : D → Option D
  | .str b => if (b.length == 0) = false ∧ a.length + 2 ≤ sizeLine then some (.lst ((Txt.split a b).map D.str)) else none
  | _ => none
theorem strs_rp {K : PySem.W.Frag} {ct : Ct} {F : Hp} : ∀ l : List Str, Rps K ct F (l.map V.str) (l.map D.str)
  | [] => .nil
  | s :: l => .cons (.str s) (strs_rp l)
theorem mv_split {K : PySem.W.Frag} {ct : Ct} : M1V K ct (fun x xs H Q => ∃ a b, x = .str a ∧ xs = [.str b] ∧ (b.length == 0) = false ∧ a.length + 2 ≤ sizeLine ∧ rNewStrs (Txt.split a b) H Q) oSplit := by
  intro S H a y d z Q live ry ho hq
  unfold oSplit at ho
  split at ho
  · rename_i b
    split at ho
    · rename_i hc
      cases ho
      rw [ry.strE]
      refine ⟨a, b, rfl, rfl, hc.1, hc.2, fun p hp => ?_⟩
      exact hq _ _ (Sb.Same.upd hp) (new_lst live hp (strs_rp _))
    · cases ho
  · cases ho
theorem de_split {o : Expr} {f h : Ev D} (ho : DE X B Z o f) (he : DE X B Z e h) (hs : starEach [e] X.env = [(false, eval e X.env)] := by rfl) (hbase : attributeBase o "split" X.env (eval o X.env) = eval o X.env := by rfl) (hline : (apos.endLine == pos.line) = true := by rfl) :
    DE X B Z (.Call (.Attribute o "split" apos) [e] [] pos) (fM1 oSplit f h) := de_m1 PySem.F.slot_str_split PySem.F.type_str_split mt_split mv_split ho he hs hbase hline
def oStarts (a : Str) : D → Option D
  | .str b => some (.bl (Txt.startswith a b))
  | _ => none
theorem mv_starts {K : PySem.W.Frag} {ct : Ct} : M1V K ct (fun x xs H Q => ∃ a b, x = .str a ∧ xs = [.str b] ∧ Q (.bl (Txt.startswith a b)) H) oStarts := by
  intro S H a y d z Q live ry ho hq
  unfold oStarts at ho
  split at ho
  · cases ho
    rw [ry.strE]
    exact ⟨a, _, rfl, rfl, hq _ H (Same.refl _) (.bl _)⟩
  · cases ho
theorem de_starts {o : Expr} {f h : Ev D} (ho : DE X B Z o f) (he : DE X B Z e h) (hs : starEach [e] X.env = [(false, eval e X.env)] := by rfl) (hbase : attributeBase o "startswith" X.env (eval o X.env) = eval o X.env := by rfl) (hline : (apos.endLine == pos.line) = true := by rfl) :
    DE X B Z (.Call (.Attribute o "startswith" apos) [e] [] pos) (fM1 oStarts f h) := de_m1 PySem.F.slot_str_startswith PySem.F.type_str_startswith mt_startswith mv_starts ho he hs hbase hline
def oIsDigit (a : Str) : Option D := some (.bl (Txt.isdigit a))
def oIsAscii (a : Str) : Option D := some (.bl (Txt.isascii a))
theorem mv_isdigit {K : PySem.W.Frag} {ct : Ct} : M0V K ct (fun x xs H Q => ∃ a, x = .str a ∧ xs = [] ∧ True ∧ Q (.bl (Txt.isdigit a)) H) oIsDigit := by
  intro S H a z Q live ho hq
  cases ho
  exact ⟨a, rfl, rfl, trivial, hq _ H (Same.refl _) (.bl _)⟩
theorem mv_isascii {K : PySem.W.Frag} {ct : Ct} : M0V K ct (fun x xs H Q => ∃ a, x = .str a ∧ xs = [] ∧ True ∧ Q (.bl (Txt.isascii a)) H) oIsAscii := by
  intro S H a z Q live ho hq
  cases ho
  exact ⟨a, rfl, rfl, trivial, hq _ H (Same.refl _) (.bl _)⟩
theorem de_isdigit {o : Expr} {f : Ev D} (ho : DE X B Z o f) (hbase : attributeBase o "isdigit" X.env (eval o X.env) = eval o X.env := by rfl) (hline : (apos.endLine == pos.line) = true := by rfl) : DE X B Z (.Call (.Attribute o "isdigit" apos) [] [] pos) (fM0 oIsDigit f) :=
  de_m0 PySem.F.slot_str_isdigit PySem.F.type_str_isdigit mt_isdigit mv_isdigit ho hbase hline
theorem de_isascii {o : Expr} {f : Ev D} (ho : DE X B Z o f) (hbase : attributeBase o "isascii" X.env (eval o X.env) = eval o X.env := by rfl) (hline : (apos.endLine == pos.line) = true := by rfl) : DE X B Z (.Call (.Attribute o "isascii" apos) [] [] pos) (fM0 oIsAscii f) :=
  de_m0 PySem.F.slot_str_isascii PySem.F.type_str_isascii mt_isascii mv_isascii ho hbase hline
/-- int(text) -/
def oIntS : D → Option D
  | .str a => (PySem.intText? a).bind fun n => if a.length ≤ 640 then some (.int n) else none
  | _ => none
theorem cv_intS {K : PySem.W.Frag} {ct : Ct} : CallV K ct (fun xs H Q => ∃ a n, xs = [.str a] ∧ PySem.intText? a = some n ∧ a.length ≤ 640 ∧ Q (.int n) H) (o1 oIntS) := cv1 fun S H x d z Q live rx ho hq => by
  unfold oIntS at ho
  split at ho
  · rename_i a
    cases hn : PySem.intText? a with
    | none =>
      rw [hn] at ho
      cases ho
    | some n =>
      rw [hn] at ho
      simp only [Option.bind_some] at ho
      split at ho
      · rename_i hl
        cases ho
        exact ⟨a, n, by rw [rx.strE], hn, hl, hq _ H (Same.refl _) (.int _)⟩
      · cases ho
  · cases ho
end
/-- a class method -/
structure Vcm (P : Program) (w : World) (K : PySem.W.Frag) (mg : Str → Option Value) (base : Heap) (CX : CXT) (k : Nat) (C : Addr) (n : Str) (f : Addr) (fd : FuncData) (ps : List Str) (ct : Ct) (m : List Bool) (Φ : List D → Res) : Prop where
  cm : ∃ mc q, ClX.CRead K C mc ∧ ClX.CMet K C mc n q f
  ok : FnG P w K mg base CX k f fd ps (spV K ct m Φ)
  bd : Binds K fd ps []
end Vl
set_option Elab.async false
set_option linter.all false
set_option maxRecDepth 100000
set_option maxHeartbeats 2000000
namespace Vl
open PySem PySem.Spec PyProof.Rows L2 Sb
def hand1 (i : Nat) (g : List D → Option D) (l : List D) (e : List Slot) : Out Fl := if i < e.length then (match g l with
  | some z => .val (.rt false z) e
  | none => .stuck) else .stuck
def fTry2 (c1 : Str) (i1 : Nat) (g1 : List D → Option D) (c2 : Str) (i2 : Nat) (g2 : List D → Option D) (fb : Ev Fl) : Ev Fl := fun env => match fb env with
  | .exc c l e => if c = c1 then hand1 i1 g1 l e else if c = c2 then hand1 i2 g2 l e else .stuck
  | o => o
def signsD (s : Str) : List D := s.cps.toList.map fun c => D.str ⟨#[c]⟩
def fItemsS (f : Ev D) : Ev (List D) := fun env => (f env).bind fun d e => match d with
  | .str s => .val (signsD s) e
  | _ => .stuck
def fPar3 (i j l : Nat) (f g h : Ev D) (n : Bool) : Ev Fl := fun env => (f env).bind fun d1 e1 => (g e1).bind fun d2 e2 => (h e2).bind fun d3 e3 => .val .nx (((e3.set i (.sh d1)).set j (.sh d2)).set l (if n then .ow d3 else .sh d3))
end Vl
set_option Elab.async false
set_option linter.all false
set_option maxRecDepth 100000
set_option maxHeartbeats 2000000
namespace Vl
open PySem PySem.Spec PyProof.Rows L2 Sb
end Vl
set_option Elab.async false
set_option linter.all false
set_option maxRecDepth 100000
set_option maxHeartbeats 2000000
namespace Vl
open PySem PySem.Spec PyProof.Rows L2 Sb
/-- a clause: its class, the slot of its name, its suite -/
abbrev ClaU := Value × Option Nat × (Addr → Value → Option Addr → TS)
def setU (σ : L2.St) (o : Option Nat) (v : Option V) : L2.St := match o with
  | some i => σ.set i v
  | none => σ
def unU (o : Option Nat) (D : Ends) : Ends := ⟨fun σ H => D.nx (setU σ o none) H, D.rt, fun σ H => D.bk (setU σ o none) H, fun σ H => D.ct (setU σ o none) H⟩
def wClU (K : PySem.W.Frag) (W0 : WX) (D : Ends) : List ClaU → WX
  | [] => W0
  | z :: r => fun cls d σ H => ∃ b, PySem.W.exmOne K cls z.1 = some b ∧ (b = true → ∀ p, H p = none → z.2.2 p cls d (unU z.2.1 D) (setU σ z.2.1 (some (.ref p))) H) ∧ (b = false → wClU K W0 D r cls d σ H)
inductive ClasU (X : Cx) : List ExceptHandler → List ClaU → Prop
  | nil : ClasU X [] []
  | cons {x n : Str} {c : Value} {i : Nat} {ts : Addr → Value → Option Addr → TS} {st : Stmt} {sts : List Stmt} {p1 p2 : Pos} {hl : List ExceptHandler} {l : List ClaU} (nm : Names X x c) (sl : X.N[i]? = some n) (kl : X.env.kindOf n = some .local)
      (su : ∀ (p : Addr) (oe : Obj) (cls : Value) (d : Option Addr) (pn : List (Addr × Obj)), Zc cls d oe → (∃ vs, oe.data = .fields vs) → PSs (X.suite p ((p, oe) :: pn)) (st :: sts) (ts p cls d)) (r : ClasU X hl l) : ClasU X (.ExceptHandler (some (.Name x p1)) (some n) (st :: sts) p2 :: hl) ((c, some i, ts) :: l)
  | bare {x : Str} {c : Value} {ts : Addr → Value → Option Addr → TS} {st : Stmt} {sts : List Stmt} {p1 p2 : Pos} {hl : List ExceptHandler} {l : List ClaU} (nm : Names X x c)
      (su : ∀ (p : Addr) (oe : Obj) (cls : Value) (d : Option Addr) (pn : List (Addr × Obj)), Zc cls d oe → (∃ vs, oe.data = .fields vs) → PSs (X.suite p ((p, oe) :: pn)) (st :: sts) (ts p cls d)) (r : ClasU X hl l) : ClasU X (.ExceptHandler (some (.Name x p1)) none (st :: sts) p2 :: hl) ((c, none, ts) :: l)
section
variable {X : Cx} {body : List Stmt} {h0 : ExceptHandler} {hl : List ExceptHandler} {l : List ClaU} {pos : Pos} {tb : WX → TS} {W0 : WX}
theorem tryU (nd : X.N.Nodup) (h1 : X.stack = X.env :: X.outer) (h2 : X.env.frame = some X.env.locals) (tk : Takes X W0)
    (hb : ∀ (W : WX) (pn : List (Addr × Obj)) (xe : Value → Shared → Prop), Takes (X.tr pn xe) W → PSs (X.tr pn xe) body (tb W)) (cl : ClasU X (h0 :: hl) l) : PS X (.Try body (h0 :: hl) [] [] pos) (fun D σ H => tb (wClU X.K W0 D l) D σ H) := by
  constructor
  intro pins s σ H D inv t
  have o := inv.ok
  have fr : X.A.frames = some (X.env :: X.outer) := by rw [o.frames, h1]
  apply wpAny_Try_except
  have takes : Takes (X.tr (X.pn ++ pins) fun e sA => wpAny (model X.prog X.w) X.A (noteFrame e X.env) (fun _ sB => wpAny (model X.prog X.w) X.A (setFlight e none) (fun _ sC =>
      wpAny (model X.prog X.w) X.A (handleBy e X.env (h0 :: hl)) (SP X pins D) X.xe sC) X.xe sB) X.xe sA) (wClU X.K W0 D l) := by
    intro u sT x
    obtain ⟨p, B, sI, qs, σ1, H1, cls, d, rfl, J0, notB, up, sky, free, os, ag, want⟩ := x
    have J : Inv X pins σ1 H1 sI := J0.ofTry o
    rw [h1] at sky
    refine Sky.land Zc.steady fr h2 sky fun hp land up3 => ?_
    obtain ⟨oe, fv, at_, zc, dat⟩ := land.there
    have Jh : Inv X pins σ1 H1 { sT with heap := hp } := J.landed notB land.1 (up.trans up3) os ag
    have out : p ∉ frs (X.env :: X.outer) := by
      intro m
      obtain ⟨_, q, eq, nq⟩ := land.2.2.1.mem m
      rw [at_] at eq
      cases eq
      exact nq _ dat
    have n1 : p ≠ X.env.locals := fun z => out (List.mem_filterMap.mpr ⟨X.env, List.mem_cons_self, by rw [h2, z]⟩)
    have n2 : p ∉ X.fs := fun m => by
      obtain ⟨y, hy, q⟩ := List.mem_filterMap.mp m
      exact out (List.mem_filterMap.mpr ⟨y, List.mem_cons_of_mem _ hy, q⟩)
    have S := Jh.suite at_ dat free n1 n2
    have walk : ∀ {hs : List ExceptHandler} {ls : List ClaU}, ClasU X hs ls → wClU X.K W0 D ls cls d σ1 H1 → wpAny (model X.prog X.w) X.A (handleBy (.ref p) X.env hs) (SP X pins D) X.xe { sT with heap := hp } := by
      intro hs ls c
      induction c with
      | nil =>
        intro want
        apply wpAny_handleBy_nil
        obtain ⟨_, _, _, oe', fv', T, oT, tt, a1, a2, a3, a4, a5⟩ := id land
        unfold PySem.passOn
        refine wpAny_bind (wpAny_field a1 a3 a4 ?_)
        rw [if_neg (by simp : ¬ ((Value.ref T == Value.none) = true))]
        have last : wpAny (model X.prog X.w) X.A (setFlight (.ref p) X.env.frame) (fun _ sZ => wpAny (model X.prog X.w) X.A (throw (.ref p) : Sem Flow) (SP X pins D) X.xe sZ) X.xe { sT with heap := hp } := by
          rw [h2]
          refine HandSPX.setFlight_upZ land fun hq eq up4 => wpAny_throw (tk _ _ ⟨p, B, sI, pins, σ1, H1, cls, d, rfl, J, notB, (up.trans up3).trans up4, .inr (.inr (by rw [h1]; exact eq)), free, os, ag, want⟩)
        first
          | exact wpAny_bind (wpAny_pure (wpAny_bind last))
          | exact wpAny_bind last
      | @cons x n c i ts st sts p1 p2 hl' l' nm sl kl su r ih =>
        intro want
        obtain ⟨b, isb, yes, no⟩ := want
        refine wpAny_handleBy_cons (codeAny_handlers_test ?_) (by intro q; cases q)
        have look : PySem.W.Looks (model X.prog X.w) hp (typeOf (.ref p)) cls := fun A Q E sx k q => wpAny_typeOf_ref (k _ _ at_) (by rw [zc.1]; exact q)
        have is_ := PySem.W.exm_one (M := model X.prog X.w) Jh.kIn look isb
        have name : ∀ {Q : Value → Shared → Prop} {E : Value → Shared → Prop}, Q c { sT with heap := hp } → wpAny (model X.prog X.w) (X.A.mark (some (.ref p))) (eval (.Name x p1) X.env) Q E { sT with heap := hp } := by
          intro Q E q
          obtain ⟨g1, g2, g3⟩ := nm
          rcases g3 with g3 | ⟨g3, g4, g5⟩
          · exact ld_glob (X := X.suite p ((p, oe) :: (X.pn ++ pins))) S g1 g3 q g2
          · exact ld_blt (X := X.suite p ((p, oe) :: (X.pn ++ pins))) S g1 g3 g4 q g5 g2
        refine name (is_.here ?_)
        cases b with
        | false => exact ih (no rfl)
        | true =>
          refine codeAny_handlers_suite_as ?_
          refine HandSPX.lands_againZ land fun h5 l5 up5 => ?_
          have J5 : Inv X pins σ1 H1 { sT with heap := h5 } := J.landed notB l5.1 ((up.trans up3).trans up5) os ag
          obtain ⟨o5, f5, b1, b2, b3⟩ := l5.there
          refine store_ok (X := X.suite p ((p, o5) :: (X.pn ++ pins))) (v := .ref p) (J5.suite b1 b3 free n1 n2) nd sl (.inl kl) rfl (fun s6 S6 => ?_) (.inr kl)
          refine wpAny_mono ((su p o5 cls d (X.pn ++ pins) b2 ⟨_, b3⟩).run [] s6 _ H1 _ S6 (yes rfl p free)) (fun fl s7 sp => ?_) (fun _ _ z => z.elim)
          have gone : ∀ {σ2 : L2.St} {H2 : Hp} {Q : Shared → Prop}, Inv (X.suite p ((p, o5) :: (X.pn ++ pins))) [] σ2 H2 s7 → (∀ s8, Inv X pins (σ2.set i none) H2 s8 → Q s8) →
              wpAny (model X.prog X.w) X.A (do bindName X.env n .none; unbindBehindTheSuite X.env n p2) (fun _ s8 => Q s8) X.xe s7 := fun {σ2 H2 Q} S7 q => gone_ok (S7.unsuite o) nd sl kl q
          cases fl with
          | ret u =>
            obtain ⟨v, σ2, H2, S7, rv, q⟩ := sp
            exact gone S7 fun s8 J8 => ⟨_, _, _, J8, rv, q⟩
          | next =>
            obtain ⟨σ2, H2, S7, q⟩ := sp
            exact gone S7 fun s8 J8 => ⟨_, _, J8, q⟩
          | brk =>
            obtain ⟨σ2, H2, S7, q⟩ := sp
            exact gone S7 fun s8 J8 => ⟨_, _, J8, q⟩
          | cont =>
            obtain ⟨σ2, H2, S7, q⟩ := sp
            exact gone S7 fun s8 J8 => ⟨_, _, J8, q⟩
      | @bare x c ts st sts p1 p2 hl' l' nm su r ih =>
        intro want
        obtain ⟨b, isb, yes, no⟩ := want
        refine wpAny_handleBy_cons (codeAny_handlers_test ?_) (by intro q; cases q)
        have look : PySem.W.Looks (model X.prog X.w) hp (typeOf (.ref p)) cls := fun A Q E sx k q => wpAny_typeOf_ref (k _ _ at_) (by rw [zc.1]; exact q)
        have is_ := PySem.W.exm_one (M := model X.prog X.w) Jh.kIn look isb
        have name : ∀ {Q : Value → Shared → Prop} {E : Value → Shared → Prop}, Q c { sT with heap := hp } → wpAny (model X.prog X.w) (X.A.mark (some (.ref p))) (eval (.Name x p1) X.env) Q E { sT with heap := hp } := by
          intro Q E q
          obtain ⟨g1, g2, g3⟩ := nm
          rcases g3 with g3 | ⟨g3, g4, g5⟩
          · exact ld_glob (X := X.suite p ((p, oe) :: (X.pn ++ pins))) S g1 g3 q g2
          · exact ld_blt (X := X.suite p ((p, oe) :: (X.pn ++ pins))) S g1 g3 g4 q g5 g2
        refine name (is_.here ?_)
        cases b with
        | false => exact ih (no rfl)
        | true =>
          refine codeAny_handlers_suite ?_
          refine HandSPX.lands_againZ land fun h5 l5 up5 => ?_
          have J5 : Inv X pins σ1 H1 { sT with heap := h5 } := J.landed notB l5.1 ((up.trans up3).trans up5) os ag
          obtain ⟨o5, f5, b1, b2, b3⟩ := l5.there
          have S6 := J5.suite b1 b3 free n1 n2
          refine wpAny_mono ((su p o5 cls d (X.pn ++ pins) b2 ⟨_, b3⟩).run [] _ _ H1 _ S6 (yes rfl p free)) (fun fl s7 sp => ?_) (fun _ _ z => z.elim)
          cases fl with
          | ret u =>
            obtain ⟨v, σ2, H2, S7, rv, q⟩ := sp
            exact ⟨v, σ2, H2, S7.unsuite o, rv, q⟩
          | next =>
            obtain ⟨σ2, H2, S7, q⟩ := sp
            exact ⟨σ2, H2, S7.unsuite o, q⟩
          | brk =>
            obtain ⟨σ2, H2, S7, q⟩ := sp
            exact ⟨σ2, H2, S7.unsuite o, q⟩
          | cont =>
            obtain ⟨σ2, H2, S7, q⟩ := sp
            exact ⟨σ2, H2, S7.unsuite o, q⟩
    exact walk cl want
  refine wpAny_mono ((hb (wClU X.K W0 D l) (X.pn ++ pins) _ takes).run [] s σ H D (inv.toTry _) t) (fun fl s1 sp => ?_) (fun e s1 he => he)
  cases fl with
  | ret u =>
    obtain ⟨v, σ2, H2, J2, rv, q⟩ := sp
    exact ⟨v, σ2, H2, J2.ofTry o, rv, q⟩
  | next =>
    obtain ⟨σ2, H2, J2, q⟩ := sp
    exact wpAny_execs_nil ⟨σ2, H2, J2.ofTry o, q⟩
  | brk =>
    obtain ⟨σ2, H2, J2, q⟩ := sp
    exact ⟨σ2, H2, J2.ofTry o, q⟩
  | cont =>
    obtain ⟨σ2, H2, J2, q⟩ := sp
    exact ⟨σ2, H2, J2.ofTry o, q⟩
end
end Vl
set_option Elab.async false
set_option linter.all false
set_option maxRecDepth 100000
set_option maxHeartbeats 2000000
namespace Vl
open PySem PySem.Spec PyProof.Rows L2 Sb
section
variable {X : Cx} {B : Bs} {Z : ZX} {CX : CXT} {k i : Nat} {fa : Addr} {fd : FuncData} {ps ks : List Str} {E : XK} {x y : Str} {p pos xpos apos : Pos} {a b c e : Expr} {es : List Expr} {kws : List Keyword} {f g h : Ev D} {fs gs : Ev (List D)} {m : List Bool} {Φ : List D → Res} {te : TE} {t : TA}
def fStar (f : Ev D) (fs : Ev (List D)) : Ev (List D) := fun env => (f env).bind fun d e1 => match d with
  | .tup l => (fs e1).bind fun m e2 => .val (l ++ m) e2
  | _ => .stuck
def fDGet2 (i : Nat) (f g : Ev D) : Ev D := fun env => match slotO env i with
  | some (_, .dk _ _) => (f env).bind fun z e1 => (g e1).bind fun w e2 => (match slotO e2 i with
    | some (_, d) => (match oDGet d z with
      | some r => .val (r.getD w) e2
      | none => .stuck)
    | none => .stuck)
  | _ => .stuck
def fCallK0 (m : List Bool) (Φ : List D → Res) (n : Nat) (gD : List D → List D → List D) (gs : Ev (List D)) : Ev D := fun env => (gs env).bind fun z e => if z.length = n ∧ (gD [] z).map (fun _ => false) = m then resE (Φ (gD [] z)) e else .stuck
def fDTwo (f1 g1 f2 g2 : Ev D) : Ev D := fun env => (f1 env).bind fun k1 e1 => (g1 e1).bind fun d1 e2 => (f2 e2).bind fun k2 e3 => (g2 e3).bind fun d2 e4 => match keyOf k1, keyOf k2 with
  | some y1, some y2 => if y1 = y2 then .stuck else .val (.dk [y1, y2] [d1, d2]) e4
  | _, _ => .stuck
end
section
variable {X : Cx} {B : Bs} {Z : ZX} {a b : Expr} {f g : Ev D} {pos : Pos}
def fDOneT (f g : Ev D) : Ev D := fun env => (f env).bind fun k e1 => (g e1).bind fun d e2 => match tkeyOf k with
  | some y => .val (.dt [y] [d]) e2
  | none => .stuck
end
end Vl
set_option Elab.async false
set_option linter.all false
set_option maxRecDepth 100000
set_option maxHeartbeats 2000000
namespace Vl
open PySem PySem.Spec PyProof.Rows L2 Sb
section
variable {X : Cx} {B : Bs} {Z : ZX} {a b e o : Expr} {pos xpos apos cpos : Pos} {f g : Ev D} {x : Str} {i : Nat}
def dLen : D → Nat
  | .dk _ l => l.length
  | .dt _ l => l.length
  | _ => 0
end
def isDD : D → Bool
  | .dk _ _ => true
  | .dt _ _ => true
  | _ => false
section
variable {X : Cx} {B : Bs} {Z : ZX} {a b e o : Expr} {pos xpos apos cpos : Pos} {f g : Ev D} {x : Str} {i : Nat}
def fSetDX (i : Nat) (f g : Ev D) : Ev Fl := fun env => match slotO env i with
  | some (_, d0) => if isDD d0 then (f env).bind fun y e1 => (g e1).bind fun z e2 => (match slotO e2 i with
    | some (b, d) => (match oDGet d y with
      | some (some _) => if dLen d < sizeLine then .val .nx e2 else .stuck
      | some none => (match oDPut d y z with
        | some d' => .val .nx (e2.set i (own b d'))
        | none => .stuck)
      | none => .stuck)
    | none => .stuck) else .stuck
  | none => .stuck
def fDNewB (t : List Slot → Bool) : Ev D := fun env => .val (if t env then .dt [] [] else .dk [] []) env
def fIdx (f g : Ev D) : Ev D := fun env => (f env).bind fun d e1 => match d with
  | .lst l => (g e1).bind fun y e2 => if (D.lst l).eok && y.eok then (match l.findIdx? (fun z => PyData.eqv z.py y.py) with
    | some j => .val (.int (j : Int)) e2
    | none => .stuck) else .stuck
  | _ => .stuck
end
def fPar3M (i j l : Nat) (f g h : Ev D) : Ev Fl := fun env => (f env).bind fun d1 e1 => (g e1).bind fun d2 e2 => (h e2).bind fun d3 e3 => .val .nx (((e3.set i (.sh d1)).set j (.ow d2)).set l (.sh d3))
end Vl
set_option Elab.async false
set_option linter.all false
set_option maxRecDepth 100000
set_option maxHeartbeats 2000000
namespace Vl
open PySem PySem.Spec PyProof.Rows L2 Sb
end Vl
set_option Elab.async false
set_option linter.all false
set_option maxRecDepth 100000
set_option maxHeartbeats 2000000
namespace Vl
open PySem PySem.W PySem.Spec PyProof.Rows L2 Sb
end Vl
set_option Elab.async false
set_option linter.all false
set_option maxRecDepth 100000
set_option maxHeartbeats 2000000
namespace Vl
open PySem PySem.W PySem.Spec PyProof.Rows L2 Sb
section
variable {X : Cx} {k : Nat} {f : Addr} {fd : FuncData} {ps : List Str} {sp : Sp}
structure KInv (X : Cx) (ct : Ct) (pins : List (Addr × Obj)) (σ : L2.St) (H : Hp) (a kS : Addr) (e1 : Nat) (kd : List D) (i : Nat) (s' : Shared) : Prop where
  ex : ∃ (H' : Hp) (kvs : List V) (kA : Array Value) (e : Nat), Inv X pins σ H' s' ∧ Same H H' ∧ s'.heap.get? kS = some (seqObj "list" kA e) ∧ s'.heap.get? a = some (seqObj "list" #[] e1) ∧ FpOk X pins H' kS ∧ FpOk X pins H' a ∧ Vals kvs kA.toList ∧ Rps X.K ct H' kvs (kd.take i)
theorem Rps.snoc {K : Frag} {ct : Ct} {H : Hp} {v : V} {d : D} (h : Rp K ct H v d) : ∀ {vs : List V} {ds : List D}, Rps K ct H vs ds → Rps K ct H (vs ++ [v]) (ds ++ [d])
  | _, _, .nil => .cons h .nil
  | _, _, .cons a t => .cons a (Rps.snoc h t)
theorem Vals.snoc {v : V} {u : Value} (h : RelV v u) {vs : List V} {us : List Value} (t : Vals vs us) : Vals (vs ++ [v]) (us ++ [u]) := by
  induction t with
  | nil => exact .cons h .nil
  | cons a _ ih => exact .cons a ih
theorem Vals.get {vs : List V} {us : List Value} (t : Vals vs us) : ∀ {i : Nat} {u : Value}, us[i]? = some u → ∃ v, vs[i]? = some v ∧ RelV v u := by
  induction t with
  | nil => simp
  | cons a _ ih =>
    intro i u h
    cases i with
    | zero =>
      simp only [List.getElem?_cons_zero, Option.some.injEq] at h ⊢
      subst h
      exact ⟨_, rfl, a⟩
    | succ i => simpa using ih (by simpa using h)
/-- what stands at an address of one's own becomes known -/
theorem adopt {pins : List (Addr × Obj)} {σ : L2.St} {H : Hp} {s : Shared} {a : Addr} {o : HO} (I : Inv X pins σ H s) (fa : FpOk X pins H a) (ok : ObjOk X.prog X.w (upd H a o) s.heap a o) : Inv X pins σ (upd H a o) s := by
  obtain ⟨f1, f2, f3, f4, f5, f6⟩ := fa
  have ne : ∀ {b : Addr} {u : HO}, H b = some u → b ≠ a := fun h e => by
    subst e
    rw [f1] at h
    cases h
  refine I.step (H' := upd H a o) (h' := s.heap) (g' := s.gens) (t' := s.toks) (d' := s.drawn) (ch := [a]) ?_ (fun b o _ _ _ h _ => h) (fun b o _ _ _ h _ => ⟨_, h⟩) ?_ (fun b o _ h => ⟨o, h⟩) ?_ ?_ ?_ (fun m h => h) ?_ I.bare
  · intro b hb
    rw [List.mem_singleton] at hb
    subst hb
    exact ⟨f4, f2, f5, f6⟩
  · intro b o hb _ h
    rw [upd_ne (by simpa using hb)]
    exact h
  · intro b xs h
    rw [upd_ne (ne h)]
    exact h
  · intro b o u h
    rw [upd_ne (ne h)]
    exact h
  · intro b ps h
    exact ⟨#[], by rw [upd_ne (ne h), h]; simp⟩
  · intro b u h
    by_cases c : b = a
    · subst c
      rw [upd_same] at h
      cases h
      exact ok
    · rw [upd_ne c] at h
      exact (I.hok b u h).stay (fun _ _ _ h => h) (fun d h => by rw [upd_ne (ne h)]; exact h) (fun d xs h => by rw [upd_ne (ne h)]; exact h)
end
end Vl
set_option Elab.async false
set_option linter.all false
set_option maxRecDepth 100000
set_option maxHeartbeats 2000000
namespace Vl
open PySem PySem.W PySem.Spec PyProof.Rows L2 Sb
end Vl
set_option Elab.async false
set_option linter.all false
set_option maxRecDepth 100000
set_option maxHeartbeats 2000000
namespace Vl
open PySem PySem.Spec PyProof.Rows L2 Sb
end Vl
set_option Elab.async false
set_option linter.all false
set_option maxRecDepth 100000
set_option maxHeartbeats 2000000
namespace Vl
open PySem PySem.Spec PyProof.Rows L2 Sb
end Vl
set_option Elab.async false
set_option linter.all false
set_option maxRecDepth 100000
set_option maxHeartbeats 1000000
namespace Vl
open PySem L2 Sb
end Vl
set_option Elab.async false
set_option linter.all false
set_option maxRecDepth 100000
set_option maxHeartbeats 1000000
namespace Vl
open PySem PySem.Spec PyProof.Rows L2 Sb
mutual
/-- without boxes -/
def D.ub : D → D
  | .lst l => .lst (D.ubs l)
  | .dk ks l => .dk ks (D.ubs l)
  | .dt ks l => .dt ks (D.ubs l)
  | .ob c l => .ob c (D.ubs l)
  | .nk ks l => .nk ks (D.ubs l)
  | d => d
def D.ubs : List D → List D
  | [] => []
  | .bx d :: l => D.ub d :: D.ubs l
  | .non :: l => .non :: D.ubs l
  | .bl b :: l => .bl b :: D.ubs l
  | .int i :: l => .int i :: D.ubs l
  | .str s :: l => .str s :: D.ubs l
  | .tup k :: l => .tup k :: D.ubs l
  | .lst k :: l => .lst k :: D.ubs l
  | .ctup k :: l => .ctup k :: D.ubs l
  | .ob c k :: l => .ob c k :: D.ubs l
  | .dk ks k :: l => .dk ks k :: D.ubs l
  | .dt ks k :: l => .dt ks k :: D.ubs l
  | .nk ks k :: l => .nk ks k :: D.ubs l
  | .ex ks k :: l => .ex ks k :: D.ubs l
  | .scr ns :: l => .scr ns :: D.ubs l
  | .cl c :: l => .cl c :: D.ubs l
end
section
variable {K : PySem.W.Frag} {ct : Ct} {H H' F F' : Hp} {r r' : List Nat → Option Addr}
theorem ubs_sh {v : V} {d : D} {l : List D} (h : Rp K ct F v d) : D.ubs (d :: l) = d :: D.ubs l := by
  cases h <;> simp [D.ubs]
theorem TrsAt.len : ∀ {vs : List V} {l : List D} {π : List Nat} {j : Nat}, TrsAt K ct H F r π j vs l → vs.length = l.length
  | _, _, _, _, .nil => rfl
  | _, _, _, _, .sh h t => by simp [TrsAt.len t]
  | _, _, _, _, .bx h0 h t => by simp [TrsAt.len t]
mutual
theorem TrAt.rp (hF : ∀ π a, r π = some a → F' a = H a) (s : Same F F') : ∀ {π : List Nat} {d : D}, TrAt K ct H F r π d → ∃ a, r π = some a ∧ Rp K ct F' (.ref a) d.ub
  | _, _, .lst h0 h t => ⟨_, h0, by
    simp only [D.ub]
    exact .lst ((hF _ _ h0).trans h) (TrsAt.rp hF s t)⟩
  | _, _, .dk h0 hl h t => ⟨_, h0, by
    simp only [D.ub]
    exact .dk hl ((hF _ _ h0).trans h) (TrsAt.rp hF s t)⟩
  | _, _, .dt h0 hl h t => ⟨_, h0, by
    simp only [D.ub]
    exact .dt hl ((hF _ _ h0).trans h) (TrsAt.rp hF s t)⟩
  | _, _, .ob h0 hc hl h t => ⟨_, h0, by
    simp only [D.ub]
    exact .ob hc hl ((hF _ _ h0).trans h) (TrsAt.rp hF s t)⟩
  | _, _, .nk h0 h e1 e2 hk tk t => ⟨_, h0, by
    simp only [D.ub]
    exact .nk ((hF _ _ h0).trans h) e1 e2 hk (tk.mono s) (TrsAt.rp hF s t)⟩
theorem TrsAt.rp (hF : ∀ π a, r π = some a → F' a = H a) (s : Same F F') : ∀ {π : List Nat} {j : Nat} {vs : List V} {l : List D}, TrsAt K ct H F r π j vs l → Rps K ct F' vs (D.ubs l)
  | _, _, _, _, .nil => by
    simp only [D.ubs]
    exact .nil
  | _, _, _, _, .sh h t => by
    rw [ubs_sh h]
    exact .cons (h.mono s) (TrsAt.rp hF s t)
  | _, _, _, _, .bx h0 h t => by
    simp only [D.ubs]
    obtain ⟨a, e, q⟩ := TrAt.rp hF s h
    rw [h0] at e
    cases e
    exact .cons q (TrsAt.rp hF s t)
end
theorem TrsAt.of {π : List Nat} : ∀ {vs : List V} {l : List D} {j : Nat}, Rps K ct F vs l → TrsAt K ct H F r π j vs l
  | _, _, _, .nil => .nil
  | _, _, _, .cons h t => .sh h (TrsAt.of t)
/-- a flat thing is a tree -/
theorem OwnAt.tr {a : Addr} {d : D} {π : List Nat} (h : OwnAt K ct H F a d) (h0 : r π = Option.some a) : TrAt K ct H F r π d := by
  cases d with
  | lst l =>
    obtain ⟨vs, h1, h2⟩ := h
    exact .lst h0 h1 (.of h2)
  | dk ks l =>
    obtain ⟨vs, hl, h1, h2⟩ := h
    exact .dk h0 hl h1 (.of h2)
  | dt ks l =>
    obtain ⟨vs, hl, h1, h2⟩ := h
    exact .dt h0 hl h1 (.of h2)
  | ob c l =>
    obtain ⟨C, dx, ns, vs, hc, hl, h1, h2⟩ := h
    exact .ob h0 hc hl h1 (.of h2)
  | nk ks l =>
    obtain ⟨es, h1, h2, h3, h4⟩ := h
    exact .nk h0 h1 rfl rfl h2 h3 (.of h4)
  | _ => exact h.elim
theorem TrsAt.get {π : List Nat} : ∀ {vs : List V} {l : List D} {j i : Nat} {e : D}, TrsAt K ct H F r π j vs l → l[i]? = some (.bx e) → ∃ b, vs[i]? = some (.ref b) ∧ r ((j + i) :: π) = some b ∧ TrAt K ct H F r ((j + i) :: π) e
  | _, _, _, _, _, .nil, h => by simp at h
  | _, _, j, 0, e, .sh h t, q => by
    simp at q
    subst q
    cases h
  | _, _, j, 0, e, .bx h0 h t, q => by
    simp at q
    subst q
    exact ⟨_, rfl, h0, h⟩
  | _, _, j, i + 1, e, .sh h t, q => by
    obtain ⟨b, h1, h2, h3⟩ := TrsAt.get (i := i) t (by simpa using q)
    exact ⟨b, by simpa using h1, by rw [show j + (i + 1) = j + 1 + i by omega]; exact h2, by rw [show j + (i + 1) = j + 1 + i by omega]; exact h3⟩
  | _, _, j, i + 1, e, .bx h0 h t, q => by
    obtain ⟨b, h1, h2, h3⟩ := TrsAt.get (i := i) t (by simpa using q)
    exact ⟨b, by simpa using h1, by rw [show j + (i + 1) = j + 1 + i by omega]; exact h2, by rw [show j + (i + 1) = j + 1 + i by omega]; exact h3⟩
theorem TrsAt.app {π : List Nat} : ∀ {vs ws : List V} {l m : List D} {j : Nat}, TrsAt K ct H F r π j vs l → TrsAt K ct H F r π (j + l.length) ws m → TrsAt K ct H F r π j (vs ++ ws) (l ++ m)
  | _, _, _, _, _, .nil, s => by simpa using s
  | _, _, _, _, _, .sh h t, s => .sh h (TrsAt.app t (by rw [List.length_cons] at s; rw [show ∀ a b : Nat, a + 1 + b = a + (b + 1) by intros; omega]; exact s))
  | _, _, _, _, _, .bx h0 h t, s => .bx h0 h (TrsAt.app t (by rw [List.length_cons] at s; rw [show ∀ a b : Nat, a + 1 + b = a + (b + 1) by intros; omega]; exact s))
end
end Vl
set_option Elab.async false
set_option linter.all false
set_option maxRecDepth 100000
set_option maxHeartbeats 1000000
namespace Vl
open PySem PySem.Spec PyProof.Rows L2 Sb
section
variable {K : PySem.W.Frag} {B : Bs} {G G1 : Gh} {env : List Slot} {σ : L2.St} {H H1 H' : Hp} {a : Addr} {o : HO}
def lookS (b : Bool) : Slot → Slot
  | .sh d => .sh d
  | .ow d => if b then .sh d else .un
  | .io d => if b then .sh d else .un
  | .tr _ d => if b then .sh d.ub else .un
  | .un => .un
def lookE (is : List Nat) : Nat → List Slot → List Slot
  | _, [] => []
  | i, s :: l => lookS (is.contains i) s :: lookE is (i + 1) l
theorem lookE_len (is : List Nat) : ∀ (l : List Slot) (i : Nat), (lookE is i l).length = l.length
  | [], _ => rfl
  | s :: l, i => by simp [lookE, lookE_len is l (i + 1)]
theorem lookE_get (is : List Nat) : ∀ (l : List Slot) (i j : Nat), (lookE is i l)[j]? = (l[j]?).map (lookS (is.contains (i + j)))
  | [], _, _ => by simp [lookE]
  | s :: l, i, 0 => by simp [lookE]
  | s :: l, i, j + 1 => by
    simp only [lookE, List.getElem?_cons_succ]
    rw [lookE_get is l (i + 1) j, show i + 1 + j = i + (j + 1) by omega]
/-- things that are changed in place -/
def isMut : HO → Prop
  | .lst _ => True
  | .dK _ => True
  | .dT _ => True
  | .ins _ _ _ => True
  | .ext _ => True
  | _ => False
def seenS (is : List Nat) (G : Gh) (H : Hp) (p : Addr) : Prop := (∃ i, i ∈ is ∧ (G.r i = some p ∨ ∃ π, G.t i π = some p)) ∧ ∃ o, H p = some o ∧ isMut o
def lookG (is : List Nat) (G : Gh) (H : Hp) : Gh := ⟨fun p => G.S p ∧ ¬ seenS is G H p, fun _ => none, fun _ _ => none⟩
theorem ownMut {ct : Ct} {F : Hp} {d : D} (h : OwnAt K ct H F a d) : ∃ o, H a = some o ∧ isMut o := by
  cases d with
  | lst l =>
    obtain ⟨vs, h1, h2⟩ := h
    exact ⟨_, h1, trivial⟩
  | dk ks l =>
    obtain ⟨vs, hl, h1, h2⟩ := h
    exact ⟨_, h1, trivial⟩
  | dt ks l =>
    obtain ⟨vs, hl, h1, h2⟩ := h
    exact ⟨_, h1, trivial⟩
  | ob c l =>
    obtain ⟨C, dx, ns, vs, hc, hl, h1, h2⟩ := h
    exact ⟨_, h1, trivial⟩
  | nk ks l =>
    obtain ⟨es, h1, h2⟩ := h
    exact ⟨_, h1, trivial⟩
  | _ => exact h.elim
mutual
/-- the parts of a tree are changed in place -/
theorem TrAt.cut {ct : Ct} {F : Hp} {r r' : List Nat → Option Addr} (hr : ∀ π p o, r π = some p → H p = some o → isMut o → r' π = some p) : ∀ {π : List Nat} {d : D}, TrAt K ct H F r π d → TrAt K ct H F r' π d
  | _, _, .lst h0 h t => .lst (hr _ _ _ h0 h trivial) h (TrsAt.cut hr t)
  | _, _, .dk h0 hl h t => .dk (hr _ _ _ h0 h trivial) hl h (TrsAt.cut hr t)
  | _, _, .dt h0 hl h t => .dt (hr _ _ _ h0 h trivial) hl h (TrsAt.cut hr t)
  | _, _, .ob h0 hc hl h t => .ob (hr _ _ _ h0 h trivial) hc hl h (TrsAt.cut hr t)
  | _, _, .nk h0 h e1 e2 hk tk t => .nk (hr _ _ _ h0 h trivial) h e1 e2 hk tk (TrsAt.cut hr t)
theorem TrsAt.cut {ct : Ct} {F : Hp} {r r' : List Nat → Option Addr} (hr : ∀ π p o, r π = some p → H p = some o → isMut o → r' π = some p) : ∀ {π : List Nat} {j : Nat} {vs : List V} {l : List D}, TrsAt K ct H F r π j vs l → TrsAt K ct H F r' π j vs l
  | _, _, _, _, .nil => .nil
  | _, _, _, _, .sh h t => .sh h (TrsAt.cut hr t)
  | _, _, _, _, .bx h0 h t => by
    have q := TrAt.cut hr h
    obtain ⟨x, e, _⟩ := h.root
    rw [h0] at e
    cases e
    obtain ⟨o, ho, hm⟩ : ∃ o, H _ = some o ∧ isMut o := by
      cases h with
      | lst g h t => rw [h0] at g; cases g; exact ⟨_, h, trivial⟩
      | dk g hl h t => rw [h0] at g; cases g; exact ⟨_, h, trivial⟩
      | dt g hl h t => rw [h0] at g; cases g; exact ⟨_, h, trivial⟩
      | ob g hc hl h t => rw [h0] at g; cases g; exact ⟨_, h, trivial⟩
      | nk g h e1 e2 hk tk t => rw [h0] at g; cases g; exact ⟨_, h, trivial⟩
    exact .bx (hr _ _ _ h0 ho hm) q (TrsAt.cut hr t)
end
open Classical in
theorem Cfg.look (is : List Nat) (c : Cfg K B G env σ H) : Cfg K B.nt (lookG is G H) (lookE is 0 env) σ H := by
  have le : Same (off G.S H) (off (lookG is G H).S H) := fun p u e => by
    obtain ⟨n, e⟩ := off_inv e
    rw [off_at fun z => n z.1]
    exact e
  have get : ∀ {j : Nat} {s : Slot}, (lookE is 0 env)[j]? = some s → ∃ s0, env[j]? = some s0 ∧ s = lookS (is.contains j) s0 := fun {j s} h => by
    rw [lookE_get, Nat.zero_add] at h
    cases e : env[j]? with
    | none =>
      rw [e] at h
      cases h
    | some s0 =>
      rw [e] at h
      exact ⟨s0, rfl, (Option.some.inj h).symm⟩
  have noow : ∀ {b : Bool} {s : Slot}, (∀ d, lookS b s ≠ .ow d) ∧ (∀ d, lookS b s ≠ .io d) ∧ ∀ b' d, lookS b s ≠ .tr b' d := fun {b s} => by
    cases s <;> cases b <;> simp [lookS]
  refine ⟨by rw [lookE_len]; exact c.len, fun j d e => ?_, fun j d e => ?_, fun j d e => ?_, fun j x z => (by cases z), fun i j x z => (by cases z), fun x z => c.live x z.1, fun j d x e z => (by cases z), c.dom0, ⟨fun j b d e => ?_, fun j π x z => (by cases z), fun j π k ρ x z => (by cases z), fun j π k x z => (by cases z), fun j d e => ?_, fun j π x b d e z => (by cases z), fun q P hq => (by cases hq)⟩⟩
  · obtain ⟨s0, e0, es⟩ := get e
    cases s0 with
    | un => cases es
    | sh d0 =>
      obtain ⟨v, g1, g2⟩ := c.sh j d0 e0
      cases es
      exact ⟨v, g1, g2.mono le⟩
    | ow d0 =>
      simp only [lookS] at es
      split at es
      · rename_i hc
        obtain ⟨x, g1, g2, g3⟩ := c.ow j d0 e0
        cases es
        exact ⟨_, g2, (g3.mono rfl le).rp (off_at fun z => z.2 ⟨⟨j, by simpa using hc, .inl g1⟩, ownMut g3⟩)⟩
      · cases es
    | io d0 =>
      simp only [lookS] at es
      split at es
      · rename_i hc
        obtain ⟨x, g1, g0, g2, g3⟩ := c.io j d0 e0
        cases es
        exact ⟨_, g2, (g3.mono rfl le).rp (off_at fun z => z.2 ⟨⟨j, by simpa using hc, .inl g1⟩, ownMut g3⟩)⟩
      · cases es
    | tr b0 d0 =>
      simp only [lookS] at es
      split at es
      · rename_i hc
        obtain ⟨x, g1, g2, g3⟩ := c.trs.at_ j b0 d0 e0
        cases es
        have g4 := g3.cut (r' := fun π => match G.t j π with
          | some p => if seenS is G H p then some p else none
          | none => none) (fun π p o h1 h2 h3 => by
            rw [h1]
            exact if_pos ⟨⟨j, by simpa using hc, .inr ⟨π, h1⟩⟩, o, h2, h3⟩)
        obtain ⟨q, k1, k2⟩ := g4.rp (F' := off (lookG is G H).S H) (fun π p h1 => by
          split at h1
          · rename_i p' hp
            by_cases hs : seenS is G H p'
            · rw [if_pos hs] at h1
              cases h1
              exact off_at fun z => z.2 hs
            · rw [if_neg hs] at h1
              cases h1
          · cases h1) le
        simp only [g1] at k1
        by_cases hs : seenS is G H x
        · rw [if_pos hs] at k1
          cases k1
          exact ⟨_, g2, k2⟩
        · rw [if_neg hs] at k1
          cases k1
      · cases es
  · obtain ⟨s0, e0, es⟩ := get e
    exact absurd es.symm (noow.1 d)
  · obtain ⟨s0, e0, es⟩ := get e
    exact absurd es.symm (noow.2.1 d)
  · obtain ⟨s0, e0, es⟩ := get e
    exact absurd es.symm (noow.2.2 b d)
  · obtain ⟨s0, e0, es⟩ := get e
    exact absurd es.symm (noow.2.2 true d)
end
end Vl
set_option Elab.async false
set_option linter.all false
set_option maxRecDepth 100000
set_option maxHeartbeats 1000000
namespace Vl
open PySem PySem.Spec PyProof.Rows L2 Sb
theorem TrsAt.put {K : PySem.W.Frag} {ct : Ct} {H F : Hp} {r : List Nat → Option Addr} {π : List Nat} {k : Key} {v : V} {d : D} (rv : Rp K ct F v d) : ∀ {ks : List Key} {vs : List V} {l : List D} {j : Nat}, ks.length = vs.length → TrsAt K ct H F r π j vs l → TrsAt K ct H F r π j (putVs ks vs k v) (putKs ks l k d).2 := by
  intro ks vs l j hl t
  unfold putVs putKs
  by_cases e : (ks.any fun y => decide (y = k)) = true
  · rw [if_pos e, if_pos e]
    clear e
    show TrsAt K ct H F r π j (List.zipWith _ ks vs) (List.zipWith _ ks l)
    induction ks generalizing vs l j with
    | nil => exact .nil
    | cons y ks ih =>
      cases t with
      | nil => simp at hl
      | sh h t =>
        simp only [List.zipWith_cons_cons]
        have hl := Nat.succ.inj hl
        by_cases ey : y = k
        · rw [if_pos ey, if_pos ey]
          exact .sh rv (ih hl t)
        · rw [if_neg ey, if_neg ey]
          exact .sh h (ih hl t)
      | bx h0 h t =>
        simp only [List.zipWith_cons_cons]
        have hl := Nat.succ.inj hl
        by_cases ey : y = k
        · rw [if_pos ey, if_pos ey]
          exact .sh rv (ih hl t)
        · rw [if_neg ey, if_neg ey]
          exact .bx h0 h (ih hl t)
  · rw [if_neg e, if_neg e]
    exact t.app (.sh rv .nil)
end Vl
set_option Elab.async false
set_option linter.all false
set_option maxRecDepth 100000
set_option maxHeartbeats 1000000
namespace Vl
open PySem PySem.Spec PyProof.Rows L2 Sb
/-- a new tree -/
def liftNT (K : PySem.W.Frag) (B : Bs) (Z : ZX) (f : Ev D) : TE := fun σ H Q => ∃ G env, Cfg K B G env σ H ∧ postG K B Z G σ H (f env) (fun d _ G' H' => ∀ (r : List Nat → Option Addr) (p : Addr), r [] = some p → (∀ π q, r π = some q → H q = none ∧ G'.S q ∧ G'.un q) → (∀ π ρ q, r π = some q → r ρ = some q → π = ρ) → TrAt K B.ct H' (off G'.S H') r [] d → Q (.ref p) H')
structure DNT (X : Cx) (B : Bs) (Z : ZX) (e : Expr) (f : Ev D) : Prop where
  pe : PE X e (liftNT X.K B Z f)
section
variable {X : Cx} {B : Bs} {Z : ZX} {a b e e1 e2 o : Expr} {pos xpos apos cpos spos pos' : Pos} {f g h : Ev D} {i j : Nat} {x : Str}
theorem DN.nt (h : DN X B Z e f) : DNT X B Z e f :=
  ⟨PE.weak h.pe fun σ H Q ⟨G, env, cf, q⟩ => ⟨G, env, cf, post_imp q fun d e1 G1 H1 m1 c1 p1 p hp hS hR ho => p1 (fun π => if π = [] then some p else none) p (if_pos rfl) (fun π q hq => by
      by_cases e : π = []
      · rw [if_pos e] at hq
        cases hq
        exact ⟨hp, hS, hR⟩
      · rw [if_neg e] at hq
        cases hq) (fun π ρ q h1 h2 => by
      by_cases e : π = []
      · by_cases e2 : ρ = []
        · rw [e, e2]
        · rw [if_neg e2] at h2
          cases h2
      · rw [if_neg e] at h1
        cases h1) (ho.tr (if_pos rfl))⟩⟩
end
end Vl
set_option Elab.async false
set_option linter.all false
set_option maxRecDepth 100000
set_option maxHeartbeats 1000000
namespace Vl
open PySem PySem.Spec PyProof.Rows L2 Sb
mutual
/-- without a dict -/
def D.nd : D → Bool
  | .dk _ _ => false
  | .dt _ _ => false
  | .bx _ => false
  | .nk _ _ => false
  | .ex _ _ => false
  | .tup l => D.nds l
  | .ctup l => D.nds l
  | .lst l => D.nds l
  | .ob _ l => D.nds l
  | _ => true
def D.nds : List D → Bool
  | [] => true
  | d :: l => D.nd d && D.nds l
end
end Vl
set_option Elab.async false
set_option linter.all false
set_option maxRecDepth 100000
set_option maxHeartbeats 1000000
namespace Vl
open PySem PySem.Spec PyProof.Rows L2 Sb
section
variable {X : Cx} {B : Bs} {Z Zb : ZX} {a b e elt key tg o it : Expr} {pos xpos apos cpos : Pos} {f fk fe : Ev D} {fi : Ev (List D)} {ft : Ev Bool} {p : Pat} {i j : Nat} {x c fn : Str} {W : L2.St → Hp → Addr → Prop} {g : List Slot → Option D} {is : List Nat}
/-- where a tree of new lists stands -/
def rNew (L : Addr) (as : List Addr) : List Nat → Option Addr
  | [] => some L
  | [j] => as[j]?
  | _ => none
theorem rNew_kids {K : PySem.W.Frag} {ct : Ct} {H F : Hp} {L : Addr} {as : List Addr} (h : ∀ q, q ∈ as → H q = some (.lst [])) : ∀ (bs : List Addr) (j : Nat), as.drop j = bs → TrsAt K ct H F (rNew L as) [] j (bs.map V.ref) (List.replicate bs.length (.bx (.lst [])))
  | [], _, _ => .nil
  | b :: bs, j, e => by
    have hb : as[j]? = some b := by
      have := congrArg (fun l => l[0]?) e
      simpa using this
    have e' : as.drop (j + 1) = bs := by
      have := congrArg List.tail e
      simpa using this
    rw [List.length_cons, List.replicate_succ, List.map_cons]
    exact .bx hb (.lst hb (h b (List.mem_of_getElem? hb)) .nil) (rNew_kids h bs (j + 1) e')
/-- the state while new lists are made -/
structure NewLs (G1 : Gh) (H1 : Hp) (G : Gh) (H : Hp) (L : Addr) (as : List Addr) : Prop where
  nd : (L :: as).Nodup
  fr : ∀ q, q ∈ L :: as → H1 q = none ∧ G.S q ∧ G.un q
  at_ : ∀ q, q ∈ as → H q = some (.lst [])
theorem NewLs.one {G1 G : Gh} {H1 H : Hp} {L q : Addr} {as : List Addr} {env : List Slot} {σ : L2.St} {K : PySem.W.Frag} {B : Bs} (n : NewLs G1 H1 G H L as) (m : Mono G1 H1 G H) (c : Cfg K B G env σ H) (hq : H q = none) : NewLs G1 H1 (G.hide q) (upd H q (.lst [])) L (as ++ [q]) := by
  have qn : q ∉ L :: as := fun z => c.live q (n.fr q z).2.1 hq
  refine ⟨?_, fun y hy => ?_, fun y hy => ?_⟩
  · rw [← List.cons_append]
    exact List.nodup_append.mpr ⟨n.nd, by simp, fun a ha b hb e => by
      rw [List.mem_singleton] at hb
      subst hb
      subst e
      exact qn ha⟩
  · rw [← List.cons_append, List.mem_append, List.mem_singleton] at hy
    rcases hy with hy | rfl
    · obtain ⟨h1, h2, h3⟩ := n.fr y hy
      exact ⟨h1, .inl h2, h3⟩
    · exact ⟨undom m hq, .inr rfl, c.newUn hq⟩
  · rw [List.mem_append, List.mem_singleton] at hy
    rcases hy with hy | rfl
    · rw [upd_ne fun z => qn (by rw [← z]; exact List.mem_cons_of_mem _ hy)]
      exact n.at_ y hy
    · exact upd_same
theorem NewLs.step {G1 G G2 : Gh} {H1 H H2 : Hp} {L : Addr} {as : List Addr} (n : NewLs G1 H1 G H L as) (m : Mono G H G2 H2) : NewLs G1 H1 G2 H2 L as :=
  ⟨n.nd, fun q hq => by
    obtain ⟨h1, h2, h3⟩ := n.fr q hq
    obtain ⟨x1, x2, _⟩ := m.tmp q h2 h3
    exact ⟨h1, x1, x2⟩, fun q hq => by
    obtain ⟨h1, h2, h3⟩ := n.fr q (List.mem_cons_of_mem _ hq)
    rw [(m.tmp q h2 h3).2.2]
    exact n.at_ q hq⟩
end
end Vl
set_option Elab.async false
set_option linter.all false
set_option maxRecDepth 100000
set_option maxHeartbeats 1000000
namespace Vl
open PySem PySem.Spec PyProof.Rows L2 Sb
end Vl
set_option Elab.async false
set_option linter.all false
set_option maxRecDepth 100000
set_option maxHeartbeats 1000000
namespace Vl
open PySem PySem.Spec PyProof.Rows L2 Sb
section
variable {K : PySem.W.Frag} {B : Bs} {G G1 : Gh} {env : List Slot} {σ : L2.St} {H H1 H' : Hp}
theorem NewLs.lst {ct : Ct} {F : Hp} {L : Addr} {as : List Addr} (n : NewLs G1 H1 G H L as) (h : H L = some (.lst (as.map V.ref))) : TrAt K ct H F (rNew L as) [] (.lst (List.replicate as.length (.bx (.lst [])))) :=
  .lst rfl h (rNew_kids n.at_ as 0 rfl)
theorem NewLs.dk {ct : Ct} {F : Hp} {L : Addr} {as : List Addr} {ks : List Key} (n : NewLs G1 H1 G H L as) (hl : ks.length = as.length) (h : H L = some (.dK (ks.zip (as.map V.ref)))) : TrAt K ct H F (rNew L as) [] (.dk ks (List.replicate as.length (.bx (.lst [])))) :=
  .dk rfl (by rw [List.length_map]; exact hl) h (rNew_kids n.at_ as 0 rfl)
end
end Vl
set_option Elab.async false
set_option linter.all false
set_option maxRecDepth 100000
set_option maxHeartbeats 1000000
namespace Vl
open PySem PySem.Spec PyProof.Rows L2 Sb
end Vl
set_option Elab.async false
set_option linter.all false
set_option maxRecDepth 100000
set_option maxHeartbeats 1000000
namespace Vl
open PySem PySem.Spec PyProof.Rows L2 Sb
end Vl
set_option Elab.async false
set_option linter.all false
set_option maxRecDepth 100000
set_option maxHeartbeats 1000000
namespace Vl
open PySem PySem.Spec PySem.Calls PyProof.Rows L2 Sb
section
variable {K : PySem.W.Frag} {B : Bs} {G : Gh} {env : List Slot} {σ : L2.St} {H H' : Hp} {ct : Ct}
theorem Frame.none {S S' : Addr → Prop} {ns : List D} (f : Frame K ct S S' (fun _ => Option.none) H H' ns) : Frame K ct S S' (iaOf G []) H H' [] :=
  ⟨f.same, fun c h _ => f.hold c h fun j z => (by cases z), fun j a z => by
    obtain ⟨i, z, _⟩ := iaOf_some z
    simp at z, f.dom⟩
end
end Vl
set_option Elab.async false
set_option linter.all false
set_option maxRecDepth 100000
set_option maxHeartbeats 2000000
namespace Sb
open PySem PySem.Spec PySem.Calls PyProof.Rows L2
section
variable {P : Program} {w : World} {K : PySem.W.Frag} {mg mb : Str → Option Value} {k : Nat} {fa a : Addr} {fd : FuncData} {x : Str} {sp : Sp} {sh : Shared} {us : List Value} {ns : List Int}
/-- what the law's call comes to -/
def Good (sh : Shared) (r : Result) (s' : Shared) : Prop := r = .ok (.ret (.bool true)) ∧ OldK sh.heap s'.heap ∧ s'.os = sh.os ∧ AllBare s'.gens
end
end Sb
set_option Elab.async false
set_option linter.all false
set_option maxRecDepth 100000
set_option maxHeartbeats 2000000
namespace Vl
open PySem PySem.Spec PyProof.Rows L2 Sb
section
variable {X : Cx} {pins : List (Addr × Obj)} {σ : L2.St} {H : Hp} {s : Shared}
/-- what the making of a lambda leaves: nothing new, or a code object and a longer table -/
def Lamd (F H H1 : Hp) (P cc : Addr) (q : Str) : Prop := (H1 = H ∧ F cc = some (LamX.CodeO cc q)) ∨
  ∃ (ps : Array Value) (at_ : Pos), H P = some (.tbl ps) ∧ H cc = none ∧ H1 = upd (upd H P (.tbl (ps ++ #[rawInt at_.line, rawInt at_.col, .ref cc]))) cc (LamX.CodeO cc q)
theorem Lamd.keep {F H H1 : Hp} {P cc b : Addr} {q : Str} (l : Lamd F H H1 P cc q) (h : H b ≠ none) (hb : b ≠ P) : H1 b = H b := by
  rcases l with ⟨e, _⟩ | ⟨ps, at_, _, hn, e⟩
  · rw [e]
  · rw [e, upd_ne (fun z => h (by rw [z]; exact hn)), upd_ne hb]
theorem Lamd.dom {F H H1 : Hp} {P cc : Addr} {q : Str} (l : Lamd F H H1 P cc q) : ∀ b, H b ≠ none → H1 b ≠ none := by
  rcases l with ⟨e, _⟩ | ⟨ps, at_, _, hn, e⟩
  · rw [e]
    exact fun _ h => h
  · rw [e]
    exact fun b h => upd_dom b (upd_dom b h)
theorem Lamd.seen {S : Addr → Prop} {H H1 : Hp} {P cc : Addr} {q : Str} (l : Lamd (off S H) H H1 P cc q) (hS : S P) : Same (off S H) (off S H1) := fun b o e => by
  obtain ⟨n, e1⟩ := off_inv e
  rw [off_at n, l.keep (by rw [e1]; exact Option.some_ne_none _) fun z => n (by rw [z]; exact hS)]
  exact e1
theorem Lamd.code {S : Addr → Prop} {H H1 : Hp} {P cc : Addr} {q : Str} (l : Lamd (off S H) H H1 P cc q) (hS : S P) (live : ∀ a, S a → H a ≠ none) : off S H1 cc = some (LamX.CodeO cc q) := by
  rcases id l with ⟨_, h⟩ | ⟨ps, at_, _, hn, e⟩
  · exact l.seen hS _ _ h
  · rw [off_at fun z => live cc z hn, e]
    exact upd_same
theorem Lamd.tab {S : Addr → Prop} {H H1 : Hp} {P cc : Addr} {q : Str} (l : Lamd (off S H) H H1 P cc q) (hS : S P) (live : ∀ a, S a → H a ≠ none) (t : TabG (off S H) H P q) : TabG (off S H1) H1 P q := by
  rcases id l with ⟨e, _⟩ | ⟨ps, at_, hP, hn, e⟩
  · exact t.mono (by rw [e]) (l.seen hS)
  · obtain ⟨ps', h1, h2, h3⟩ := t
    rw [hP] at h1
    cases h1
    have np : P ≠ cc := fun z => by
      rw [← z, hP] at hn
      cases hn
    have el : (ps ++ #[rawInt at_.line, rawInt at_.col, Value.ref cc]).toList = ps.toList ++ [rawInt at_.line, rawInt at_.col, .ref cc] := by simp
    refine ⟨_, by rw [e, upd_ne np, upd_same], by rw [el]; exact PySem.TriplesOk_snoc _ _ _ _ h2, fun pos cv hcv => ?_⟩
    rw [el] at hcv
    rcases LamX.among_app _ h2 hcv with z | z
    · obtain ⟨c0, e1, e2⟩ := h3 pos cv z
      exact ⟨c0, e1, l.seen hS _ _ e2⟩
    · exact ⟨cc, z, l.code hS live⟩
/-- the making -/
theorem lam_new {c P : Addr} {prm : Arguments} {bd : Expr} {sc : Scope} {pos : Pos} {F : Hp} {E Q : Value → Shared → Prop} (I : Inv X pins σ H s) (TB : LamX.TabB X.base X.mg c P) (code : X.env.code = .ref c) (tg : TabG F H P (X.env.qual ++ "<lambda>")) (sub : Same F H)
    (nod : defaultsOf prm X.env = ([], [])) (caught : ∀ y ∈ sc.names, y.2 = .free → ∃ a, X.env.cells.lookup y.1 = some a)
    (k : ∀ (f cc : Addr) (pm tv : Value) (H1 : Hp) (s1 : Shared), Inv X pins σ H1 s1 → Lamd F H H1 P cc (X.env.qual ++ "<lambda>") → H1 cc = some (LamX.CodeO cc (X.env.qual ++ "<lambda>")) →
      s1.heap.get? f = some (PySem.W.kla_obj "<lambda>" (X.env.qual ++ "<lambda>") prm bd sc (cloFrom X.env.cells sc.names []) pm cc tv) → H1 f = none → f ∉ frs X.stack → Q (.ref f) s1) :
    wpAny (model X.prog X.w) X.A (eval (.Lambda prm bd sc pos) X.env) Q E s := by
  obtain ⟨ps, hP, tri, among⟩ := tg
  have bP : s.heap.BuiltinsAt X.mg P := TB.bm.keeps I.bk
  have atP : s.heap.get? P = some (PySem.W.tabObj ps) := I.hok P _ hP
  have far : ∀ a, s.heap.objs.size ≤ a → a ∉ frs X.stack := fun a ha z => by
    rcases List.mem_cons.mp (I.stkSub _ z) with e | e
    · have l := I.lt
      rw [← e] at l
      exact absurd (Nat.lt_of_lt_of_le l ha) (Nat.lt_irrefl _)
    · exact I.nofs ha e
  refine PySem.W.kla_eval nod ?_
  rcases hc : codeAmong pos ps.toList with _ | cv
  · refine PySem.W.kla_makeFunction (c := c) (closure_ok caught) I.ok.glob (I.mod.glob.keeps I.bk) code (TB.code.keeps I.bk) atP tri hc TB.gP bP ?_
    intro cc tv hp tk ext big small rec tbl
    obtain ⟨c2, oc, vs, t, e2, ho, hd, hv⟩ := rec
    cases e2
    have nC : H cc = none := I.hok.fresh big
    have np : P ≠ cc := fun z => by
      rw [z, nC] at hP
      cases hP
    have J := LamX.inv_table (t' := tk) (q := X.env.qual ++ "<lambda>") (more := #[rawInt pos.line, rawInt pos.col, .ref cc]) (h' := hp.push (PySem.W.kla_obj "<lambda>" (X.env.qual ++ "<lambda>") prm bd sc (cloFrom X.env.cells sc.names []) ((X.mg "__name__").getD .none) cc tv)) I hP
      (fun b o hb e => Heap.get?_push_of_some _ (ext b o hb e)) (Heap.get?_push_of_some _ tbl) big ⟨oc, vs, t, Heap.get?_push_of_some _ ho, hd, hv⟩
    have sz : s.heap.objs.size ≤ hp.objs.size := by omega
    refine k hp.objs.size cc _ tv _ _ J (.inr ⟨ps, pos, hP, nC, rfl⟩) upd_same (Heap.get?_push_size _ rfl) ?_ (far _ sz)
    have lt : P < s.heap.objs.size := Heap.lt_size atP
    rw [upd_ne (Nat.ne_of_gt small), upd_ne (Nat.ne_of_gt (Nat.lt_of_lt_of_le lt sz))]
    exact I.hok.fresh sz
  · obtain ⟨cc, e, hco⟩ := among pos cv hc
    subst e
    refine PySem.W.kla_makeFunctionHit (c := c) (closure_ok caught) I.ok.glob (I.mod.glob.keeps I.bk) code (TB.code.keeps I.bk) atP tri hc bP ?_
    intro tv hp tk ext sz
    have J : Inv X pins σ H { s with heap := hp.push (PySem.W.kla_obj "<lambda>" (X.env.qual ++ "<lambda>") prm bd sc (cloFrom X.env.cells sc.names []) ((X.mg "__name__").getD .none) cc tv), toks := tk } := I.kept fun b o e => Heap.get?_push_of_some _ (ext b o e)
    exact k hp.objs.size cc _ tv H _ J (.inl ⟨rfl, hco⟩) (sub _ _ hco) (Heap.get?_push_size _ rfl) (I.hok.fresh sz) (far _ sz)
/-- the lambda called, in the def that got it -/
theorem act_in {Ng : List Str} {x a : Str} {sg : Scope} {g f cc : Addr} {cdg pm tv : Value} {prm : Arguments} {bd : Expr} {sc : Scope} {k : Nat} {pn : List (Addr × Obj)} {xe : Value → Shared → Prop} {W : WX} {E : XK} {tb : TE} {p1 p2 : Pos}
    (I : Inv X pins σ H s) (L : LamX.LamS X.env.scope sc) (hf : s.heap.get? f = some (PySem.W.kla_obj "<lambda>" (X.env.qual ++ "<lambda>") prm bd sc (cloFrom X.env.cells sc.names []) pm cc tv)) (hn : H f = none) (hfr : f ∉ frs X.stack)
    (nob : bindArgs (PySem.W.kla_fn "<lambda>" (X.env.qual ++ "<lambda>") prm bd sc (cloFrom X.env.cells sc.names []) pm (.ref cc) tv) ⟨[], []⟩ = pure [])
    (tk : Takes ((cxOf CX0 X.prog X.w X.K X.mg X.base Ng x sg g cdg X.A X.stack s H E0).tr pn xe) W) (hW : ∀ cls d σ' H', E cls d H' → W cls d σ' H') (hgd : (X.A.deeper (envOfC x sg s.heap.objs.size g cdg)).guards = some []) (hr : Room (k + 1) (X.A.deeper (envOfC x sg s.heap.objs.size g cdg)))
    (body : ∀ (A : Around) (out : List Env) (sb : Shared) (Hb : Hp), A.guards = some [] → Room k (A.deeper (LamX.lamEnv X sc sb.heap.objs.size f cc)) → PE (LamX.lamCx X A out sb Hb E sc f cc) bd tb)
    (first : Ng[0]? = some a) (hv : Vis sg a) (hd : (a == ("__debug__" : Str)) = false) (hcd : (a == ("__classdict__" : Str)) = false) :
    PE ((cxOf CX0 X.prog X.w X.K X.mg X.base Ng x sg g cdg X.A X.stack s H E0).tr pn xe) (.Call (.Name a p1) [] [] p2)
      (fun σZ HZ Q => σZ[0]? = some (some (.ref f)) ∧ HZ cc = some (LamX.CodeO cc (X.env.qual ++ "<lambda>")) ∧ tb σ HZ Q) := by
  constructor
  intro pz sz σz Hz Q J ⟨at0, co, ht⟩
  refine wpAny_Call_Name_kw (thn ((pe_var (pos := p1) (i := 0) first hv hd hcd).run pz sz σz Hz (fun v Hv => v = .ref f ∧ Hv = Hz) J ⟨_, at0, rfl, rfl⟩) fun u s1 got => ?_)
  obtain ⟨v, H1, J1, rv, rfl, rfl⟩ := got
  cases (show u = Value.ref f from rv)
  have of1 := J1.base.keep f _ hf hn hfr (fun z => nomatch (show f ∈ ([] : List Addr) from z))
  refine PySem.W.callWith_F0 ⟨_, _, _, _, of1⟩ ?_
  have grown : Un (frs X.stack) [] H H1 s.heap s1.heap := J1.base
  obtain ⟨oc, vs, t, ho, hdt, hnm⟩ := (J1.hok cc _ co).1
  have run : codeAny (model X.prog X.w) (X.A.deeper (envOfC x sg s.heap.objs.size g cdg)) (.call (.ref f) ⟨[], []⟩) (CR (L2.CX X.prog X.w) (envOfC x sg s.heap.objs.size g cdg :: X.stack) X.prog X.w H1 s1 Q E) s1 := by
    refine PySem.W.kla_callFunE hr.depth of1 rfl L.co L.gen rfl ⟨cc, oc, vs, t, rfl, ho, hdt, hnm⟩ ?_
    rw [nob]
    refine wpAny_pure (wpAny_newFunctionEnv (fun y hy => (L.own y hy).2) (fun y hy => (nomatch hy)) (fun hp names but => ?_) L.kind)
    have keep : ∀ b o, s1.heap.get? b = some o → hp.get? b = some o := fun b o e => but.extBut b o (Nat.ne_of_lt (Heap.lt_size e)) (Heap.get?_push_of_some _ e)
    refine ⟨J1.nolimit.fresh _ but, PySem.W.kla_codeExpr ?_⟩
    have S := LamX.lam_start2 (f := f) (c' := cc) (E := E) (tk := s1.toks + ([] : List (Str × Value)).length) I L J1.env0 hr.hd grown names keep
    refine wpAny_mono ((body _ _ s1 H1 hgd (hr.deeper _)).run [] _ _ H1 Q S ht) (fun v s' z => ?_) fun e s' z => z
    obtain ⟨w, H', S', rw', q⟩ := z
    exact ⟨w, H', S'.os, S'.bare, S'.base, S'.hok, rw', q⟩
  have out : Passes (L2.CX X.prog X.w) ((cxOf CX0 X.prog X.w X.K X.mg X.base Ng x sg g cdg X.A X.stack s H E0).tr pn xe) E := passes_call tk hW
  refine wpAny_call (codeAny_mono run fun r s' z => ?_)
  match r, z with
  | .error e, z => exact out pz σz H1 s1 e s' J1 z
  | .ok (.ret u), z => exact J1.after z
  | .ok .next, z => exact z.elim
  | .ok .brk, z => exact z.elim
  | .ok .cont, z => exact z.elim
end
/-- what a def that tries what it got makes of its value, of its error -/
def QV (K : PySem.W.Frag) (ct : Ct) (ok : D → Option D) (Q : VK) : VK := fun v H => ∃ (S : Addr → Prop) (d z : D), (∀ a, S a → H a ≠ none) ∧ Rp K ct (off S H) v d ∧ ok d = some z ∧ ∀ u H', Same H H' → Rp K ct (off S H') u z → Q u H'
def QX (K : PySem.W.Frag) (ct : Ct) (ex : Str → List D → Option D) (Q : VK) : XK := fun cls d H => ∃ (S : Addr → Prop) (dd : Addr) (c : Str) (l : List D) (z : D) (C : Addr) (nm : List Str), cls = .ref C ∧ d = some dd ∧ ct c = some (C, nm) ∧ ExcAt K ct (off S H) dd c l ∧ (∀ a, S a → H a ≠ none) ∧ ex c l = some z ∧ ∀ u H', Same H H' → Rp K ct (off S H') u z → Q u H'
/-- that def's body, entered in Y -/
def TellsAt (Y : Cx) (H : Hp) (ct : Ct) (a : Str) (bg : List Stmt) (ok : D → Option D) (ex : Str → List D → Option D) : Prop :=
  ∀ (f cc : Addr) (q : Str) (Q : VK) (tl : XK → Hp → VK → Prop),
    (∀ (W : WX) (pn : List (Addr × Obj)) (xe : Value → Shared → Prop) (E : XK) (p1 p2 : Pos), Takes (Y.tr pn xe) W → (∀ cls d σ' H', E cls d H' → W cls d σ' H') →
      PE (Y.tr pn xe) (.Call (.Name a p1) [] [] p2) (fun σZ HZ Q => σZ[0]? = some (some (.ref f)) ∧ HZ cc = some (LamX.CodeO cc q) ∧ tl E HZ Q)) →
    H cc = some (LamX.CodeO cc q) → tl (QX Y.K ct ex Q) H (QV Y.K ct ok Q) → ∃ t, PSs Y.nox bg t ∧ t { nx := fun _ H' => Q .non H', rt := Q } (L2.start Y.N [.ref f]) H
/-- what is made of the value that is got -/
def Wrap (Y : Cx) (ct : Ct) (ce we : Expr) (ok : D → Option D) : Prop := ∀ (pn : List (Addr × Obj)) (xe : Value → Shared → Prop) (t : TE), PE (Y.tr pn xe) ce t → PE (Y.tr pn xe) we (fun σ H Q => t σ H (QV Y.K ct ok Q))
def exOne (c : Str) (g : List D → Option D) : Str → List D → Option D := fun c' l => if c' = c then g l else none
/-- try: return .. a() .. / except C as e: return .. -/
theorem tells_one {Y : Cx} {H : Hp} {ct : Ct} {a xn n c : Str} {C : Addr} {nm : List Str} {i : Nat} {ok : D → Option D} {g : List D → Option D} {we e : Expr} {q1 q2 p3 p4 p5 p6 p8 : Pos} (hN : Y.N.Nodup) (h1 : Y.nox.stack = Y.nox.env :: Y.nox.outer) (h2 : Y.nox.env.frame = some Y.nox.env.locals)
    (hw : Wrap Y ct (.Call (.Name a q1) [] [] q2) we ok) (st0 : ∀ f : Addr, (L2.start Y.N [V.ref f])[0]? = some (some (V.ref f))) (hi : Y.N[i]? = some n) (hln : Y.env.kindOf n = some .local) (hc : Names Y.nox xn (.ref C)) (hct : ct c = some (C, nm)) (te : PySem.W.exmOne Y.K (.ref C) (.ref C) = some true)
    (hx : ∀ (p : Addr) (oe : Obj) (d : Option Addr) (pn : List (Addr × Obj)), Zc (.ref C) d oe → (∃ vs, oe.data = .fields vs) → XD (Y.nox.suite p ((p, oe) :: pn)) ct i c p d e g) :
    TellsAt Y H ct a [.Try [.Return (some we) p3] [.ExceptHandler (some (.Name xn p4)) (some n) [.Return (some e) p5] p6] [] [] p8] ok (exOne c g) := by
  intro f cc q Q tl act hcc h
  let ts : Addr → Value → Option Addr → TS := fun p cls d => fun D σ H => cls = .ref C ∧ (i < σ.length → tRet (tX Y.K ct i c p d g) D σ H)
  let tb : WX → TS := fun W D σ H => ∃ E : XK, (∀ cls d σ' H', E cls d H' → W cls d σ' H') ∧ σ[0]? = some (some (.ref f)) ∧ H cc = some (LamX.CodeO cc q) ∧ tl E H (QV Y.K ct ok D.rt)
  have su : ∀ (p : Addr) (oe : Obj) (cls : Value) (d : Option Addr) (pn : List (Addr × Obj)), Zc cls d oe → (∃ vs, oe.data = .fields vs) → PSs (Y.nox.suite p ((p, oe) :: pn)) [.Return (some e) p5] (ts p cls d) := fun p oe cls d pn hz hfl => ⟨fun pins s σ H D J hh => by
    obtain ⟨rfl, hh⟩ := hh
    refine (pss_one (ps_ret (hx p oe d pn hz hfl).pe)).run pins s σ H D J (hh ?_)
    rw [J.len]
    exact (List.getElem?_eq_some_iff.mp hi).1⟩
  refine ⟨_, pss_one (tryU (X := Y.nox) (tb := tb) (W0 := fun _ _ _ _ => False) hN h1 h2 takes0 (fun W pn xe tk => ?_) (.cons hc hi hln su .nil)), ?_⟩
  · refine ⟨fun pins s σ H D J hh => ?_⟩
    obtain ⟨E, hW, z1, z2, z3⟩ := hh
    exact (pss_one (ps_ret (hw pn xe _ (act W pn xe E q1 q2 tk hW)))).run pins s σ H D J ⟨z1, z2, z3⟩
  · refine ⟨QX Y.K ct (exOne c g) Q, fun cls d σ' H' hh => ?_, st0 f, hcc, h⟩
    obtain ⟨S, dd, c', l, z, C', nm', rfl, rfl, hc', hxa, live, hex, hq⟩ := hh
    unfold exOne at hex
    split at hex
    · rename_i e0
      subst e0
      rw [hct] at hc'
      cases hc'
      exact ⟨true, te, fun _ p hp => ⟨rfl, fun hl => ⟨S, dd, l, z, rfl, List.getElem?_set_self (by simpa [setU] using hl), hxa, live, hex, fun v H2 s2 r2 => hq v H2 s2 r2⟩⟩, fun z => nomatch z⟩
    · cases hex
theorem PE.up {X : Cx} {e : Expr} {t : TE} (h : PE X e t) : PE X e (fun σ H Q => ∃ Q0 : VK, t σ H Q0 ∧ ∀ v H', Q0 v H' → Q v H') :=
  ⟨fun pins s σ H Q I ⟨Q0, h0, up⟩ => thn (h.run pins s σ H Q0 I h0) fun u s1 ⟨v, H1, I1, r1, q1⟩ => ⟨v, H1, I1, r1, up v H1 q1⟩⟩
/-- f(a()), f a built-in type: str .. -/
theorem wrap_ty {Y : Cx} {ct : Ct} {ce : Expr} {n : Str} {T : String} {o : List D → Option D} {r : List V → Hp → VK → Prop} {p pos : Pos} (call : ∀ pn xe, CallR (Y.tr pn xe) (.type T) r) (cv : CallV Y.K ct r o) (hg : Gl Y n) (hm : Y.mg n = none) (hv : bootBuiltins n = some (.type T))
    (hn : n ≠ "__name__" := by decide) (hdb : (n == ("__debug__" : Str)) = false := by decide) (he : starEach [ce] Y.env = (false, eval ce Y.env) :: starEach [] Y.env := by rfl) (hpl : (backTo pos (starEach [] Y.env)).any (·.1) = false := by rfl) :
    Wrap Y ct ce (.Call (.Name n p) [ce] [] pos) (fun d => o [d]) := fun pn xe t h =>
  PE.weak (pe_callTy (X := Y.tr pn xe) (call pn xe) hg hm hv (pa_cons (PE.up h) pa_nil he) hn hdb he hpl) fun σ H Q q => ⟨_, q, fun v H' ⟨S, d, z, live, rv, hz, k⟩ => cv S H' [v] [d] z Q live (.one rv) hz k⟩
theorem Cfg.lam {K : PySem.W.Frag} {B : Bs} {G : Gh} {env : List Slot} {σ : L2.St} {H H1 : Hp} {P cc : Addr} {q : Str} (c : Cfg K B G env σ H) (hq : B.it ph (enc q) = some P) (l : Lamd (off G.S H) H H1 P cc q) : Mono G H G H1 ∧ Cfg K B G env σ H1 := by
  obtain ⟨ntr, hP, tg⟩ := c.trs.tab q P hq
  have hS := c.trs.hid ph _ P hP
  have s := l.seen hS
  have keep : ∀ {a : Addr}, G.S a → a ≠ P → H1 a = H a := fun h n => l.keep (c.live _ h) n
  have ofR : ∀ {i : Nat} {a : Addr}, G.r i = some a → H1 a = H a := fun {i a} h => keep (c.hid i a h) fun z => c.trs.far ph _ i P hP (by rw [← z]; exact h)
  have ofT : ∀ {i : Nat} {π : List Nat} {a : Addr}, i ≠ ph → G.t i π = some a → H1 a = H a := fun {i π a} n h => keep (c.trs.hid i π a h) fun z => n (c.trs.inj i π ph _ P (by rw [← z]; exact h) hP).1
  refine ⟨⟨s, fun p hp n => ⟨hp, n, keep hp fun z => n.2 ph (enc q) (by rw [z]; exact hP)⟩, l.dom⟩, ⟨c.len, fun i d e => ?_, fun i d e => ?_, fun i d e => ?_, c.hid, c.inj, fun a h => l.dom a (c.live a h), c.frs, fun a h => l.dom a (c.dom0 a h), ⟨fun i b d e => ?_, c.trs.hid, c.trs.inj, c.trs.far, c.trs.io, c.trs.new, fun r P' hr => ?_⟩⟩⟩
  · obtain ⟨v, g1, g2⟩ := c.sh i d e
    exact ⟨v, g1, g2.mono s⟩
  · obtain ⟨a, g1, g2, g3⟩ := c.ow i d e
    exact ⟨a, g1, g2, g3.mono (ofR g1) s⟩
  · obtain ⟨a, g1, g0, g2, g3⟩ := c.io i d e
    exact ⟨a, g1, g0, g2, g3.mono (ofR g1) s⟩
  · obtain ⟨a, g1, g2, g3⟩ := c.trs.at_ i b d e
    exact ⟨a, g1, g2, g3.same (fun π y h => ofT (c.trs.off_ph hq e) h) s⟩
  · obtain ⟨n1, h1, h2⟩ := c.trs.tab r P' hr
    refine ⟨n1, h1, ?_⟩
    by_cases e : P' = P
    · subst e
      have er := enc_inj (c.trs.inj ph _ ph _ P' h1 hP).2
      subst er
      exact l.tab hS c.live h2
    · exact h2.mono (keep (c.trs.hid ph _ P' h1) e) s
/-- a def that tries what it gets: its promise -/
structure Tx (P : Program) (w : World) (K : PySem.W.Frag) (mg : Str → Option Value) (base : Heap) (k : Nat) (x : Str) (g : Addr) (fd : FuncData) (a : Str) (ct : Ct) (ok : D → Option D) (ex : Str → List D → Option D) : Prop where
  told : ∃ (st : Stmt) (Ng : List Str), Fun K x x st g fd ∧ FnScope Ng [a] (defScope st) ∧ Ng[0]? = some a ∧ Vis (defScope st) a ∧ ∀ (cdv : Value) (A : Around) (out : List Env) (s : Shared) (H : Hp), (A.deeper (envOfC x (defScope st) s.heap.objs.size g cdv)).guards = some [] → Room k (A.deeper (envOfC x (defScope st) s.heap.objs.size g cdv)) →
    TellsAt (cxOf CX0 P w K mg base Ng x (defScope st) g cdv A out s H E0) H ct a (defBody st) ok ex
  mg : mg x = some (.ref g)
  kp : PySem.W.keepIn K (.ref g) = true
  bd : Binds K fd [a] []
/-- t(lambda: e), t a def that tries what it gets -/
def fTold (ok : D → Option D) (ex : Str → List D → Option D) (fb : Ev D) : Ev D := fun env => match fb env with
  | .stuck => .stuck
  | .val d e => Out.opt (ok d) e
  | .exc c l e => Out.opt (ex c l) e
theorem told_lift {K : PySem.W.Frag} {B : Bs} {Z : ZX} {G : Gh} {env : List Slot} {σ : L2.St} {H H1 : Hp} {Q : VK} {ok : D → Option D} {ex : Str → List D → Option D} {fb : Ev D} (m : Mono G H G H1) (c : Cfg K B G env σ H1)
    (q : postG K B Z G σ H (fTold ok ex fb env) (fun d _ G' H' => ∀ v, Rp K B.ct (off G'.S H') v d → Q v H')) : liftE K B (ZE B.ct (QX K B.ct ex Q)) fb σ H1 (QV K B.ct ok Q) := by
  refine ⟨G, env, c, ?_⟩
  unfold fTold at q
  cases ho : fb env with
  | stuck =>
    rw [ho] at q
    exact q.elim
  | val d e =>
    rw [ho] at q
    simp only [] at q
    cases hz : ok d with
    | none =>
      rw [hz] at q
      exact q.elim
    | some z =>
      rw [hz] at q
      exact fun G2 H2 m2 c2 v rv => ⟨G2.S, d, z, c2.live, rv, hz, fun u H3 s3 ru => q G2 H3 ((m.trans m2).trans (c2.mono s3)) (c2.same s3) u ru⟩
  | exc cc l e =>
    rw [ho] at q
    simp only [] at q
    cases hz : ex cc l with
    | none =>
      rw [hz] at q
      exact q.elim
    | some z =>
      rw [hz] at q
      exact fun G2 H2 dd m2 c2 xx C nm hC => ⟨G2.S, dd, cc, l, z, C, nm, rfl, rfl, hC, xx, c2.live, hz, fun u H3 s3 ru => q G2 H3 ((m.trans m2).trans (c2.mono s3)) (c2.same s3) u ru⟩
theorem de_told {X : Cx} {B : Bs} {Z : ZX} {x a : Str} {g c P : Addr} {fd : FuncData} {k kb : Nat} {ok : D → Option D} {ex : Str → List D → Option D} {prm : Arguments} {bd : Expr} {sc : Scope} {fb : Ev D} {p lpos pos : Pos} (T : Tx X.prog X.w X.K X.mg X.base k x g fd a B.ct ok ex) (hgd : X.A.guards = some []) (hr : Room (k + 1) X.A) (hkb : kb + 1 ≤ k) (hg : Gl X x)
    (TB : LamX.TabB X.base X.mg c P) (code : X.env.code = .ref c) (hq : B.it ph (enc (X.env.qual ++ "<lambda>")) = some P) (L : LamX.LamS X.env.scope sc) (nod : defaultsOf prm X.env = ([], [])) (nob : ∀ (q : Str) (cl : List (Str × Addr)) (pm cv tv : Value), bindArgs (PySem.W.kla_fn "<lambda>" q prm bd sc cl pm cv tv) ⟨[], []⟩ = pure [])
    (body : ∀ (A : Around) (out : List Env) (s : Shared) (H : Hp) (E : XK) (f cc : Addr), (A.deeper (LamX.lamEnv X sc s.heap.objs.size f cc)).guards = some [] → Room kb (A.deeper (LamX.lamEnv X sc s.heap.objs.size f cc)) → DE (LamX.lamCx X A out s H E sc f cc) B (ZE B.ct E) bd fb)
    (hdb : (x == ("__debug__" : Str)) = false := by decide) (hd : (a == ("__debug__" : Str)) = false := by decide) (hcd : (a == ("__classdict__" : Str)) = false := by decide) : DE X B Z (.Call (.Name x p) [.Lambda prm bd sc lpos] [] pos) (fTold ok ex fb) := by
  refine ⟨⟨fun pins s σ H Q I h => ?_⟩⟩
  obtain ⟨G, env, cf, q⟩ := h
  obtain ⟨st, Ng, F, Sg, first, hv, told⟩ := T.told
  obtain ⟨oc, od, kV, doc, pm0, an, cdv, ctv, osl, rfl, lk, hcg⟩ := F.ex
  obtain ⟨_, hP, tg⟩ := cf.trs.tab _ P hq
  have hb := T.bd
  refine wpAny_Call_Name_kw (ld_glob I hg T.mg ?_ hdb)
  refine PySem.W.callWith_K (h₀ := X.base) I.ok.mod.kin T.kp ?_ (by rfl) (by rfl)
  show wpAny _ _ (spliced ((false, eval (.Lambda prm bd sc lpos) X.env) :: backTo pos (starEach [] X.env))) _ _ s
  refine Calls.spliced_cons (lam_new I TB code tg off_le nod (L.has I.ok) fun f cc pm tv H1 s1 I1 lm hcc hf hfn hfr => ?_)
  refine Calls.spliced_nil ⟨I1.kIn, ?_⟩
  obtain ⟨m1, c1⟩ := cf.lam hq lm
  have rc : codeAny (model X.prog X.w) X.A (.call (.ref g) ⟨[.ref f], []⟩) (CR CX0 X.stack X.prog X.w H1 s1 Q E0) s1 := by
    refine LamX.run_ofS (N := Ng) (ps := [a]) (us := [.ref f]) (vs := [.ref f]) lk hcg Sg hr I1.env0 (hb s1 [.ref f] I1.kIn rfl) (.cons rfl .nil) rfl fun hr2 => ?_
    obtain ⟨t, ht, hq2⟩ := told cdv X.A X.stack s1 H1 (guards_in hgd) hr2 f cc _ Q (fun E H' Q' => liftE X.K B (ZE B.ct E) fb σ H' Q')
      (fun W pn xe E p1 p2 tk hW => act_in I1 L hf hfn hfr (nob _ _ _ _ _) tk hW (guards_in hgd) (hr2.mono hkb) (fun A out sb Hb g2 r2 => (body A out sb Hb E f cc (guards_in g2) r2).pe) first hv hd hcd) hcc (told_lift m1 c1 q)
    exact ⟨t, ht.nox, hq2⟩
  refine wpAny_call (codeAny_mono rc fun r s2 z => ?_)
  match r, z with
  | .error e, z => exact (show False from z).elim
  | .ok (.ret u), z => exact I1.after z
  | .ok .next, z => exact z.elim
  | .ok .brk, z => exact z.elim
  | .ok .cont, z => exact z.elim
end Vl
set_option Elab.async false
set_option linter.all false
set_option maxRecDepth 100000
set_option maxHeartbeats 2000000
namespace Vl
open PySem PySem.Spec PyProof.Rows L2 Sb
theorem _root_.Sb.FnG.imp {P : Program} {w : World} {K : PySem.W.Frag} {mg : Str → Option Value} {base : Heap} {CX : CXT} {k : Nat} {f : Addr} {fd : FuncData} {ps : List Str} {sp sp' : Sp} (F : FnG P w K mg base CX k f fd ps sp) (h : ∀ vs H Q E, sp' vs H Q E → sp vs H Q E) : FnG P w K mg base CX k f fd ps sp' :=
  ⟨fun vs H Q E q => F.size vs H Q E (h _ _ _ _ q), fun A st s H args us xs Q E hg hr he hb hv hs => F.go A st s H args us xs Q E hg hr he hb hv (h _ _ _ _ hs)⟩
/-- an exception's __init__ of one field, of two -/
theorem spXI_one {C : Addr} {n : Str} {vs : List V} {H : Hp} {Q : VK} {E : XK} (h : spXI C [n] vs H Q E) : ∃ (a : Addr) (v : V), vs = [.ref a, v] ∧ H a = some (exo a C none) ∧ ∀ (H' : Hp) (d : Addr), H' a = some (exo a C (some d)) → H d = none → d ≠ a → H' d = some (exd d [(n, v)]) → (∀ b o, H b = some o → b ≠ a → H' b = some o) → Q .non H' := by
  obtain ⟨a, ws, rfl, hl, ha, k⟩ := h
  match ws, hl, k with
  | [v], _, k => exact ⟨a, v, rfl, ha, k⟩
theorem spXI_two {C : Addr} {n1 n2 : Str} {vs : List V} {H : Hp} {Q : VK} {E : XK} (h : spXI C [n2, n1] vs H Q E) : ∃ (a : Addr) (v1 v2 : V), vs = [.ref a, v1, v2] ∧ H a = some (exo a C none) ∧ ∀ (H' : Hp) (d : Addr), H' a = some (exo a C (some d)) → H d = none → d ≠ a → H' d = some (exd d [(n2, v2), (n1, v1)]) → (∀ b o, H b = some o → b ≠ a → H' b = some o) → Q .non H' := by
  obtain ⟨a, ws, rfl, hl, ha, k⟩ := h
  match ws, hl, k with
  | [v1, v2], _, k => exact ⟨a, v1, v2, rfl, ha, k⟩
end Vl
set_option Elab.async false
set_option linter.all false
set_option maxRecDepth 100000
set_option maxHeartbeats 2000000
namespace Vl
open PySem PySem.Spec PyProof.Rows L2 Sb
/-- the tables as trees of no slot -/
def tbT (tb : List Nat → Option Addr) : Nat → List Nat → Option Addr := fun i => if i = ph then tb else fun _ => none
theorem tbT_ph {tb : List Nat → Option Addr} {π : List Nat} : tbT tb ph π = tb π := by
  unfold tbT
  rw [if_pos rfl]
theorem tbT_some {tb : List Nat → Option Addr} {i : Nat} {π : List Nat} {a : Addr} (h : tbT tb i π = some a) : i = ph ∧ tb π = some a := by
  unfold tbT at h
  by_cases e : i = ph
  · rw [if_pos e] at h
    exact ⟨e, h⟩
  · rw [if_neg e] at h
    cases h
theorem enc_all (π : List Nat) : ∃ q, enc q = π := ⟨⟨⟨π⟩⟩, rfl⟩
structure TabsOk (tb : List Nat → Option Addr) (S : Addr → Prop) (ia : Nat → Option Addr) (H : Hp) : Prop where
  hid : ∀ (π : List Nat) (P : Addr), tb π = some P → S P
  inj : ∀ (π ρ : List Nat) (P : Addr), tb π = some P → tb ρ = some P → π = ρ
  far : ∀ (π : List Nat) (P : Addr) (j : Nat), tb π = some P → ia j ≠ some P
  tab : ∀ (q : Str) (P : Addr), tb (enc q) = some P → TabG (off S H) H P q
structure FrameV (K : PySem.W.Frag) (ct : Ct) (tb : List Nat → Option Addr) (S : Addr → Prop) (ia : Nat → Option Addr) (H H' : Hp) (ns : List D) : Prop where
  same : Same (off S H) (off S H')
  hold : ∀ c, S c → (∀ j, ia j ≠ some c) → (∀ π, tb π ≠ some c) → H' c = H c
  new : ∀ (j : Nat) (a : Addr), ia j = some a → ∃ d, ns[j]? = some d ∧ OwnAt K ct H' (off S H') a d
  dom : ∀ p, H p ≠ none → H' p ≠ none
  tab : ∀ (q : Str) (P : Addr), tb (enc q) = some P → TabG (off S H') H' P q
def spVT (K : PySem.W.Frag) (ct : Ct) (tb : List Nat → Option Addr) (m : List Bool) (Φ : List D → Res) : Sp := fun vs H Q _ => ∃ S ia ds, ArgsOk K ct S ia m vs ds H ∧ TabsOk tb S ia H ∧ match Φ ds with
  | .ret false r ns => ∀ v H', FrameV K ct tb S ia H H' ns → Rp K ct (off S H') v r → Q v H'
  | _ => False
/-- what such a def returns is shared -/
def Res.plain : Res → Res
  | .ret false r ns => .ret false r ns
  | _ => .stuck
section
variable {K : PySem.W.Frag} {ct : Ct} {S : Addr → Prop} {ia : Nat → Option Addr} {m : List Bool} {vs : List V} {ds : List D} {H : Hp} {N : List Str} {tb : List Nat → Option Addr}
theorem start_cfgT (A : ArgsOk K ct S ia m vs ds H) (T : TabsOk tb S ia H) (hn : m.length ≤ N.length) : Cfg K ⟨ct, ia, H, tbT tb⟩ ⟨S, ia, tbT tb⟩ (mkEnv m N.length ds) (L2.start N vs) H := by
  have c := start_cfg A hn
  have ntr : ∀ {j : Nat} {b : Bool} {d : D}, (mkEnv m N.length ds)[j]? ≠ some (.tr b d) := fun {j b d} e => by
    rcases mkEnv_get A.ld e with ⟨b', d', _, _, h3⟩ | ⟨_, h⟩
    · cases b' <;> cases h3
    · cases h
  refine ⟨c.len, c.sh, c.ow, c.io, c.hid, c.inj, c.live, c.frs, c.dom0, ⟨fun i b d e => absurd e ntr, fun i π a h => T.hid π a (tbT_some h).2, fun i π j ρ a h1 h2 => ?_, fun i π j a h => T.far π a j (tbT_some h).2, fun i d e => absurd e ntr, fun i π a b d e => absurd e ntr, fun q P hq => ?_⟩⟩
  · obtain ⟨rfl, h1⟩ := tbT_some h1
    obtain ⟨rfl, h2⟩ := tbT_some h2
    exact ⟨rfl, T.inj π ρ a h1 h2⟩
  · exact ⟨fun b d => ntr, hq, T.tab q P (tbT_some (show tbT tb ph (enc q) = some P from hq)).2⟩
theorem end_frameT {G' : Gh} {env : List Slot} {σ' : L2.St} {H' : Hp} {l : List D} (A : ArgsOk K ct S ia m vs ds H) (mm : Mono ⟨S, ia, tbT tb⟩ H G' H') (c : Cfg K ⟨ct, ia, H, tbT tb⟩ G' env σ' H') (e : ioAt env 0 m = some l) : FrameV K ct tb S ia H H' l ∧ Same (off G'.S H') (off S H') := by
  have own : ∀ {j : Nat} {a : Addr}, ia j = some a → ∃ d, l[j]? = some d ∧ G'.r j = some a ∧ OwnAt K ct H' (off G'.S H') a d := fun {j a} h => by
    obtain ⟨d, h1, h2⟩ := ioAt_get m 0 l e j (A.only j a h)
    rw [Nat.zero_add] at h2
    obtain ⟨a', g1, g2, g3, g4⟩ := c.io j d h2
    have g2 : ia j = some a' := g2
    rw [h] at g2
    cases g2
    exact ⟨d, h1, g1, g4⟩
  have tabs : ∀ {q : Str} {P : Addr}, tb (enc q) = some P → G'.t ph (enc q) = some P ∧ TabG (off G'.S H') H' P q := fun {q P} h => (c.trs.tab q P (by show tbT tb ph (enc q) = some P; rw [tbT_ph]; exact h)).2
  have unt : ∀ {x : Addr}, (∀ j, ia j ≠ some x) → (∀ π, tb π ≠ some x) → (Gh.mk S ia (tbT tb)).un x := fun h1 h2 => ⟨h1, fun i π z => h2 π (tbT_some z).2⟩
  have le : Same (off G'.S H') (off S H') := fun x u h => by
    obtain ⟨n, h⟩ := off_inv h
    rw [off_at fun z => n ?_]
    · exact h
    · by_cases q : ∃ j, ia j = some x
      · obtain ⟨j, q⟩ := q
        obtain ⟨d, _, g, _⟩ := own q
        exact c.hid j x g
      · by_cases q2 : ∃ π, tb π = some x
        · obtain ⟨π, q2⟩ := q2
          obtain ⟨y, rfl⟩ := enc_all π
          exact c.trs.hid ph _ x (tabs q2).1
        · exact (mm.tmp x z (unt (fun i y => q ⟨i, y⟩) fun π y => q2 ⟨π, y⟩)).1
  refine ⟨⟨fun x u h => le _ _ (mm.same x u h), fun x hx n n2 => (mm.tmp x hx (unt n n2)).2.2, fun j a h => ?_, mm.dom, fun q P h => (tabs h).2.mono rfl le⟩, le⟩
  obtain ⟨d, h1, _, h3⟩ := own h
  exact ⟨d, h1, h3.mono rfl le⟩
end
section
variable {P : Program} {w : World} {K : PySem.W.Frag} {mg : Str → Option Value} {base : Heap} {k : Nat} {f : Addr} {ct : Ct} {tb : List Nat → Option Addr}
/-- a def's promise; cdv is its code object -/
theorem okVT {x qual : Str} {st : Stmt} {fd : FuncData} {N ps : List Str} {m : List Bool} {Fs : Ev Fl} {cdv : Value} (F : ∃ (oc : Value) (od : Option Addr) (kV doc pm : Value) (an : Option Addr) (ctv : Value) (osl : Array (Option Value)), fd = PySem.W.fnOf x qual (defArgs st) (defBody st) (defScope st) .none kV doc pm an cdv ctv ∧ K.lookup f = some ⟨oc, od, .func fd, osl⟩ ∧ PySem.W.codeIn K cdv qual = true) (Zs : FnScope N ps (defScope st)) (hm : m.length = ps.length)
    (hb : ∀ (io : Nat → Option Addr) (A : Around) (out : List Env) (s : Shared) (H : Hp) (E : XK), (A.deeper (envOfC qual (defScope st) s.heap.objs.size f cdv)).guards = some [] → Room k (A.deeper (envOfC qual (defScope st) s.heap.objs.size f cdv)) →
      (A.deeper (envOfC qual (defScope st) s.heap.objs.size f cdv)).units + 66 < cLine → DSs (cxOf CX0 P w K mg base N qual (defScope st) f cdv A out s H E).nox ⟨ct, io, H, tbT tb⟩ ZNo (defBody st) Fs) : FnG P w K mg base CX0 (k + 1) f fd ps (spVT K ct tb m fun ds => (runV m N.length Fs ds).quiet) := by
  have hn : m.length ≤ N.length := by
    rw [hm]
    have := congrArg List.length Zs.pre
    rw [List.length_take] at this
    omega
  obtain ⟨oc, od, kV, doc, pm, an, ctv, osl, rfl, at_, cd_⟩ := F
  refine fnG at_ cd_ Zs (fun vs H Q E h => ?_) fun A out s H vs Q E hg hr h => ?_
  · obtain ⟨S, ia, ds, A, _⟩ := h
    rw [A.lv, hm]
  · obtain ⟨S, ia, ds, Ar, Tk, q⟩ := h
    refine ⟨_, (hb ia A out s H E (guards_in hg) hr (by have := hr.un; omega)).pss.nox, ⟨S, ia, tbT tb⟩, mkEnv m N.length ds, start_cfgT Ar Tk hn, ?_⟩
    have q : (match (runV m N.length Fs ds).quiet with
  | .ret false r ns => ∀ v H', FrameV K ct tb S ia H H' ns → Rp K ct (off S H') v r → Q v H'
  | _ => False) := q
    unfold runV at q
    cases ho : Fs (mkEnv m N.length ds) with
    | stuck =>
      rw [ho] at q
      exact q.elim
    | exc c as env =>
      rw [ho] at q
      simp only [Res.of] at q
      cases hl : ioAt env 0 m <;> (rw [hl] at q; exact q.elim)
    | val fl env =>
      rw [ho] at q
      cases fl with
      | bk => exact q.elim
      | ct => exact q.elim
      | nx =>
        simp only [Res.of] at q
        cases hl : ioAt env 0 m with
        | none =>
          rw [hl] at q
          exact q.elim
        | some l =>
          rw [hl] at q
          exact fun G' σ' H' mm c => q _ H' (end_frameT Ar mm c hl).1 .non
      | rt n d =>
        simp only [Res.of] at q
        cases hl : ioAt env 0 m with
        | none =>
          rw [hl] at q
          exact q.elim
        | some l =>
          rw [hl] at q
          cases n with
          | false => exact fun G' σ' H' mm c v rv => q v H' (end_frameT Ar mm c hl).1 (rv.mono (end_frameT Ar mm c hl).2)
          | true => exact q.elim
end
section
variable {K : PySem.W.Frag} {B : Bs} {G : Gh} {env : List Slot} {σ : L2.St} {H H' : Hp} {l : List Ag} {ds ns : List D} {tb : List Nat → Option Addr}
theorem tabs_of (c : Cfg K B G env σ H) (ht : ∀ π, B.it ph π = tb π) (l : List Ag) : TabsOk tb G.S (iaOf G l) H := by
  have at_ : ∀ {π : List Nat} {P : Addr}, tb π = some P → G.t ph π = some P := fun {π P} h => by
    obtain ⟨y, rfl⟩ := enc_all π
    exact (c.trs.tab y P ((ht _).trans h)).2.1
  refine ⟨fun π P h => c.trs.hid ph π P (at_ h), fun π ρ P h1 h2 => (c.trs.inj ph π ph ρ P (at_ h1) (at_ h2)).2, fun π P j h z => ?_, fun q P h => (c.trs.tab q P ((ht _).trans h)).2.2⟩
  obtain ⟨i, _, g⟩ := iaOf_some z
  exact c.trs.far ph π i P (at_ h) g
theorem after_callVT (c : Cfg K B G env σ H) (ht : ∀ π, B.it ph π = tb π) (had : agDs env l = some ds) (nd : (ioSlots l).Nodup) (fr : FrameV K B.ct tb G.S (iaOf G l) H H' ns) : Mono G H G H' ∧ Cfg K B G (putAll env l ns) σ H' := by
  have at_ : ∀ {π : List Nat} {P : Addr}, tb π = some P → G.t ph π = some P := fun {π P} h => by
    obtain ⟨y, rfl⟩ := enc_all π
    exact (c.trs.tab y P ((ht _).trans h)).2.1
  have noR : ∀ {i : Nat} {a : Addr}, G.r i = some a → ∀ π, tb π ≠ some a := fun {i a} h π z => c.trs.far ph π i a (at_ z) h
  have noA : ∀ {i : Nat} {π : List Nat} {a : Addr}, G.t i π = some a → ∀ j, iaOf G l j ≠ some a := fun {i π a} h j z => by
    obtain ⟨k, _, h2⟩ := iaOf_some z
    exact c.trs.far i π k a h h2
  -- the state with the tables as they were
  have far : ∀ {k : Nat} {a : Addr}, k ∉ ioSlots l → G.r k = some a → H' a = H a := fun {k a} hk h => fr.hold a (c.hid k a h) (fun j z => by
    obtain ⟨i, h1, h2⟩ := iaOf_some z
    have := c.inj i k a h2 h
    subst this
    exact hk (ioSlots_mem h1)) (noR h)
  have mm : Mono G H G H' := ⟨fr.same, fun p hp n => ⟨hp, n, fr.hold p hp (fun j z => by
    obtain ⟨i, _, h⟩ := iaOf_some z
    exact n.1 i h) fun π z => n.2 ph π (at_ z)⟩, fr.dom⟩
  have pick : ∀ {k : Nat} {s : Slot}, (putAll env l ns)[k]? = some s → (k ∉ ioSlots l ∧ env[k]? = some s) ∨ ∃ b d a, s = own b d ∧ G.r k = some a ∧ σ[k]? = some (some (.ref a)) ∧ (b = true → B.io k = some a) ∧ OwnAt K B.ct H' (off G.S H') a d := by
    intro k s h
    by_cases hk : k ∈ ioSlots l
    · obtain ⟨j, hj⟩ := ioSlots_at hk
      obtain ⟨d0, e1, e2⟩ := agDs_get had hj
      obtain ⟨b, ho⟩ := agD_own e2
      obtain ⟨a, g1, g2, g3⟩ := c.own ho
      obtain ⟨d, n1, n2⟩ := fr.new j a (by unfold iaOf; rw [hj]; exact g1)
      rw [putAll_in nd hj n1 ho] at h
      refine .inr ⟨b, d, a, (Option.some.inj h).symm, g1, g2, fun hb => ?_, n2⟩
      subst hb
      obtain ⟨a', q1, q2, _⟩ := c.io k d0 ho
      rw [g1] at q1
      cases q1
      exact q2
    · rw [putAll_out l env ns hk] at h
      exact .inl ⟨hk, h⟩
  have isTr : ∀ {i : Nat} {b : Bool} {d : D}, (putAll env l ns)[i]? = some (.tr b d) → env[i]? = some (.tr b d) := fun {i b d} e => by
    rcases pick e with ⟨_, h⟩ | ⟨b', d', a', h, _⟩
    · exact h
    · cases b' <;> cases h
  refine ⟨mm, by rw [putAll_len]; exact c.len, fun j d e => ?_, fun j d e => ?_, fun j d e => ?_, c.hid, c.inj, fun a ha => fr.dom a (c.live a ha), fun j d a e g => ?_, fun a h => fr.dom a (c.dom0 a h),
    ⟨fun i b d e => ?_, c.trs.hid, c.trs.inj, c.trs.far, fun i d e => c.trs.io i d (isTr e), fun i π a b d e h => c.trs.new i π a b d (isTr e) h, fun q P hq => ?_⟩⟩
  · rcases pick e with ⟨_, h⟩ | ⟨b, d', a, h, _⟩
    · obtain ⟨v, g1, g2⟩ := c.sh j d h
      exact ⟨v, g1, g2.mono fr.same⟩
    · cases b <;> cases h
  · rcases pick e with ⟨hk, h⟩ | ⟨b, d', a, h, g1, g2, _, g3⟩
    · obtain ⟨a, g1, g2, g3⟩ := c.ow j d h
      exact ⟨a, g1, g2, g3.mono (far hk g1) fr.same⟩
    · cases b with
      | true => cases h
      | false =>
        cases h
        exact ⟨a, g1, g2, g3⟩
  · rcases pick e with ⟨hk, h⟩ | ⟨b, d', a, h, g1, g2, g0, g3⟩
    · obtain ⟨a, g1, g0, g2, g3⟩ := c.io j d h
      exact ⟨a, g1, g0, g2, g3.mono (far hk g1) fr.same⟩
    · cases b with
      | false => cases h
      | true =>
        cases h
        exact ⟨a, g1, g0 rfl, g2, g3⟩
  · rcases pick e with ⟨hk, h⟩ | ⟨b, d', a', h, g1, g2, g0, g3⟩
    · exact c.frs j d a h g
    · cases b with
      | true => cases h
      | false =>
        cases h
        by_cases hk : j ∈ ioSlots l
        · obtain ⟨i, hi⟩ := ioSlots_at hk
          obtain ⟨d0, e1, e2⟩ := agDs_get had hi
          obtain ⟨b, ho⟩ := agD_own e2
          cases b with
          | false => exact c.frs j d0 a ho g
          | true =>
            obtain ⟨d2, n1, n2⟩ := fr.new i a (by unfold iaOf; rw [hi]; exact g)
            rw [putAll_in nd hi n1 ho] at e
            cases e
        · rw [putAll_out l env ns hk] at e
          exact c.frs j _ a e g
  · have e0 := isTr e
    obtain ⟨x, g1, g2, g3⟩ := c.trs.at_ i b d e0
    refine ⟨x, g1, g2, g3.same (fun π y h => fr.hold y (c.trs.hid i π y h) (noA h) fun ρ z => ?_) fr.same⟩
    have hz := at_ z
    obtain ⟨y', hy⟩ := enc_all ρ
    subst hy
    exact c.trs.off_ph ((ht _).trans z) e0 (c.trs.inj i π ph _ y h hz).1
  · obtain ⟨n1, h1, _⟩ := c.trs.tab q P hq
    exact ⟨fun b d e => n1 b d (isTr e), h1, fr.tab q P ((ht _).symm.trans hq)⟩
end
section
variable {X : Cx} {B : Bs} {Z : ZX} {k : Nat} {f : Addr} {fd : FuncData} {ps : List Str} {E : XK} {x : Str} {p pos : Pos} {e : Expr} {es : List Expr} {m : List Bool} {Φ : List D → Res} {fs : Ev (List Ag)} {tb : List Nat → Option Addr}
/-- a call of a def that makes lambdas -/
theorem de_callVT (F : FnG X.prog X.w X.K X.mg X.base CX0 k f fd ps (spVT X.K B.ct tb m Φ)) (ht : ∀ π, B.it ph π = tb π) (hgd : X.A.guards = some []) (hr : Room k X.A) (hg : Gl X x) (hm : X.mg x = some (.ref f)) (hk : PySem.W.keepIn X.K (.ref f) = true) (hb : Binds X.K fd ps [])
    (ha : DAi X B Z (e :: es) fs) (hdb : (x == ("__debug__" : Str)) = false := by decide) (he : starEach (e :: es) X.env = (false, eval e X.env) :: starEach es X.env := by rfl)
    (hpl : (backTo pos (starEach es X.env)).any (·.1) = false := by rfl) : DE X B Z (.Call (.Name x p) (e :: es) [] pos) (fCall m (fun ds => (Φ ds).plain) [] fs) :=
  ⟨PE.weak (pe_callG (E := E0) F hgd hr hg hm hk hb .nil pass0 ha.pa hdb he hpl) fun σ H Q ⟨G, env, c, q⟩ => by
    refine ⟨G, env, c, post_imp (post_bind q) fun l e1 G1 H1 m1 c1 p1 vs rvs => ?_⟩
    cases had : agDs e1 l with
    | none =>
      rw [had] at p1
      exact p1.elim
    | some ds =>
      rw [had] at p1
      simp only [] at p1
      by_cases hc : l.map Ag.isIo ++ ([] : List D).map (fun _ => false) = m ∧ (ioSlots l).Nodup
      · rw [if_pos hc] at p1
        refine ⟨G1.S, iaOf G1 l, ds ++ [], args_of (dd := []) c1 rvs had hc.1 hc.2 .nil, tabs_of c1 ht l, ?_⟩
        cases hr : Φ (ds ++ []) with
        | stuck =>
          rw [hr] at p1
          exact p1.elim
        | ret n r ns =>
          rw [hr] at p1
          cases n with
          | true => exact p1.elim
          | false =>
            intro v H' fr rv
            obtain ⟨mm, c'⟩ := after_callVT c1 ht had hc.2 fr
            exact p1 G1 H' mm c' v rv
        | exc cc as ns =>
          rw [hr] at p1
          exact p1.elim
      · rw [if_neg hc] at p1
        exact p1.elim⟩
end
end Vl
set_option Elab.async false
set_option linter.all false
set_option maxRecDepth 100000
set_option maxHeartbeats 2000000
namespace Vl
open PySem PySem.Spec PySem.Calls PyProof.Rows L2 Sb
section
variable {X : Cx} {A : Around} {out : List Env} {s : Shared} {H : Hp} {E : XK} {sc : Scope} {f cc : Addr}
theorem tk_lam : Takes (LamX.lamCx X A out s H E sc f cc) (fun cls d _ H => E cls d H) := takes_of rfl rfl rfl rfl
theorem ps_lam : Passes (L2.CX X.prog X.w) (LamX.lamCx X A out s H E sc f cc) E := passes_call tk_lam (fun _ _ _ _ h => h)
end
/-- a def with its code object -/
def FunC (K : PySem.W.Frag) (x qual : Str) (st : Stmt) (f : Addr) (fd : FuncData) (cdv : Value) : Prop :=
  ∃ (oc : Value) (od : Option Addr) (kV doc pm : Value) (an : Option Addr) (ctv : Value) (osl : Array (Option Value)), fd = PySem.W.fnOf x qual (defArgs st) (defBody st) (defScope st) .none kV doc pm an cdv ctv ∧ K.lookup f = some ⟨oc, od, .func fd, osl⟩ ∧ PySem.W.codeIn K cdv qual = true
/-- a def that makes lambdas, known by its name -/
structure VxL (P : Program) (w : World) (K : PySem.W.Frag) (mg : Str → Option Value) (base : Heap) (k : Nat) (x : Str) (f : Addr) (fd : FuncData) (ps : List Str) (ct : Ct) (tb : List Nat → Option Addr) (m : List Bool) (Φ : List D → Res) : Prop where
  ok : FnG P w K mg base CX0 k f fd ps (spVT K ct tb m Φ)
  mg : mg x = some (.ref f)
  kp : PySem.W.keepIn K (.ref f) = true
  bd : Binds K fd ps []
/-- the tables by their names -/
abbrev Tbs := List (Str × Addr × Addr)
def tbOf (cs : Tbs) : List Nat → Option Addr := fun π => (cs.map fun p => (enc p.1, p.2.2)).lookup π
theorem tbOf_mem : ∀ {cs : Tbs} {π : List Nat} {P : Addr}, tbOf cs π = some P → ∃ p ∈ cs, enc p.1 = π ∧ p.2.2 = P
  | [], π, P, h => by cases h
  | p :: cs, π, P, h => by
    have h : (match π == enc p.1 with | true => some p.2.2 | false => tbOf cs π) = some P := h
    by_cases e : π = enc p.1
    · rw [beq_iff_eq.mpr e] at h
      exact ⟨p, List.mem_cons_self, e.symm, Option.some.inj h⟩
    · rw [beq_eq_false_iff_ne.mpr e] at h
      obtain ⟨r, hr, z⟩ := tbOf_mem h
      exact ⟨r, List.mem_cons_of_mem _ hr, z⟩
/-- what a law keeps that begins with these tables, empty -/
def spLawT (K : PySem.W.Frag) (cs : Tbs) : Sp := fun vs H Q _ => ∃ (a : Addr) (ns : List Int), vs = [.ref a] ∧ SqL K H a (ns.map V.int) ∧ ns.length ≤ 63 ∧ (∀ p ∈ cs, H p.2.2 = some (.tbl #[])) ∧ ∀ H', Q (.bl true) H'
theorem law_ofT {P : Program} {w : World} {K : PySem.W.Frag} {mg : Str → Option Value} {base : Heap} {k : Nat} {f : Addr} {fd : FuncData} {ps : List Str} {ct : Ct} {cs : Tbs} {Φ : List D → Res} (nd : (cs.map fun p => p.2.2).Nodup) (F : FnG P w K mg base CX0 k f fd ps (spVT K ct (tbOf cs) [false] Φ))
    (hΦ : ∀ ns : List Int, ns.length ≤ 63 → ∃ l, Φ [.scr ns] = .ret false (.bl true) l) : FnG P w K mg base CX0 k f fd ps (spLawT K cs) := F.imp fun vs H Q E h => by
  obtain ⟨a, ns, rfl, hS, hl, tabs, hq⟩ := h
  obtain ⟨l, e⟩ := hΦ ns hl
  let S : Addr → Prop := fun b => ∃ p ∈ cs, p.2.2 = b
  have hS2 : SqL K (off S H) a (ns.map V.int) := by
    rcases hS with z | z
    · have na : ¬ S a := fun ⟨p, hp, e⟩ => by
        have t := tabs p hp
        rw [e] at t
        rcases z with z | ⟨o, z⟩ <;> rw [t] at z <;> cases z
      left
      unfold Rd
      rw [off_at na]
      exact z
    · exact .inr z
  refine ⟨S, fun _ => none, [.scr ns], ⟨rfl, rfl, fun j v d h1 h2 h3 => ?_, fun j v d h1 h2 h3 => ?_, fun j b z => (by cases z), fun j b z => (by cases z), fun i j b z => (by cases z), fun b ⟨p, hp, e⟩ => ?_⟩, ⟨fun π P h => ?_, fun π ρ P h1 h2 => ?_, fun π P j _ z => (by cases z), fun q P h => ?_⟩, ?_⟩
  · cases j with
    | zero =>
      cases h2
      cases h3
      exact .scr hS2
    | succ j => simp at h1
  · cases j with
    | zero => cases h1
    | succ j => simp at h1
  · rw [← e, tabs p hp]
    exact Option.some_ne_none _
  · obtain ⟨p, hp, _, e⟩ := tbOf_mem h
    exact ⟨p, hp, e⟩
  · obtain ⟨p, hp, e1, e2⟩ := tbOf_mem h1
    obtain ⟨r, hr, e3, e4⟩ := tbOf_mem h2
    obtain ⟨i, hi, ei⟩ := List.mem_iff_getElem.mp hp
    obtain ⟨j, hj, ej⟩ := List.mem_iff_getElem.mp hr
    have ij : i = j := by
      refine (List.getElem_inj (h₀ := by simpa using hi) (h₁ := by simpa using hj) nd).mp ?_
      rw [List.getElem_map, List.getElem_map, ei, ej, e2, e4]
    subst ij
    rw [ei] at ej
    subst ej
    exact e1.symm.trans e3
  · obtain ⟨p, hp, _, e⟩ := tbOf_mem h
    refine ⟨#[], by rw [← e]; exact tabs p hp, True.intro, fun pos cv z => ?_⟩
    have z : codeAmong pos [] = some cv := z
    simp [codeAmong] at z
  · rw [e]
    exact fun v H' _ rv => by
      rw [rv.blE]
      exact hq H'
section
variable {P : Program} {w : World} {K : PySem.W.Frag} {mg mb : Str → Option Value} {k : Nat} {fa a : Addr} {fd : FuncData} {x : Str} {sp : Sp} {sh : Shared} {us : List Value} {ns : List Int} {cs : Tbs}
/-- nothing but the script and the tables may be tracked -/
def OnlyT (cs : Tbs) (T : Hp) : Prop := ∀ c, T c = none ∨ (∃ p ∈ cs, p.2.2 = c) ∨ ∃ ob ys, T c = some (.frz ob (.lst ys))
theorem law_atT (kin : K.In sh.heap) (gl : sh.heap.Ns mainGlobals mg) (bl : sh.heap.Ns builtinsNs mb) (bb : ∀ y : Str, y ≠ "__name__" → mb y = bootBuiltins y) (nol : sh.heap.NoLimit) (g0 : sh.gens = #[])
    (main : ∃ (bm : Addr) (ob : Obj), mg "__builtins__" = some (.ref bm) ∧ bm ≠ builtinsNs ∧ sh.heap.get? bm = some ob ∧ ob.cls = .type "module" ∧ ob.dict = some builtinsNs ∧ ob.data = .plain)
    (emp : ∀ p ∈ cs, sh.heap.get? p.2.2 = some (PySem.W.tabObj #[])) (out : ∀ p ∈ cs, K.lookup p.2.2 = none) (cod : ∀ p ∈ cs, PySem.W.codeHdIn K p.2.1 p.2.2 = true)
    (ea : sh.heap.get? a = some { cls := .type "list", data := .seq us.toArray }) (hr : Room k callerA)
    (F : ∀ b : Heap, K.In b → b.Ns mainGlobals mg → (∀ p ∈ cs, LamX.TabB b mg p.2.1 p.2.2) → FnG P w K mg b CX0 k fa fd [x] sp) (bind1 : ∀ (s : Shared) (u : Value), BindsTo s fd ⟨[u], []⟩ [(x, u)])
    (T : Hp) (only : OnlyT cs T) (tabs : ∀ p ∈ cs, T p.2.2 = some (.tbl #[])) (law : sp [.ref a] T (fun v _ => v = .bl true) fun _ _ _ => False) (ok : HOk P w T sh.heap) (alone : ∀ c, T c ≠ none → c = a ∨ ∃ p ∈ cs, p.2.2 = c) (away : T a ≠ none → K.lookup a = none) :
    codeAny (model P w) callerA (.call (.ref fa) ⟨[.ref a], []⟩) (Good sh) sh := by
  have keep1 : ∀ {c : Addr} {o : Obj}, sh.heap.get? c = some o → T c = none → (hidT sh.heap T).get? c = some o := fun e n => hidT_get e n
  -- what is neither list nor table is not tracked
  have free1 : ∀ {c : Addr} {o : Obj}, sh.heap.get? c = some o → (∀ l m, o.data ≠ .seq l m) → o.data ≠ .fields #[] → T c = none := by
    intro c o e n1 n2
    rcases ht : T c with _ | u
    · rfl
    · rcases alone c (by rw [ht]; exact Option.some_ne_none u) with rfl | ⟨p, hp, rfl⟩
      · rw [ea] at e
        cases e
        exact absurd rfl (n1 _ _)
      · rw [emp p hp] at e
        cases e
        exact absurd rfl n2
  have nsT : ∀ {c : Addr} {m : Str → Option Value}, sh.heap.Ns c m → (hidT sh.heap T).Ns c m := by
    rintro c m ⟨o, en, n, e, d, rest⟩
    exact ⟨o, en, n, keep1 e (free1 e (fun l m z => by rw [d] at z; cases z) fun z => by rw [d] at z; cases z), d, rest⟩
  have kinT : K.In (hidT sh.heap T) := by
    intro c o e
    refine keep1 (kin c o e) ?_
    rcases ht : T c with _ | u
    · rfl
    · rcases alone c (by rw [ht]; exact Option.some_ne_none u) with rfl | ⟨p, hp, rfl⟩
      · rw [away (by rw [ht]; exact Option.some_ne_none u)] at e
        cases e
      · rw [out p hp] at e
        cases e
  have md : Mod K mg (hidT sh.heap T) := by
    obtain ⟨mc, q1, q2⟩ := nol
    exact ⟨kinT, nsT gl, ⟨mb, nsT bl, bb⟩, ⟨mc, nsT q1, q2⟩⟩
  have none1 : ∀ c : Addr, c ∉ ([] : List Addr) := fun c z => by cases z
  have TB : ∀ p ∈ cs, LamX.TabB (hidT sh.heap T) mg p.2.1 p.2.2 := fun p hp => by
    have ep := emp p hp
    refine ⟨PySem.W.codeHd_of_K kinT (cod p hp), ?_, fun z => ?_⟩
    · obtain ⟨bm, ob, b1, b2, b3, b4, b5, b6⟩ := main
      refine ⟨bm, ob, b1, b2, fun q => ?_, fun q => ?_, keep1 b3 (free1 b3 (fun l m z => by rw [b6] at z; cases z) fun z => by rw [b6] at z; cases z), b4, b5, b6⟩
      · obtain ⟨og, en, n, e1, d1, _⟩ := id gl
        rw [q, e1] at b3
        cases b3
        rw [d1] at b6
        cases b6
      · rw [q, ep] at b3
        cases b3
        cases b6
    · obtain ⟨og, en, n, e1, d1, _⟩ := id gl
      rw [z, ep] at e1
      cases e1
      cases d1
  have env : Env0 P w K mg (hidT sh.heap T) callerA [] sh T := ⟨rfl, md, fun _ _ e => of_hidT e, Nat.le_of_eq (hidT_size _ _), trivial, fun c z => absurd z (none1 c), ok, .of_eq g0⟩
  have run := (F _ kinT (nsT gl) TB).go callerA [] sh T ⟨[.ref a], []⟩ [.ref a] [.ref a] _ _ rfl hr env (bind1 sh (.ref a)) (.cons rfl .nil) law
  refine codeAny_mono run fun r s' z => ?_
  match r, z with
  | .error e, z => exact (show False from z).elim
  | .ok .next, z => exact (show False from z).elim
  | .ok .brk, z => exact (show False from z).elim
  | .ok .cont, z => exact (show False from z).elim
  | .ok (.ret u), ⟨v, T', os, bare, un, ok', rv, q⟩ =>
    have q' : v = .bl true := q
    subst q'
    obtain rfl : u = Value.bool true := rv
    have grown : ∀ p ∈ cs, ∃ more : Array Value, s'.heap.get? p.2.2 = some (PySem.W.tabObj more) := fun p hp => by
      obtain ⟨more, z⟩ := un.tbls p.2.2 #[] (tabs p hp)
      exact ⟨_, ok' _ _ z⟩
    have stay : ∀ (c : Addr) (o : Obj), (¬ ∃ p ∈ cs, p.2.2 = c) → sh.heap.get? c = some o → s'.heap.get? c = some o := fun c o nt e => by
      rcases ht : T c with _ | h
      · exact un.keep c o e ht (none1 c) (none1 c)
      · rcases only c with z | z | ⟨ob, ys, z⟩
        · rw [ht] at z
          cases z
        · exact absurd z nt
        · obtain ⟨z1, _⟩ := ok c _ z
          obtain ⟨z2, _⟩ := ok' c _ (un.frzs c ob _ z)
          rw [e] at z1
          cases z1
          exact z2
    refine ⟨rfl, ⟨fun c o e => ?_, fun c o e => ?_⟩, os, bare⟩
    · by_cases hc : ∃ p ∈ cs, p.2.2 = c
      · obtain ⟨p, hp, rfl⟩ := hc
        obtain ⟨more, hm⟩ := grown p hp
        rw [emp p hp] at e
        cases e
        refine .inr (.inl ⟨((PySem.W.codeHd_of_K kin (cod p hp)).tab (emp p hp)).isCodeTable, rfl, #[], more, rfl, ?_⟩)
        rw [Array.empty_append]
        exact hm
      · exact .inl (stay c o hc e)
    · by_cases hc : ∃ p ∈ cs, p.2.2 = c
      · obtain ⟨p, hp, rfl⟩ := hc
        obtain ⟨more, hm⟩ := grown p hp
        exact ⟨_, hm⟩
      · exact ⟨o, stay c o hc e⟩
theorem lawGT (kin : K.In sh.heap) (gl : sh.heap.Ns mainGlobals mg) (bl : sh.heap.Ns builtinsNs mb) (bb : ∀ y : Str, y ≠ "__name__" → mb y = bootBuiltins y) (nol : sh.heap.NoLimit) (g0 : sh.gens = #[])
    (main : ∃ (bm : Addr) (ob : Obj), mg "__builtins__" = some (.ref bm) ∧ bm ≠ builtinsNs ∧ sh.heap.get? bm = some ob ∧ ob.cls = .type "module" ∧ ob.dict = some builtinsNs ∧ ob.data = .plain)
    (emp : ∀ p ∈ cs, sh.heap.get? p.2.2 = some (PySem.W.tabObj #[])) (out : ∀ p ∈ cs, K.lookup p.2.2 = none) (cod : ∀ p ∈ cs, PySem.W.codeHdIn K p.2.1 p.2.2 = true)
    (ea : sh.heap.get? a = some { cls := .type "list", data := .seq us.toArray }) (inn : IntsAre us ns) (short : ns.length ≤ 63) (hr : Room k callerA)
    (F : ∀ b : Heap, K.In b → b.Ns mainGlobals mg → (∀ p ∈ cs, LamX.TabB b mg p.2.1 p.2.2) → FnG P w K mg b CX0 k fa fd [x] (spLawT K cs)) (bind1 : ∀ (s : Shared) (u : Value), BindsTo s fd ⟨[u], []⟩ [(x, u)]) :
    codeAny (model P w) callerA (.call (.ref fa) ⟨[.ref a], []⟩) (Good sh) sh := by
  have rv := vals_ints inn
  have len := inn.length
  have big : (63 : Nat) ≤ sizeLine := by decide +kernel
  have na : ¬ ∃ p ∈ cs, p.2.2 = a := fun ⟨p, hp, e⟩ => by
    have t := emp p hp
    rw [e, ea] at t
    cases t
  classical
  let tabs : Hp := fun c => if ∃ p ∈ cs, p.2.2 = c then some (.tbl #[]) else none
  have tin : ∀ p ∈ cs, tabs p.2.2 = some (.tbl #[]) := fun p hp => if_pos ⟨p, hp, rfl⟩
  rcases hk : K.lookup a with _ | o
  · let T : Hp := fun c => if c = a then some (.frz { cls := .type "list", data := .seq us.toArray } (.lst (ns.map V.int))) else tabs c
    have T1 : ∀ c, c ≠ a → T c = tabs c := fun c n => if_neg n
    have on : OnlyT cs T := fun c => by
      by_cases e : c = a
      · exact .inr (.inr ⟨_, _, if_pos e⟩)
      · by_cases h : ∃ p ∈ cs, p.2.2 = c
        · exact .inr (.inl h)
        · exact .inl ((T1 c e).trans (if_neg h))
    have tt : ∀ p ∈ cs, T p.2.2 = some (.tbl #[]) := fun p hp => (T1 _ fun e => na ⟨p, hp, e⟩).trans (tin p hp)
    refine law_atT kin gl bl bb nol g0 main emp out cod ea hr F bind1 T on tt ⟨a, ns, rfl, .inl (.inr ⟨_, if_pos rfl⟩), short, tt, fun _ => rfl⟩ (fun c u z => ?_) (fun c z => ?_) fun _ => hk
    · by_cases e : c = a
      · have z' := (if_pos e).symm.trans z
        cases z'
        subst e
        exact ⟨ea, by rw [List.length_map]; exact Nat.le_trans short big, us, _, rv, ea⟩
      · by_cases h : ∃ p ∈ cs, p.2.2 = c
        · have z' := (if_pos h).symm.trans ((T1 c e).symm.trans z)
          cases z'
          obtain ⟨p, hp, rfl⟩ := h
          exact emp p hp
        · have z' := (if_neg h).symm.trans ((T1 c e).symm.trans z)
          cases z'
    · by_cases e : c = a
      · exact .inl e
      · by_cases h : ∃ p ∈ cs, p.2.2 = c
        · exact .inr h
        · exact absurd ((T1 c e).trans (if_neg h)) z
  · have e := kin a o hk
    rw [ea] at e
    cases e
    have on : OnlyT cs tabs := fun c => by
      by_cases h : ∃ p ∈ cs, p.2.2 = c
      · exact .inr (.inl h)
      · exact .inl (if_neg h)
    refine law_atT kin gl bl bb nol g0 main emp out cod ea hr F bind1 tabs on tin ⟨a, ns, rfl, .inr ⟨_, us.toArray, _, hk, rfl, rfl, rfl, ?_, by simpa using rv⟩, short, tin, fun _ => rfl⟩ (fun c u z => ?_) (fun c z => ?_) fun z => absurd (if_neg na) z
    · rw [List.size_toArray, len]
      exact Nat.le_trans short big
    · by_cases h : ∃ p ∈ cs, p.2.2 = c
      · have z' := (if_pos h).symm.trans z
        cases z'
        obtain ⟨p, hp, rfl⟩ := h
        exact emp p hp
      · have z' := (if_neg h).symm.trans z
        cases z'
    · by_cases h : ∃ p ∈ cs, p.2.2 = c
      · exact .inr h
      · exact absurd (if_neg h) z
end
/-- the goal that k_head leaves, where a law's defs make lambdas -/
theorem walkGT {l : PySem.W.OpenLaw} {k : Nat} {q : Program} {loose : List Str} {XP : (Str → Option Value) → Heap → Prop} {YP : World → Heap → Prop} {d : DefRec} {K : Params → PySem.W.Frag} {x : Str}
    (most : l.most = some 63) (plain : d.params.defaults = []) (hr : Room k callerA) (kin : ∀ (w : World) (h : Heap), YP w h → (K w.params).In h)
    (F : ∀ (w : World) (mg : Str → Option Value) (fa : Addr) (h : Heap), YP w h → (K w.params).In h → h.Ns mainGlobals mg → mg d.name = some (.ref fa) →
      ∃ (fd : FuncData) (cs : Tbs), (∀ (s : Shared) (u : Value), BindsTo s fd ⟨[u], []⟩ [(x, u)]) ∧ (∀ p ∈ cs, h.get? p.2.2 = some (PySem.W.tabObj #[])) ∧ (∀ p ∈ cs, (K w.params).lookup p.2.2 = none) ∧ (∀ p ∈ cs, PySem.W.codeHdIn (K w.params) p.2.1 p.2.2 = true) ∧
        ∀ b : Heap, (K w.params).In b → b.Ns mainGlobals mg → (∀ p ∈ cs, LamX.TabB b mg p.2.1 p.2.2) → FnG l.prog w (K w.params) mg b CX0 k fa fd [x] (spLawT (K w.params) cs)) :
    PySem.W.WalkO q loose XP YP l.row.toRowW d [] (fun f vs => PySem.call f vs) :=
  Att.attach_call most plain fun w s0 s1 mg mb fa o pm cd doc a us ns G Y _ _ _ name ea inn len g0 => by
    have kx := kin w _ Y
    obtain ⟨fd, cs, b1, emp, out, cod, hF⟩ := F w mg fa _ Y kx G.T.g name
    exact lawGT kx G.T.g G.T.b G.T.builtins G.T.nolimit g0 G.T.bmain emp out cod ea inn len hr hF b1
end Vl
set_option Elab.async false
set_option linter.all false
set_option maxRecDepth 100000
set_option maxHeartbeats 2000000
namespace Vl
open PySem PySem.Spec PyProof.Rows L2 Sb
section
variable {X : Cx} {B : Bs} {Z : ZX} {e : Expr} {apos pos : Pos}
def oCntS (a : Str) : D → Option D
  | .str b => some (.int (Txt.count a b))
  | _ => none
theorem mv_cntS {K : PySem.W.Frag} {ct : Ct} : M1V K ct (fun x xs H Q => ∃ a b, x = .str a ∧ xs = [.str b] ∧ Q (.int (Txt.count a b)) H) oCntS := by
  intro S H a y d z Q live ry ho hq
  unfold oCntS at ho
  split at ho
  · rename_i b
    cases ho
    rw [ry.strE]
    exact ⟨a, b, rfl, rfl, hq _ _ (Same.refl _) (.int _)⟩
  · cases ho
theorem de_cntS {o : Expr} {f h : Ev D} (ho : DE X B Z o f) (he : DE X B Z e h) (hs : starEach [e] X.env = [(false, eval e X.env)] := by rfl) (hbase : attributeBase o "count" X.env (eval o X.env) = eval o X.env := by rfl) (hline : (apos.endLine == pos.line) = true := by rfl) :
    DE X B Z (.Call (.Attribute o "count" apos) [e] [] pos) (fM1 oCntS f h) := de_m1 PySem.F.slot_str_count PySem.F.type_str_count mt_count mv_cntS ho he hs hbase hline
end
end Vl
set_option Elab.async false
set_option linter.all false
set_option maxRecDepth 100000
set_option maxHeartbeats 2000000
namespace Vl
open PySem PySem.Spec PyProof.Rows L2 Sb
def nGet (es : NEs) (k : NestedKey) : Option V := (es.find? fun e => decide (e.1 = k)).map (·.2.2)
def nPut (es : NEs) (k : NestedKey) (b : Addr) (v : V) : NEs :=
  if (es.any fun e => decide (e.1 = k)) = true then es.map fun e => if e.1 = k then (e.1, e.2.1, v) else e else es ++ [(k, b, v)]
abbrev NP : NEs → List (NestedKey × Addr × Value) → Prop := Paired fun p q => p.1 = q.1 ∧ p.2.1 = q.2.1 ∧ RelV p.2.2 q.2.2
theorem NP.val {es : NEs} {xs : List (NestedKey × Addr × Value)} (r : NP es xs) (k : NestedKey) : RelO (nGet es k) ((atKey xs k).map (·.2)) := by
  induction r with
  | nil => exact True.intro
  | @cons p q ps qs h t ih =>
    obtain ⟨h1, _, h2⟩ := h
    by_cases e : p.1 = k
    · have e' : q.1 = k := h1.symm.trans e
      have b : atKey (q :: qs) k = some q.2 := by simp [atKey, List.find?_cons, e']
      have a : nGet (p :: ps) k = some p.2.2 := by simp [nGet, List.find?_cons, e]
      rw [a, b]
      exact h2
    · have e' : ¬ q.1 = k := fun z => e (h1.trans z)
      have b : atKey (q :: qs) k = atKey qs k := by simp [atKey, List.find?_cons, e']
      have a : nGet (p :: ps) k = nGet ps k := by simp [nGet, List.find?_cons, e]
      rw [a, b]
      exact ih
theorem nGet_any (k : NestedKey) : ∀ es : NEs, (es.any fun e => decide (e.1 = k)) = (nGet es k).isSome
  | [] => rfl
  | p :: r => by
    rw [List.any_cons]
    by_cases e : p.1 = k
    · simp [nGet, List.find?_cons, e]
    · rw [decide_eq_false e, Bool.false_or, nGet_any k r]
      simp [nGet, List.find?_cons, e]
theorem NP.repl {es : NEs} {xs : List (NestedKey × Addr × Value)} (r : NP es xs) (k : NestedKey) {y : V} {u : Value} (ry : RelV y u) :
    NP (es.map fun e => if e.1 = k then (e.1, e.2.1, y) else e) (xs.map (putAt k u)) := by
  induction r with
  | nil => exact .nil
  | @cons p q ps qs h t ih =>
    rw [List.map_cons, List.map_cons]
    refine .cons ?_ ih
    obtain ⟨h1, h2, h3⟩ := h
    unfold putAt
    by_cases e : p.1 = k
    · rw [if_pos e, if_pos (h1.symm.trans e)]
      exact ⟨h1, h2, ry⟩
    · rw [if_neg e, if_neg (fun z => e (h1.trans z))]
      exact ⟨h1, h2, h3⟩
theorem NP.put {es : NEs} {xs : List (NestedKey × Addr × Value)} (r : NP es xs) (k : NestedKey) (b : Addr) {y : V} {u : Value} (ry : RelV y u) : NP (nPut es k b y) (storedH xs k b u) := by
  have e : (es.any fun e => decide (e.1 = k)) = (atKey xs k).isSome := by
    rw [nGet_any, (r.val k).isSome_eq, Option.isSome_map]
  unfold nPut storedH
  rw [e]
  by_cases q : (atKey xs k).isSome = true
  · rw [if_pos q, if_pos q]
    exact r.repl k ry
  · rw [if_neg q, if_neg q]
    exact Paired.snoc r ⟨rfl, rfl, ry⟩
end Vl
set_option Elab.async false
set_option linter.all false
set_option maxRecDepth 100000
set_option maxHeartbeats 2000000
namespace Vl
open PySem PySem.Spec PyProof.Rows L2 Sb
end Vl
set_option Elab.async false
set_option linter.all false
set_option maxRecDepth 100000
set_option maxHeartbeats 2000000
namespace Vl
open PySem PySem.Spec PyProof.Rows L2 Sb
end Vl
set_option Elab.async false
set_option linter.all false
set_option maxRecDepth 100000
set_option maxHeartbeats 2000000
namespace PySem
open Sem (wp)
end PySem
namespace Vl
open PySem PySem.Spec PyProof.Rows L2 Sb
end Vl
set_option Elab.async false
set_option linter.all false
set_option maxRecDepth 100000
set_option maxHeartbeats 2000000
namespace Vl
open PySem PySem.Spec PyProof.Rows L2 Sb
end Vl
set_option Elab.async false
set_option linter.all false
set_option maxRecDepth 100000
set_option maxHeartbeats 2000000
namespace Vl
open PySem PySem.W PySem.Spec PyProof.Rows L2 Sb
end Vl
set_option Elab.async false
set_option linter.all false
set_option maxRecDepth 100000
set_option maxHeartbeats 2000000
namespace Vl
open PySem PySem.Spec PyProof.Rows L2 Sb
end Vl
set_option Elab.async false
set_option linter.all false
set_option maxRecDepth 100000
set_option maxHeartbeats 2000000
namespace PySem.W
open PySem PySem.Calls PySem.Spec PyProof.Rows
end PySem.W
namespace Vl
open PySem PySem.Spec PyProof.Rows L2 Sb
end Vl
set_option Elab.async false
set_option linter.all false
set_option maxRecDepth 100000
set_option maxHeartbeats 2000000
namespace Vl
open PySem PySem.Spec PyProof.Rows L2 Sb
end Vl
namespace Vl
open PySem PySem.Spec PyProof.Rows L2 Sb
end Vl
namespace Vl
open PySem PySem.Spec PyProof.Rows L2 Sb
end Vl
set_option Elab.async false
set_option linter.all false
set_option maxRecDepth 100000
set_option maxHeartbeats 2000000
namespace Vl
open PySem PySem.Spec PyProof.Rows L2 Sb
inductive NK where
  | sh | ow | tr
/-- v is d, shared or new; A: what it claims -/
def NkOk (K : PySem.W.Frag) (ct : Ct) (G : Gh) (H0 H : Hp) (v : V) (d : D) (A : Addr → Prop) : NK → Prop
  | .sh => Rp K ct (off G.S H) v d ∧ ∀ a, ¬ A a
  | .ow => ∃ p, v = .ref p ∧ H0 p = none ∧ G.S p ∧ G.un p ∧ OwnAt K ct H (off G.S H) p d ∧ ∀ a, A a → a = p
  | .tr => ∃ r p, v = .ref p ∧ r [] = some p ∧ (∀ π q, r π = some q → H0 q = none ∧ G.S q ∧ G.un q ∧ A q) ∧ (∀ π ρ q, r π = some q → r ρ = some q → π = ρ) ∧ TrAt K ct H (off G.S H) r [] d ∧ ∀ a, A a → ∃ π, r π = some a
section
variable {K : PySem.W.Frag} {B : Bs} {ct : Ct} {G G0 G' G1 : Gh} {env : List Slot} {σ : L2.St} {H H' H0 H00 H1 : Hp} {v w : V} {d e : D} {A A2 : Addr → Prop} {k k2 : NK} {i : Nat}
theorem NkOk.fresh (h : NkOk K ct G H0 H v d A k) : ∀ a, A a → H0 a = none ∧ G.S a := fun a ha => by
  cases k with
  | sh => exact absurd ha (h.2 a)
  | ow =>
    obtain ⟨p, _, h1, h2, _, _, h3⟩ := h
    rw [h3 a ha]
    exact ⟨h1, h2⟩
  | tr =>
    obtain ⟨r, p, _, _, h1, _, _, h2⟩ := h
    obtain ⟨π, hp⟩ := h2 a ha
    exact ⟨(h1 π a hp).1, (h1 π a hp).2.1⟩
theorem NkOk.mono (h : NkOk K ct G H0 H v d A k) (m : Mono G H G' H') : NkOk K ct G' H0 H' v d A k := by
  cases k with
  | sh => exact ⟨h.1.mono m.same, h.2⟩
  | ow =>
    obtain ⟨p, h0, h1, h2, h3, h4, h5⟩ := h
    obtain ⟨x1, x2, x3⟩ := m.tmp p h2 h3
    exact ⟨p, h0, h1, x1, x2, h4.mono x3 m.same, h5⟩
  | tr =>
    obtain ⟨r, p, h0, h1, h2, h3, h4, h5⟩ := h
    refine ⟨r, p, h0, h1, fun π a z => ?_, h3, h4.same (fun π a z => (m.tmp a (h2 π a z).2.1 (h2 π a z).2.2.1).2.2) m.same, h5⟩
    obtain ⟨y1, y2, y3, y4⟩ := h2 π a z
    obtain ⟨x1, x2, x3⟩ := m.tmp a y2 y3
    exact ⟨y1, x1, x2, y4⟩
end
end Vl
set_option Elab.async false
set_option linter.all false
set_option maxRecDepth 100000
set_option maxHeartbeats 2000000
namespace Vl
open PySem PySem.Spec PyProof.Rows L2 Sb
section
variable {X : Cx} {B : Bs} {Z : ZX} {tg e : Expr} {f : Ev D} {c fld : Str} {C fa : Addr} {ns : List Str} {j k : Nat} {fd : FuncData}
def fItOwn (c : Str) (j : Nat) (f : Ev D) : Ev (List D) := fun env => (f env).bind fun d e1 => match d with
  | .ob c' l => if c' = c then (match l[j]? with
    | some (.tup xs) => .val xs e1
    | some (.ctup xs) => .val xs e1
    | _ => .stuck) else .stuck
  | _ => .stuck
theorem di_own (hct : B.ct c = some (C, ns)) (nd : ns.Nodup) (hj : ns[j]? = some fld) (M : Meth X.K C "__iter__" fa) (F : FnN X.prog X.w X.K X.mg X.base CX0 k fa fd ["self"] (spIterOf X.K C fld)) (hr : Room k X.A) (hb : Binds X.K fd ["self"] []) (he : DE X B Z e f) :
    DI X B Z tg e (fItOwn c j f) :=
  ⟨PI.weak (Sb.pi_own he.pe M F hr hb) fun σ H R ⟨G, env, cf, q⟩ => ⟨G, env, cf, post_imp (post_bind q) fun d e1 G1 H1 m1 c1 p1 v rv => by
    cases d with
    | ob c' l =>
      simp only [] at p1
      split at p1
      · rename_i ec
        subst ec
        obtain ⟨a, C', dx, ns', vs, rfl, h1, h2, h3, h4⟩ := rv.obE
        rw [hct] at h1
        cases h1
        split at p1
        · rename_i xs hx
          obtain ⟨y, g1, g2⟩ := h4.get' hx
          obtain ⟨t, ws, rfl, h5, h6⟩ := g2.tupE
          exact ⟨a, dx, t, _, ws, rfl, off_le _ _ h3, zip_lookup nd hj g1, sqT_same off_le h5, p1 G1 H1 Mono.refl c1 _ (walk_tup h5 h6)⟩
        · rename_i xs hx
          obtain ⟨y, g1, g2⟩ := h4.get' hx
          obtain ⟨t, ws, rfl, h5, h6⟩ := g2.ctupE
          exact ⟨a, dx, t, _, ws, rfl, off_le _ _ h3, zip_lookup nd hj g1, sqT_same off_le h5, p1 G1 H1 Mono.refl c1 _ (walk_tup h5 h6)⟩
        · exact p1.elim
      · exact p1.elim
    | _ => exact p1.elim⟩⟩
end
end Vl
set_option Elab.async false
set_option linter.all false
set_option maxRecDepth 100000
set_option maxHeartbeats 2000000
namespace Vl
open PySem PySem.Spec PyProof.Rows L2 Sb
end Vl
namespace Vl
open PySem PySem.Spec PyProof.Rows L2 Sb
/-- an own __iter__ that hands out the iterator of a tuple that a field holds -/
structure Vit (P : Program) (w : World) (K : PySem.W.Frag) (mg : Str → Option Value) (base : Heap) (k : Nat) (C : Addr) (f : Addr) (fd : FuncData) (fld : Str) : Prop where
  mt : Meth K C "__iter__" f
  ok : FnN P w K mg base CX0 k f fd ["self"] (spIterOf K C fld)
  bd : Binds K fd ["self"] []
end Vl
set_option Elab.async false
set_option linter.all false
set_option maxRecDepth 100000
set_option maxHeartbeats 4000000
namespace Pg
open PySem L2 Sb Vl
def F_is_number : Ev Fl := (fRet (fAnd (fIsi .int (fVar 0)) (fNot (fIsi .bool (fVar 0)))))
def Φ_is_number : List D → Res := fun ds => (runV [false] 1 F_is_number ds).quiet
def F_is_follower : Ev Fl := (fSeq (fIte (fB (fIsi .str (fVar 0))) (fRet (fOp (oInT false) (fVar 0) (fVar 2))) fNx)
  (fRet (fAnd (fCall [false] Φ_is_number [] (gCn (fVar 0) gNl)) (fChain (oI fun i j => .bl (decide (i ≤ j))) (oI fun i j => .bl (decide (i < j))) (fC (.int 0)) (fVar 0) (fVar 1)))))
def Φ_is_follower : List D → Res := fun ds => (runV [false, false, false] 3 F_is_follower ds).quiet
def F_is_row : Ev Fl := (fSeq (fIte (fOrT (fNotT (fB (fIsi .tuple (fVar 0)))) (fB (fOp (oEqS true) (fCB (o1 oLen) (fCons (fVar 0) fNil)) (fC (.int 3))))) (fRet (fC (.bl false))) fNx)
  (fSeq (fAsg (.tp [(.nm 3), (.nm 4), (.nm 5)]) (fVar 0))
  (fSeq (fIte (fOrT (fNotT (fB (fCall [false] Φ_is_number [] (gCn (fVar 3) gNl)))) (fB (fOp (oInT true) (fVar 3) (fTup (fCons (fC (.int 0)) (fCons (fC (.int 1)) fNil)))))) (fRet (fC (.bl false))) fNx)
  (fRet (fAnd (fCall [false, false, false] Φ_is_follower [] (gCn (fVar 4) (gCn (fVar 1) (gCn (fVar 2) gNl)))) (fCall [false, false, false] Φ_is_follower [] (gCn (fVar 5) (gCn (fVar 1) (gCn (fVar 2) gNl)))))))))
def Φ_is_row : List D → Res := fun ds => (runV [false, false, false] 6 F_is_row ds).quiet
def B_reached_1 : Ev Fl := (fSeq (fIte (fB (fDInO false 2 (fVar 5))) fCt fNx)
  (fSeq (fDPutO 2 (fVar 5) (fC (.bl true)))
  (fIte (fB (fCall [false] Φ_is_number [] (gCn (fVar 5) gNl))) (fApp 3 (fVar 5)) fNx)))
def L_reached_1 : Ev Fl := (fFor (fItems (fSl oSlT (fOp oIx (fVar 0) (fVar 4)) (fPart (fC (.int 1))) fNoPart)) (.nm 5) B_reached_1)
def T_reached_1 : Ev Bool := (fTruO 3)
def B_reached_2 : Ev Fl := (fSeq (fAsg (.nm 4) (fPop 3))
  L_reached_1)
def L_reached_2 : Ev Fl := (wloop T_reached_1 B_reached_2 100000)
def F_reached : Ev Fl := (fSeq (fSetN 2 (fDOne (fVar 1) (fC (.bl true))))
  (fSeq (fSetN 3 (fLst (fCons (fVar 1) fNil)))
  (fSeq L_reached_2
  (fRetW (fListD 2)))))
def Φ_reached : List D → Res := fun ds => (runV [false, false] 6 F_reached ds).quiet
def B_check_machine_1 : Ev Fl := (fIte (fNotT (fB (fCall [false, false, false] Φ_is_row [] (gCn (fVar 6) (gCn (fCB (o1 oLen) (fCons (fVar 1) fNil)) (gCn (fVar 4) gNl)))))) (fRaise "BadEnd" (fCons (fVar 0) (fCons (fVar 5) fNil))) fNx)
def L_check_machine_1 : Ev Fl := (fFor (fEnum (fCons (fVar 1) fNil)) (.tp [(.nm 5), (.nm 6)]) B_check_machine_1)
def F_check_machine : Ev Fl := (fSeq (fIte (fOrT (fNotT (fB (fIsi2 .list .tuple (fVar 1)))) (fNotT (fB (fChain (oI fun i j => .bl (decide (i ≤ j))) (oI fun i j => .bl (decide (i ≤ j))) (fVar 2) (fCB (o1 oLen) (fCons (fVar 1) fNil)) (fVar 3))))) (fRaise "BadEnd" (fCons (fVar 0) (fCons (fC .non) fNil))) fNx)
  L_check_machine_1)
def Φ_check_machine : List D → Res := fun ds => (runV [false, false, false, false, false] 7 F_check_machine ds)
def E_numbered_rows_1 : Ev D := (fTup (fCons (fVar 0) (fCons (fVar 2) (fCons (fVar 3) fNil))))
def F_numbered_rows : Ev Fl := (fRetW (fComp (fEnum (fCons (fVar 1) fNil)) (.tp [(.nm 2), (.nm 3)]) fYes E_numbered_rows_1 [2, 3]))
def Φ_numbered_rows : List D → Res := fun ds => (runV [false, false] 4 F_numbered_rows ds).quiet
def F_End_init : Ev Fl := (fSeq (fDrop (fCall [false, false, false, false, false] Φ_check_machine [] (gCn (fC (.str "hearer")) (gCn (fVar 1) (gCn (fC (.int 2)) (gCn (fC (.int 100)) (gCn (fC (.ctup [(.str "taken"), (.str "lost")])) gNl)))))))
  (fSeq (fDrop (fCall [false, false, false, false, false] Φ_check_machine [] (gCn (fC (.str "sender")) (gCn (fVar 2) (gCn (fC (.int 1)) (gCn (fC (.int 100)) (gCn (fC (.ctup [(.str "done"), (.str "again")])) gNl)))))))
  (fSeq (fIte (fB (fOp (oIn false) (fC (.str "taken")) (fCall [false, false] Φ_reached [] (gCn (fVar 1) (gCn (fC (.int 1)) gNl))))) (fRaise "BadEnd" (fCons (fC (.str "body")) (fCons (fC .non) fNil))) fNx)
  (fSeq (fFldS "End" 0 0 (fCB (o1 oTuple) (fCons (fVar 1) fNil)))
  (fSeq (fFldS "End" 0 1 (fCB (o1 oTuple) (fCons (fVar 2) fNil)))
  (fFldS "End" 0 2 (fCB (o1 oTuple) (fCons (fOp oCat (fCall [false, false] Φ_numbered_rows [] (gCn (fC (.str "hearer")) (gCn (fVar 1) gNl))) (fCall [false, false] Φ_numbered_rows [] (gCn (fC (.str "sender")) (gCn (fVar 2) gNl)))) fNil))))))))
def Φ_End_init : List D → Res := fun ds => (runV [true, false, false] 3 F_End_init ds)
def F_End_eq : Ev Fl := (fRet (fAnd (fUn (oIsO "End") (fVar 1)) (fAnd (fOp (oEq false) (fUn (oFld "End" 0) (fVar 0)) (fUn (oFld "End" 0) (fVar 1))) (fOp (oEq false) (fUn (oFld "End" 1) (fVar 0)) (fUn (oFld "End" 1) (fVar 1))))))
def Φ_End_eq : List D → Res := fun ds => (runV [false, false] 2 F_End_eq ds).quiet
def E_End_contains_1 : Ev D := (fIsi .bool (fVar 2))
def F_End_contains : Ev Fl := (fSeq (fIte (fOrT (fNotT (fB (fIsi .tuple (fVar 1)))) (fB (fCB (o1 oAny) (fCons (fComp (fItems (fVar 1)) (.nm 2) fYes E_End_contains_1 [2]) fNil)))) (fRet (fC (.bl false))) fNx)
  (fRet (fOr (fOp (oInT false) (fVar 1) (fUn (oFld "End" 0) (fVar 0))) (fOp (oInT false) (fVar 1) (fUn (oFld "End" 1) (fVar 0))))))
def Φ_End_contains : List D → Res := fun ds => (runV [false, false] 3 F_End_contains ds).quiet
def E_machine_text_1 : Ev D := (fJs [(fFmt (fVar 1)), (fC (.str " ")), (fFmt (fVar 2)), (fC (.str " ")), (fFmt (fVar 3))] Str.empty)
def F_machine_text : Ev Fl := (fRet (fM1 oJoin (fC (.str ", ")) (fComp (fItems (fVar 0)) (.tp [(.nm 1), (.nm 2), (.nm 3)]) fYes E_machine_text_1 [1, 2, 3])))
def Φ_machine_text : List D → Res := fun ds => (runV [false] 4 F_machine_text ds).quiet
def F_End_str : Ev Fl := (fRet (fJs [(fFmt (fCall [false] Φ_machine_text [] (gCn (fUn (oFld "End" 0) (fVar 0)) gNl))), (fC (.str " | ")), (fFmt (fCall [false] Φ_machine_text [] (gCn (fUn (oFld "End" 1) (fVar 0)) gNl)))] Str.empty))
def Φ_End_str : List D → Res := fun ds => (runV [false] 1 F_End_str ds).quiet
end Pg
set_option Elab.async false
set_option linter.all false
set_option maxRecDepth 100000
set_option maxHeartbeats 4000000
namespace Pg
open PySem L2 Sb Vl
def F_L_take : Ev Fl := (fSeq (fIte (fB (fOp (oI fun i j => .bl (decide (j < i))) (fIxO 0 (fC (.int 0))) (fC (.int 0)))) (fSeq (fAsg (.nm 2) (fOp (oIC (fun _ j => decide (0 < j)) fun i j => .int (i % j)) (fCB (o1 oInt) (fCons (fIxO 0 (fC (.int 0))) fNil)) (fVar 1)))
  (fSeq (fPutL 0 (fC (.int 0)) (fOp (oIC (fun _ j => decide (0 < j) && decide (j < 1073741824)) fun i j => .int (i / j)) (fIxO 0 (fC (.int 0))) (fVar 1)))
  (fRet (fVar 2)))) fNx)
  (fSeq (fPutL 0 (fC (.int 2)) (fOp (oI fun i j => .int (i + j)) (fIxO 0 (fC (.int 2))) (fC (.int 1))))
  (fSeq (fAsg (.nm 3) (fOp (oIC (fun _ j => decide (0 < j)) fun i j => .int (i % j)) (fCB (o1 oInt) (fCons (fOp (oIC (fun i j => decide (0 ≤ j) && decide ((Builtin.Int.intBits i : Int) * j ≤ 2 ^ 27)) fun i j => .int (i ^ j.toNat)) (fOp (oI fun i j => .int (i + j)) (fIxO 0 (fC (.int 1))) (fOp (oIC cMul fun i j => .int (i * j)) (fC (.int 1000003)) (fIxO 0 (fC (.int 2))))) (fC (.int 3))) fNil)) (fC (.int 2305843009213693921))))
  (fSeq (fAsg (.nm 3) (fOp (oIC (fun _ j => decide (0 < j)) fun i j => .int (i % j)) (fCB (o1 oInt) (fCons (fOp (oIC (fun i j => decide (0 ≤ j) && decide ((Builtin.Int.intBits i : Int) * j ≤ 2 ^ 27)) fun i j => .int (i ^ j.toNat)) (fOp (oI fun i j => .int (i + j)) (fVar 3) (fOp (oIC cMul fun i j => .int (i * j)) (fC (.int 179424673)) (fIxO 0 (fC (.int 2))))) (fC (.int 2))) fNil)) (fC (.int 2305843009213693951))))
  (fRet (fOp (oIC (fun _ j => decide (0 < j)) fun i j => .int (i % j)) (fOp (oIC (fun _ j => decide (0 < j) && decide (j < 1073741824)) fun i j => .int (i / j)) (fVar 3) (fC (.int 4096))) (fVar 1)))))))
def Φ_L_take : List D → Res := fun ds => (runV [true, false] 4 F_L_take ds).quiet
def F_L_place : Ev Fl := (fSeq (fAsg (.nm 3) (fCall [true, false] Φ_L_take [] (gIo 0 (gCn (fOp (oI fun i j => .int (i + j)) (fVar 1) (fC (.int 4))) gNl))))
  (fRet (fIte (fB (fOp (oI fun i j => .bl (decide (i < j))) (fVar 3) (fVar 1))) (fVar 3) (fOp oIx (fVar 2) (fOp (oIC (fun _ j => decide (0 < j)) fun i j => .int (i % j)) (fCB (o1 oInt) (fCons (fVar 3) fNil)) (fC (.int 2)))))))
def Φ_L_place : List D → Res := fun ds => (runV [true, false, false] 4 F_L_place ds).quiet
def E_L_rows_1 : Ev D := (fTup (fCons (fCall [true, false] Φ_L_take [] (gIo 0 (gCn (fC (.int 2)) gNl))) (fCons (fCall [true, false, false] Φ_L_place [] (gIo 0 (gCn (fVar 1) (gCn (fVar 2) gNl)))) (fCons (fCall [true, false, false] Φ_L_place [] (gIo 0 (gCn (fVar 1) (gCn (fVar 2) gNl)))) fNil))))
def F_L_rows : Ev Fl := (fRetW (fComp (fRng1 (fCons (fVar 1) fNil)) (.nm 3) fYes E_L_rows_1 [3]))
def Φ_L_rows : List D → Res := fun ds => (runV [true, false, false] 4 F_L_rows ds).quiet
def B_L_led_1 : Ev Fl := (fIte (fAndT (fNotT (fB (fIsi .str (fVar 4)))) (fB (fInO true (fVar 4) 2))) (fApp 2 (fVar 4)) fNx)
def L_L_led_1 : Ev Fl := (fFor (fItems (fSl oSlT (fOp oIx (fVar 0) (fIxO 2 (fVar 3))) (fPart (fC (.int 1))) fNoPart)) (.nm 4) B_L_led_1)
def T_L_led_1 : Ev Bool := (fB (fOp (oI fun i j => .bl (decide (i < j))) (fVar 3) (fLenO 2)))
def B_L_led_2 : Ev Fl := (fSeq L_L_led_1
  (fAsg (.nm 3) (fOp (oI fun i j => .int (i + j)) (fVar 3) (fC (.int 1)))))
def L_L_led_2 : Ev Fl := (wloop T_L_led_1 B_L_led_2 100000)
def F_L_led : Ev Fl := (fSeq (fPar 2 3 (fLst (fCons (fVar 1) fNil)) (fC (.int 0)) true false)
  (fSeq L_L_led_2
  (fRetO 2)))
def Φ_L_led : List D → Res := fun ds => (runV [false, false] 5 F_L_led ds).quiet
def B_L_hearer_1 : Ev Fl := (fSeq (fAsg (.tp [(.nm 4), (.nm 5), (.nm 6)]) (fIxO 2 (fVar 3)))
  (fPutL 2 (fVar 3) (fTup (fCons (fVar 4) (fCons (fIte (fB (fOp (oEq false) (fVar 5) (fC (.str "taken")))) (fC (.str "lost")) (fVar 5)) (fCons (fIte (fB (fOp (oEq false) (fVar 6) (fC (.str "taken")))) (fC (.str "lost")) (fVar 6)) fNil))))))
def L_L_hearer_1 : Ev Fl := (fFor (fItems (fCallL [false, false] Φ_L_led (gIo 2 (gCn (fC (.int 1)) gNl)))) (.nm 3) B_L_hearer_1)
def F_L_hearer : Ev Fl := (fSeq (fSetN 2 (fCallN [true, false, false] Φ_L_rows [] (gIo 0 (gCn (fVar 1) (gCn (fLst (fCons (fC (.str "taken")) (fCons (fC (.str "lost")) fNil))) gNl)))))
  (fSeq L_L_hearer_1
  (fRetO 2)))
def Φ_L_hearer : List D → Res := fun ds => (runV [true, false] 7 F_L_hearer ds).quiet
def F_L_sender : Ev Fl := (fRetW (fCallN [true, false, false] Φ_L_rows [] (gIo 0 (gCn (fVar 1) (gCn (fLst (fCons (fC (.str "done")) (fCons (fC (.str "again")) fNil))) gNl)))))
def Φ_L_sender : List D → Res := fun ds => (runV [true, false] 2 F_L_sender ds).quiet
end Pg
set_option Elab.async false
set_option linter.all false
set_option maxRecDepth 100000
set_option maxHeartbeats 1000000
namespace Vl
open PySem L2 Sb
/-- range(n) as it is walked -/
def rng1 (l : List D) (e : List Slot) : Out (List D) := match l with
  | [.int j] => if sm62 j then .val (rangeD 0 j.toNat) e else .stuck
  | _ => .stuck
theorem fRng1_app (fs : Ev (List D)) (env : List Slot) : fRng1 fs env = (fs env).bind rng1 := by
  have h : fRng1 = fun (fs : Ev (List D)) (env : List Slot) => (fs env).bind rng1 := by
    funext fs env
    rfl
  exact congrFun (congrFun h fs) env
theorem fRng1_one (f : Ev D) (env : List Slot) : fRng1 (fCons f fNil) env = (f env).bind fun d e => rng1 [d] e := by
  rw [fRng1_app]
  unfold fCons fNil
  cases h : f env <;> rfl
theorem rng1_nat {n : Nat} (hn : n ≤ 1000000) (e : List Slot) : rng1 [.int (n : Int)] e = .val (rangeD 0 n) e := by
  have c : sm62 (n : Int) = true := sm62_of (by omega) (by omega)
  simp only [rng1, if_pos c, Int.toNat_natCast]
section
variable (l m : List D) (i j : Int) (a b : Str) (p q : Bool) (ns : List Int) (ks : List Key) (env : List Slot)
theorem oLen_lst : oLen (.lst l) = some (.int (l.length : Int)) := rfl
theorem oLen_tup : oLen (.tup l) = some (.int (l.length : Int)) := rfl
theorem oLen_ctup : oLen (.ctup l) = some (.int (l.length : Int)) := rfl
theorem oLen_scr : oLen (.scr ns) = some (.int (ns.length : Int)) := rfl
theorem oIx_lst : oIx (.lst l) (.int i) = atI l i := rfl
theorem oIx_tup : oIx (.tup l) (.int i) = atI l i := rfl
theorem oIx_ctup : oIx (.ctup l) (.int i) = atI l i := rfl
theorem oIx_scr : oIx (.scr ns) (.int i) = (atI ns i).map D.int := rfl
theorem oInt_int : oInt (.int i) = some (.int i) := rfl
theorem oInt_bl : oInt (.bl p) = some (.int (if p then 1 else 0)) := rfl
theorem oAbs_int : oAbs (.int i) = some (.int (if i < 0 then -i else i)) := rfl
theorem oMax_int : oMax (.int i) (.int j) = some (.int (if j > i then j else i)) := rfl
theorem oMin_int : oMin (.int i) (.int j) = some (.int (if j < i then j else i)) := rfl
theorem oTuple_lst : oTuple (.lst l) = some (.tup l) := rfl
theorem oTuple_tup : oTuple (.tup l) = some (.tup l) := rfl
theorem oList_lst : oList (.lst l) = some (.lst l) := rfl
theorem oList_tup : oList (.tup l) = some (.lst l) := rfl
theorem oNeg_int : oNeg (.int i) = some (.int (-i)) := rfl
theorem ty_non : D.ty .non = some .non := rfl
theorem ty_bl : D.ty (.bl p) = some .bool := rfl
theorem ty_int : D.ty (.int i) = some .int := rfl
theorem ty_str : D.ty (.str a) = some .str := rfl
theorem ty_tup : D.ty (.tup l) = some .tuple := rfl
theorem ty_ctup : D.ty (.ctup l) = some .tuple := rfl
theorem ty_lst : D.ty (.lst l) = some .list := rfl
theorem ty_dk : D.ty (.dk ks l) = some .dict := rfl
theorem ty_scr : D.ty (.scr ns) = some .list := rfl
theorem tru_non : D.tru .non = some false := rfl
theorem tru_bl : D.tru (.bl p) = some p := rfl
theorem tru_int : D.tru (.int i) = some (i != 0) := rfl
theorem tru_lst : D.tru (.lst l) = some (!l.isEmpty) := rfl
theorem tru_tup : D.tru (.tup l) = some (!l.isEmpty) := rfl
theorem oEqS_int (neg : Bool) : oEqS neg (.int i) (.int j) = some (.bl (if neg then !decide (i = j) else decide (i = j))) := rfl
theorem oEqS_str (neg : Bool) : oEqS neg (.str a) (.str b) = some (.bl (if neg then !decide (a = b) else decide (a = b))) := rfl
theorem oEqS_bl (neg : Bool) : oEqS neg (.bl p) (.bl q) = some (.bl (if neg then !decide (p = q) else decide (p = q))) := rfl
theorem oCat_lst : oCat (.lst l) (.lst m) = if l.length + m.length ≤ sizeLine then some (.lst (l ++ m)) else none := rfl
theorem oCatA_tup : oCatA (.tup l) (.tup m) = if l.length + m.length ≤ sizeLine then some (.tup (l ++ m)) else none := rfl
theorem oSlT_tup (lo hi : Option Int) : oSlT (.tup l) lo hi = some (.tup (cutD l lo hi)) := rfl
theorem oSlL_lst (lo hi : Option Int) : oSlL (.lst l) lo hi = some (.lst (cutD l lo hi)) := rfl
theorem keyOf_int : keyOf (.int i) = some (.inl i) := rfl
theorem keyOf_str : keyOf (.str a) = some (.inr a) := rfl
theorem isNon_non : D.isNon .non = true := rfl
theorem isNon_bl : D.isNon (.bl p) = false := rfl
theorem isNon_int : D.isNon (.int i) = false := rfl
theorem isNon_str : D.isNon (.str a) = false := rfl
theorem isNon_tup : D.isNon (.tup l) = false := rfl
theorem isNon_lst : D.isNon (.lst l) = false := rfl
theorem oFld_ob (c : Str) (k : Nat) : oFld c k (.ob c l) = l[k]? := if_pos rfl
theorem isOb_ob' (c : Str) : D.isOb c (.ob c l) = true := decide_eq_true rfl
theorem small3 (k : Nat) (h : k ≤ 1000) : (k ≤ sizeLine) = True := by
  simp only [eq_iff_iff, iff_true]
  exact Nat.le_trans h (by decide)
end
end Vl
set_option Elab.async false
set_option linter.all false
set_option maxRecDepth 100000
set_option maxHeartbeats 1000000
namespace Pg
open PySem L2 Sb Vl
local macro_rules | `(tactic| walk_at "ev") => `(tactic| simp only [Vl.runV, Vl.mkEnv, Vl.Res.of, Vl.Res.quiet, Vl.Res.val, Vl.ioAt, Vl.fSeq, Vl.fIte, Vl.fAsg, Vl.fVar, Vl.fC, Vl.fOp, Vl.fIxO, Vl.fPutL, Vl.fRet, Vl.fRetW, Vl.fRetO, Vl.fRetN, Vl.fLst, Vl.fTup, Vl.fB, Vl.fTru, Vl.fCB, Vl.fCons, Vl.fNil, Vl.o1, Vl.o2, Vl.oI, Vl.oIC, Vl.slotL, Vl.slotO, Vl.own, Vl.Pat.put, Vl.Pat.puts, Vl.Out.bind, Vl.Out.opt, Vl.fNx, Vl.fCt, Vl.fBk, Vl.fPar, Vl.fCall, Vl.fCallN, Vl.fCallL, Vl.fSetN, Vl.gIo, Vl.gCn, Vl.gNl, Vl.agDs, Vl.agD, Vl.ioSlots, Vl.putAll, Vl.put1, Vl.Ag.isIo, Vl.fAnd, Vl.fOr, Vl.fNot, Vl.fAndT, Vl.fOrT, Vl.fNotT, Vl.fChain, Vl.fIsi, Vl.fIsi2, Vl.fUn, Vl.fDrop, Vl.fApp, Vl.fLenO, Vl.fMake, Vl.fRaise, Vl.fFldS, Vl.fDInO, Vl.fDPutO, Vl.fDGetO, Vl.fPop, Vl.fListD, Vl.fDOne, Vl.fDNewK, Vl.isi, Vl.bOf, Vl.sOf, Vl.fFmt, Vl.fJs, Vl.oFmt, Vl.fM1, Vl.fM0, Vl.fFor, Vl.fItems, Vl.fEnum, Vl.fSl, Vl.fPart, Vl.fNoPart, Vl.fNeg, Vl.fAugI, Vl.fInO, Vl.fYes, Vl.fTruO, Vl.fComp, Vl.fCompO, Vl.calmE, Vl.wipeE, Vl.backE, Vl.oIsN, Vl.oStr, ↓Vl.fRng1_one, Vl.oLen_lst, Vl.oLen_tup, Vl.oLen_ctup, Vl.oLen_scr, Vl.oIx_lst, Vl.oIx_tup, Vl.oIx_ctup, Vl.oIx_scr, Vl.oInt_int, Vl.oInt_bl, Vl.oAbs_int, Vl.oMax_int, Vl.oMin_int, Vl.oTuple_lst, Vl.oTuple_tup, Vl.oList_lst, Vl.oList_tup, Vl.oNeg_int, Vl.ty_non, Vl.ty_bl, Vl.ty_int, Vl.ty_str, Vl.ty_tup, Vl.ty_ctup, Vl.ty_lst, Vl.ty_dk, Vl.ty_scr, Vl.tru_non, Vl.tru_bl, Vl.tru_int, Vl.tru_lst, Vl.tru_tup, Vl.oEqS_int, Vl.oEqS_str, Vl.oEqS_bl, Vl.oCat_lst, Vl.oCatA_tup, Vl.oSlT_tup, Vl.oSlL_lst, Vl.keyOf_int, Vl.keyOf_str, Vl.isNon_non, Vl.isNon_bl, Vl.isNon_int, Vl.isNon_str, Vl.isNon_tup, Vl.isNon_lst, Vl.oFld_ob, Vl.isOb_ob', Vl.atI_0, Vl.atI_1, Vl.atI_2, Vl.atI_3, Vl.ixN_0, Vl.ixN_1, Vl.ixN_2, List.zipWith, List.replicate, List.append, List.cons_append, List.nil_append, List.append_nil, List.getElem?_cons_zero, List.getElem?_cons_succ, List.getElem?_nil, List.set_cons_zero, List.set_cons_succ, List.length_cons, List.length_nil, List.map_cons, List.map_nil, List.nodup_cons, List.nodup_nil, List.not_mem_nil, List.reverse_cons, List.reverse_nil, Bool.false_eq_true, ite_true, ite_false, if_true, if_false, reduceIte, decide_true, decide_false, Bool.true_and, Bool.and_true, Bool.false_and, Bool.and_false, Bool.not_true, Bool.not_false, Bool.or_false, Bool.false_or, Bool.or_true, Bool.true_or, reduceCtorEq, not_false_eq_true, not_true_eq_false, and_self, and_true, true_and, or_false, or_true, Nat.reduceSub, Nat.reduceAdd, Nat.reduceLeDiff, Nat.zero_add, Option.map_some, Option.map_none, Option.bind_some, Option.bind_none, Option.isSome_some, Option.isSome_none, List.mem_cons, List.all_cons, List.all_nil, eq_self, Int.cast_ofNat_Int, Int.natCast_zero, Int.natCast_one, Int.reduceEq, Int.reduceLT, Int.reduceLE, Int.reduceAdd, Int.reduceSub, Int.reduceNeg, Nat.reduceEqDiff, *])
local macro_rules | `(tactic| walk_at "e0") => `(tactic| simp only [Vl.runV, Vl.mkEnv, Vl.Res.of, Vl.Res.quiet, Vl.Res.val, Vl.ioAt, Vl.fSeq, Vl.fIte, Vl.fAsg, Vl.fVar, Vl.fC, Vl.fOp, Vl.fIxO, Vl.fPutL, Vl.fRet, Vl.fRetW, Vl.fRetO, Vl.fRetN, Vl.fLst, Vl.fTup, Vl.fB, Vl.fTru, Vl.fCB, Vl.fCons, Vl.fNil, Vl.o1, Vl.o2, Vl.oI, Vl.oIC, Vl.slotL, Vl.slotO, Vl.own, Vl.Pat.put, Vl.Pat.puts, Vl.Out.bind, Vl.Out.opt, Vl.fNx, Vl.fCt, Vl.fBk, Vl.fPar, Vl.fCall, Vl.fCallN, Vl.fCallL, Vl.fSetN, Vl.gIo, Vl.gCn, Vl.gNl, Vl.agDs, Vl.agD, Vl.ioSlots, Vl.putAll, Vl.put1, Vl.Ag.isIo, Vl.fAnd, Vl.fOr, Vl.fNot, Vl.fAndT, Vl.fOrT, Vl.fNotT, Vl.fChain, Vl.fIsi, Vl.fIsi2, Vl.fUn, Vl.fDrop, Vl.fApp, Vl.fLenO, Vl.fMake, Vl.fRaise, Vl.fFldS, Vl.fDInO, Vl.fDPutO, Vl.fDGetO, Vl.fPop, Vl.fListD, Vl.fDOne, Vl.fDNewK, Vl.isi, Vl.bOf, Vl.sOf, Vl.fFmt, Vl.fJs, Vl.oFmt, Vl.fM1, Vl.fM0, Vl.fFor, Vl.fItems, Vl.fEnum, Vl.fSl, Vl.fPart, Vl.fNoPart, Vl.fNeg, Vl.fAugI, Vl.fInO, Vl.fYes, Vl.fTruO, Vl.fComp, Vl.fCompO, Vl.calmE, Vl.wipeE, Vl.backE, Vl.oIsN, Vl.oStr, ↓Vl.fRng1_one, Vl.oLen_lst, Vl.oLen_tup, Vl.oLen_ctup, Vl.oLen_scr, Vl.oIx_lst, Vl.oIx_tup, Vl.oIx_ctup, Vl.oIx_scr, Vl.oInt_int, Vl.oInt_bl, Vl.oAbs_int, Vl.oMax_int, Vl.oMin_int, Vl.oTuple_lst, Vl.oTuple_tup, Vl.oList_lst, Vl.oList_tup, Vl.oNeg_int, Vl.ty_non, Vl.ty_bl, Vl.ty_int, Vl.ty_str, Vl.ty_tup, Vl.ty_ctup, Vl.ty_lst, Vl.ty_dk, Vl.ty_scr, Vl.tru_non, Vl.tru_bl, Vl.tru_int, Vl.tru_lst, Vl.tru_tup, Vl.oEqS_int, Vl.oEqS_str, Vl.oEqS_bl, Vl.oCat_lst, Vl.oCatA_tup, Vl.oSlT_tup, Vl.oSlL_lst, Vl.keyOf_int, Vl.keyOf_str, Vl.isNon_non, Vl.isNon_bl, Vl.isNon_int, Vl.isNon_str, Vl.isNon_tup, Vl.isNon_lst, Vl.oFld_ob, Vl.isOb_ob', Vl.atI_0, Vl.atI_1, Vl.atI_2, Vl.atI_3, Vl.ixN_0, Vl.ixN_1, Vl.ixN_2, List.zipWith, List.replicate, List.append, List.cons_append, List.nil_append, List.append_nil, List.getElem?_cons_zero, List.getElem?_cons_succ, List.getElem?_nil, List.set_cons_zero, List.set_cons_succ, List.length_cons, List.length_nil, List.map_cons, List.map_nil, List.nodup_cons, List.nodup_nil, List.not_mem_nil, List.reverse_cons, List.reverse_nil, Bool.false_eq_true, ite_true, ite_false, if_true, if_false, reduceIte, decide_true, decide_false, Bool.true_and, Bool.and_true, Bool.false_and, Bool.and_false, Bool.not_true, Bool.not_false, Bool.or_false, Bool.false_or, Bool.or_true, Bool.true_or, reduceCtorEq, not_false_eq_true, not_true_eq_false, and_self, and_true, true_and, or_false, or_true, Nat.reduceSub, Nat.reduceAdd, Nat.reduceLeDiff, Nat.zero_add, Option.map_some, Option.map_none, Option.bind_some, Option.bind_none, Option.isSome_some, Option.isSome_none, List.mem_cons, List.all_cons, List.all_nil, eq_self, Int.cast_ofNat_Int, Int.natCast_zero, Int.natCast_one, Int.reduceEq, Int.reduceLT, Int.reduceLE, Int.reduceAdd, Int.reduceSub, Int.reduceNeg, Nat.reduceEqDiff])
def plD : Pl → D
  | .num n => .int (n : Int)
  | .word s => .str s
def rowD (r : Row) : D := .tup [.int (r.put : Int), plD r.a, plD r.b]
def rowsD (rs : List Row) : List D := rs.map rowD
def isNum : D → Bool
  | .int _ => true
  | _ => false
theorem number_ok {d : D} (h : d.ty.isSome = true) : Φ_is_number [d] = .ret false (.bl (isNum d)) [.non] := by
  cases d with
  | ob _ _ => cases h
  | cl _ => cases h
  | bx _ => cases h
  | nk _ _ => cases h
  | ex _ _ => cases h
  | _ => rfl
/-- what may follow in a machine -/
def folD (d : D) (n : Int) (ws : List Str) : Bool := match d with
  | .str s => decide (s ∈ ws)
  | .int i => decide (0 ≤ i) && decide (i < n)
  | _ => false
theorem eqv_str (a b : Str) : PyData.eqv (.str a) (.str b) = decide (a = b) := by
  have : PyData.eqv (.str a) (.str b) = (a == b) := by first | rfl | simp [PyData.eqv]
  rw [this]
  by_cases h : a = b
  · subst h
    simp
  · simp [h]
theorem str_any (ws : List Str) (s : Str) : ((ws.map D.str).any fun z => PyData.eqv z.py (D.str s).py) = decide (s ∈ ws) := by
  induction ws with
  | nil => simp
  | cons w ws ih =>
    rw [List.map_cons, List.any_cons, ih]
    show (PyData.eqv (.str w) (.str s) || _) = _
    rw [eqv_str]
    by_cases h : w = s
    · subst h
      simp
    · have h2 : ¬ s = w := fun z => h z.symm
      simp [h, h2]
theorem hearer_eok : (D.ctup [.str "taken", .str "lost"]).eok = true := by decide +kernel
theorem sender_eok : (D.ctup [.str "done", .str "again"]).eok = true := by decide +kernel
theorem follower_ok {d : D} {n : Int} {ws : List Str} (h : d.ty.isSome = true) (hd : d.eok = true) (hw : (D.ctup (ws.map D.str)).eok = true) : Φ_is_follower [d, .int n, .ctup (ws.map D.str)] = .ret false (.bl (folD d n ws)) [.non, .non, .non] := by
  have hn := number_ok h
  cases d with
  | ob _ _ => cases h
  | cl _ => cases h
  | bx _ => cases h
  | nk _ _ => cases h
  | ex _ _ => cases h
  | str s =>
    have e : oInT false (.str s) (.ctup (ws.map D.str)) = some (.bl (decide (s ∈ ws))) := by
      unfold oInT
      simp only []
      rw [if_pos (by rw [hd, hw]; rfl), str_any]
      rfl
    unfold Φ_is_follower F_is_follower
    walk_at "ev"
    rfl
  | int i =>
    unfold Φ_is_follower F_is_follower
    cases h0 : decide (0 ≤ i) <;> (walk_at "ev"; simp only [folD, h0]; rfl)
  | _ => rfl
/-- a value that may stand within a machine: its kind is known, and it can be compared -/
def D.fine (d : D) : Bool := d.ty.isSome && d.eok
theorem in01 (i : Int) : oInT true (.int i) (.tup [.int 0, .int 1]) = some (.bl (!(decide (i = 0) || decide (i = 1)))) := by
  have e1 : (D.int i).eok = true := by simp [D.eok, D.plain, SeqAt.shaped, D.py, PyData.canLay0, PyData.depth]
  have e2 : (D.tup [.int 0, .int 1]).eok = true := by decide +kernel
  have e3 : ∀ a b : Int, PyData.eqv (.int a) (.int b) = decide (a = b) := fun a b => by
    have : PyData.eqv (.int a) (.int b) = (a == b) := by first | rfl | simp [PyData.eqv]
    rw [this]
    by_cases h : a = b
    · subst h
      simp
    · simp [h]
  unfold oInT
  simp only []
  rw [if_pos (by rw [e1, e2]; rfl)]
  simp only [List.any_cons, List.any_nil, D.py, e3, Bool.or_false, if_true]
  congr 3
  rw [show decide (0 = i) = decide (i = 0) from decide_eq_decide.mpr eq_comm, show decide (1 = i) = decide (i = 1) from decide_eq_decide.mpr eq_comm]
def rowOkD (d : D) (n : Int) (ws : List Str) : Bool := match d with
  | .tup [.int p, a, b] => (decide (p = 0) || decide (p = 1)) && folD a n ws && folD b n ws
  | _ => false
theorem len3 (p a b x : D) (l : List D) : decide (((p :: a :: b :: x :: l).length : Int) = 3) = false := by
  apply decide_eq_false
  simp only [List.length_cons]
  omega
theorem row_ok {d : D} {n : Int} {ws : List Str} (h : d.ty.isSome = true) (hc : ∀ l, d ≠ .ctup l) (hd : ∀ l, d = .tup l → ∀ x, x ∈ l → D.fine x = true) (hw : (D.ctup (ws.map D.str)).eok = true) :
    Φ_is_row [d, .int n, .ctup (ws.map D.str)] = .ret false (.bl (rowOkD d n ws)) [.non, .non, .non] := by
  cases d with
  | ob _ _ => cases h
  | cl _ => cases h
  | bx _ => cases h
  | nk _ _ => cases h
  | ex _ _ => cases h
  | ctup l => exact absurd rfl (hc l)
  | tup l =>
    have hx := hd l rfl
    match l, hx with
    | [], _ => rfl
    | [_], _ =>
      unfold Φ_is_row F_is_row
      walk_at "e0"
      simp [rowOkD]
    | [_, _], _ =>
      unfold Φ_is_row F_is_row
      walk_at "e0"
      simp [rowOkD]
    | p :: a :: b :: x :: l, _ =>
      have e := len3 p a b x l
      simp only [List.length_cons] at e
      unfold Φ_is_row F_is_row
      walk_at "ev"
      simp only [rowOkD]
    | [p, a, b], hx =>
      have hp := hx p (by simp)
      have ha := hx a (by simp)
      have hb := hx b (by simp)
      unfold D.fine at hp ha hb
      rw [Bool.and_eq_true] at hp ha hb
      have e1 := number_ok hp.1
      have e2 := follower_ok (n := n) ha.1 ha.2 hw
      have e3 := follower_ok (n := n) hb.1 hb.2 hw
      cases p with
      | int i =>
        have e4 := in01 i
        replace e1 : Φ_is_number [.int i] = .ret false (.bl true) [.non] := e1
        unfold Φ_is_row F_is_row
        cases h0 : decide (i = 0) <;> cases h1 : decide (i = 1) <;> cases h2 : folD a n ws <;> cases h3 : folD b n ws <;> (rw [h0, h1] at e4; rw [h2] at e2; rw [h3] at e3; simp only [rowOkD, h0, h1, h2, h3]; clear h0 h1 h2 h3 hx; walk_at "ev")
      | _ =>
        unfold Φ_is_row F_is_row
        simp only [isNum] at e1
        walk_at "ev"
        simp only [rowOkD]
  | _ => rfl
end Pg
set_option Elab.async false
set_option linter.all false
set_option maxRecDepth 100000
set_option maxHeartbeats 1000000
namespace Vl
open PySem L2 Sb
/-- a while loop -/
theorem while_ok {t : Ev Bool} {s : Ev Fl} {Q : List Slot → Prop} (I : Nat → List Slot → Prop) (h : ∀ m env, I m env → (∃ e1, t env = .val false e1 ∧ Q e1) ∨ ∃ e1 e2 m', t env = .val true e1 ∧ (s e1 = .val .nx e2 ∨ s e1 = .val .ct e2) ∧ m' < m ∧ I m' e2) : ∀ n m env, I m env → m < n → ∃ e', wloop t s n env = .val .nx e' ∧ Q e' := by
  intro n
  induction n with
  | zero => exact fun m env _ hl => absurd hl (Nat.not_lt_zero _)
  | succ n ih =>
    intro m env hi hl
    rcases h m env hi with ⟨e1, h1, q⟩ | ⟨e1, e2, m', h1, h2, hm, hi'⟩
    · refine ⟨e1, ?_, q⟩
      unfold wloop
      rw [h1]
      rfl
    · obtain ⟨e', g1, g2⟩ := ih m' e2 hi' (by omega)
      refine ⟨e', ?_, g2⟩
      unfold wloop
      rw [h1]
      simp only [Out.bind, if_true]
      rcases h2 with h2 | h2 <;> (rw [h2]; exact g1)
/-- a comprehension -/
theorem comp_ok {p : Pat} {ft : Ev Bool} {fe : Ev D} {vs : List Nat} {ds : List D} (I : Nat → List D → List Slot → Prop)
    (h : ∀ i d acc env, ds[i]? = some d → I i acc env → ∃ e1 b e2, p.put d (wipeE env vs) = some e1 ∧ ft e1 = .val b e2 ∧ (b = true → ∃ y e3, fe e2 = .val y e3 ∧ acc.length < sizeLine ∧ I (i + 1) (acc ++ [y]) e3) ∧ (b = false → I (i + 1) acc e2))
    {env : List Slot} (h0 : I 0 [] env) : ∃ acc env', compF p ft fe vs ds [] env = .val acc env' ∧ I ds.length acc env' := by
  have key : ∀ (rest : List D) (k : Nat) (acc : List D) (env : List Slot), ds.drop k = rest → I k acc env → ∃ acc' env', compF p ft fe vs rest acc env = .val acc' env' ∧ I (k + rest.length) acc' env' := by
    intro rest
    induction rest with
    | nil => exact fun k acc env _ hi => ⟨acc, env, rfl, hi⟩
    | cons d rest ih =>
      intro k acc env e hi
      have hd : ds[k]? = some d := by
        have := congrArg (fun l => l[0]?) e
        simpa using this
      have e' : ds.drop (k + 1) = rest := by
        have := congrArg List.tail e
        simpa using this
      obtain ⟨e1, b, e2, g1, g2, g3, g4⟩ := h k d acc env hd hi
      have hk : k + (d :: rest).length = k + 1 + rest.length := by
        rw [List.length_cons]
        omega
      rw [hk]
      cases b with
      | true =>
        obtain ⟨y, e3, g5, g6, g7⟩ := g3 rfl
        obtain ⟨acc', env', r1, r2⟩ := ih (k + 1) _ e3 e' g7
        refine ⟨acc', env', ?_, r2⟩
        unfold compF
        rw [g1]
        simp only [g2, Out.bind, if_true, g5]
        rw [if_pos g6]
        exact r1
      | false =>
        obtain ⟨acc', env', r1, r2⟩ := ih (k + 1) _ e2 e' (g4 rfl)
        refine ⟨acc', env', ?_, r2⟩
        unfold compF
        rw [g1]
        simp only [g2, Out.bind, Bool.false_eq_true, if_false]
        exact r1
  obtain ⟨acc', env', r1, r2⟩ := key ds 0 [] env (by simp) h0
  exact ⟨acc', env', r1, by simpa using r2⟩
theorem getD'_some {κ : Type} [DecidableEq κ] {k : κ} : ∀ {ks : List κ} {l : List D}, ks.length = l.length → ((getD' ks l k).isSome = true ↔ k ∈ ks)
  | [], [], _ => by simp [getD']
  | y :: ks, d :: l, h => by
    have ih := getD'_some (k := k) (ks := ks) (l := l) (by simpa using h)
    unfold getD' at ih ⊢
    rw [List.zip_cons_cons, List.find?_cons]
    by_cases e : y = k
    · subst e
      simp
    · have e2 : ¬ k = y := fun z => e z.symm
      simp only [e, decide_false, List.mem_cons, e2, false_or]
      exact ih
theorem putKs_new {κ : Type} [DecidableEq κ] {k : κ} {ks : List κ} {l : List D} {d : D} (h : k ∉ ks) : putKs ks l k d = (ks ++ [k], l ++ [d]) := by
  unfold putKs
  rw [if_neg]
  simp only [List.any_eq_true, decide_eq_true_eq, not_exists, not_and]
  intro x hx e
  exact h (by rw [← e]; exact hx)
end Vl
namespace Pg
open PySem L2 Sb Vl
local macro_rules | `(tactic| walk_at "ev") => `(tactic| simp only [Vl.runV, Vl.mkEnv, Vl.Res.of, Vl.Res.quiet, Vl.Res.val, Vl.ioAt, Vl.fSeq, Vl.fIte, Vl.fAsg, Vl.fVar, Vl.fC, Vl.fOp, Vl.fIxO, Vl.fPutL, Vl.fRet, Vl.fRetW, Vl.fRetO, Vl.fRetN, Vl.fLst, Vl.fTup, Vl.fB, Vl.fTru, Vl.fCB, Vl.fCons, Vl.fNil, Vl.o1, Vl.o2, Vl.oI, Vl.oIC, Vl.slotL, Vl.slotO, Vl.own, Vl.Pat.put, Vl.Pat.puts, Vl.Out.bind, Vl.Out.opt, Vl.fNx, Vl.fCt, Vl.fBk, Vl.fPar, Vl.fCall, Vl.fCallN, Vl.fSetN, Vl.gIo, Vl.gCn, Vl.gNl, Vl.agDs, Vl.agD, Vl.ioSlots, Vl.putAll, Vl.put1, Vl.Ag.isIo, Vl.fAnd, Vl.fOr, Vl.fNot, Vl.fAndT, Vl.fOrT, Vl.fNotT, Vl.fChain, Vl.fIsi, Vl.fIsi2, Vl.fUn, Vl.fDrop, Vl.fApp, Vl.fLenO, Vl.fMake, Vl.fRaise, Vl.fFldS, Vl.fDInO, Vl.fDPutO, Vl.fDGetO, Vl.fPop, Vl.fListD, Vl.fDOne, Vl.fDNewK, Vl.isi, Vl.bOf, Vl.sOf, Vl.fFmt, Vl.fJs, Vl.oFmt, Vl.fM1, Vl.fM0, Vl.fFor, Vl.fItems, Vl.fEnum, Vl.fSl, Vl.fPart, Vl.fNoPart, Vl.fNeg, Vl.fAugI, Vl.fInO, Vl.fYes, Vl.fTruO, Vl.fComp, Vl.fCompO, Vl.calmE, Vl.wipeE, Vl.backE, Vl.oIsN, Vl.oStr, ↓Vl.fRng1_one, Vl.oLen_lst, Vl.oLen_tup, Vl.oLen_ctup, Vl.oLen_scr, Vl.oIx_lst, Vl.oIx_tup, Vl.oIx_ctup, Vl.oIx_scr, Vl.oInt_int, Vl.oInt_bl, Vl.oAbs_int, Vl.oMax_int, Vl.oMin_int, Vl.oTuple_lst, Vl.oTuple_tup, Vl.oList_lst, Vl.oList_tup, Vl.oNeg_int, Vl.ty_non, Vl.ty_bl, Vl.ty_int, Vl.ty_str, Vl.ty_tup, Vl.ty_ctup, Vl.ty_lst, Vl.ty_dk, Vl.ty_scr, Vl.tru_non, Vl.tru_bl, Vl.tru_int, Vl.tru_lst, Vl.tru_tup, Vl.oEqS_int, Vl.oEqS_str, Vl.oEqS_bl, Vl.oCat_lst, Vl.oCatA_tup, Vl.oSlT_tup, Vl.oSlL_lst, Vl.keyOf_int, Vl.keyOf_str, Vl.isNon_non, Vl.isNon_bl, Vl.isNon_int, Vl.isNon_str, Vl.isNon_tup, Vl.isNon_lst, Vl.oFld_ob, Vl.isOb_ob', Vl.atI_0, Vl.atI_1, Vl.atI_2, Vl.atI_3, Vl.ixN_0, Vl.ixN_1, Vl.ixN_2, List.zipWith, List.replicate, List.append, List.cons_append, List.nil_append, List.append_nil, List.getElem?_cons_zero, List.getElem?_cons_succ, List.getElem?_nil, List.set_cons_zero, List.set_cons_succ, List.length_cons, List.length_nil, List.map_cons, List.map_nil, List.nodup_cons, List.nodup_nil, List.not_mem_nil, List.reverse_cons, List.reverse_nil, Bool.false_eq_true, ite_true, ite_false, if_true, if_false, reduceIte, decide_true, decide_false, Bool.true_and, Bool.and_true, Bool.false_and, Bool.and_false, Bool.not_true, Bool.not_false, Bool.or_false, Bool.false_or, Bool.or_true, Bool.true_or, reduceCtorEq, not_false_eq_true, not_true_eq_false, and_self, and_true, true_and, or_false, or_true, Nat.reduceSub, Nat.reduceAdd, Nat.reduceLeDiff, Nat.zero_add, Option.map_some, Option.map_none, Option.bind_some, Option.bind_none, Option.isSome_some, Option.isSome_none, List.mem_cons, List.all_cons, List.all_nil, eq_self, Int.cast_ofNat_Int, Int.natCast_zero, Int.natCast_one, Int.reduceEq, Int.reduceLT, Int.reduceLE, Int.reduceAdd, Int.reduceSub, Int.reduceNeg, Nat.reduceEqDiff, *])
local macro_rules | `(tactic| walk_at "e0") => `(tactic| simp only [Vl.runV, Vl.mkEnv, Vl.Res.of, Vl.Res.quiet, Vl.Res.val, Vl.ioAt, Vl.fSeq, Vl.fIte, Vl.fAsg, Vl.fVar, Vl.fC, Vl.fOp, Vl.fIxO, Vl.fPutL, Vl.fRet, Vl.fRetW, Vl.fRetO, Vl.fRetN, Vl.fLst, Vl.fTup, Vl.fB, Vl.fTru, Vl.fCB, Vl.fCons, Vl.fNil, Vl.o1, Vl.o2, Vl.oI, Vl.oIC, Vl.slotL, Vl.slotO, Vl.own, Vl.Pat.put, Vl.Pat.puts, Vl.Out.bind, Vl.Out.opt, Vl.fNx, Vl.fCt, Vl.fBk, Vl.fPar, Vl.fCall, Vl.fCallN, Vl.fSetN, Vl.gIo, Vl.gCn, Vl.gNl, Vl.agDs, Vl.agD, Vl.ioSlots, Vl.putAll, Vl.put1, Vl.Ag.isIo, Vl.fAnd, Vl.fOr, Vl.fNot, Vl.fAndT, Vl.fOrT, Vl.fNotT, Vl.fChain, Vl.fIsi, Vl.fIsi2, Vl.fUn, Vl.fDrop, Vl.fApp, Vl.fLenO, Vl.fMake, Vl.fRaise, Vl.fFldS, Vl.fDInO, Vl.fDPutO, Vl.fDGetO, Vl.fPop, Vl.fListD, Vl.fDOne, Vl.fDNewK, Vl.isi, Vl.bOf, Vl.sOf, Vl.fFmt, Vl.fJs, Vl.oFmt, Vl.fM1, Vl.fM0, Vl.fFor, Vl.fItems, Vl.fEnum, Vl.fSl, Vl.fPart, Vl.fNoPart, Vl.fNeg, Vl.fAugI, Vl.fInO, Vl.fYes, Vl.fTruO, Vl.fComp, Vl.fCompO, Vl.calmE, Vl.wipeE, Vl.backE, Vl.oIsN, Vl.oStr, ↓Vl.fRng1_one, Vl.oLen_lst, Vl.oLen_tup, Vl.oLen_ctup, Vl.oLen_scr, Vl.oIx_lst, Vl.oIx_tup, Vl.oIx_ctup, Vl.oIx_scr, Vl.oInt_int, Vl.oInt_bl, Vl.oAbs_int, Vl.oMax_int, Vl.oMin_int, Vl.oTuple_lst, Vl.oTuple_tup, Vl.oList_lst, Vl.oList_tup, Vl.oNeg_int, Vl.ty_non, Vl.ty_bl, Vl.ty_int, Vl.ty_str, Vl.ty_tup, Vl.ty_ctup, Vl.ty_lst, Vl.ty_dk, Vl.ty_scr, Vl.tru_non, Vl.tru_bl, Vl.tru_int, Vl.tru_lst, Vl.tru_tup, Vl.oEqS_int, Vl.oEqS_str, Vl.oEqS_bl, Vl.oCat_lst, Vl.oCatA_tup, Vl.oSlT_tup, Vl.oSlL_lst, Vl.keyOf_int, Vl.keyOf_str, Vl.isNon_non, Vl.isNon_bl, Vl.isNon_int, Vl.isNon_str, Vl.isNon_tup, Vl.isNon_lst, Vl.oFld_ob, Vl.isOb_ob', Vl.atI_0, Vl.atI_1, Vl.atI_2, Vl.atI_3, Vl.ixN_0, Vl.ixN_1, Vl.ixN_2, List.zipWith, List.replicate, List.append, List.cons_append, List.nil_append, List.append_nil, List.getElem?_cons_zero, List.getElem?_cons_succ, List.getElem?_nil, List.set_cons_zero, List.set_cons_succ, List.length_cons, List.length_nil, List.map_cons, List.map_nil, List.nodup_cons, List.nodup_nil, List.not_mem_nil, List.reverse_cons, List.reverse_nil, Bool.false_eq_true, ite_true, ite_false, if_true, if_false, reduceIte, decide_true, decide_false, Bool.true_and, Bool.and_true, Bool.false_and, Bool.and_false, Bool.not_true, Bool.not_false, Bool.or_false, Bool.false_or, Bool.or_true, Bool.true_or, reduceCtorEq, not_false_eq_true, not_true_eq_false, and_self, and_true, true_and, or_false, or_true, Nat.reduceSub, Nat.reduceAdd, Nat.reduceLeDiff, Nat.zero_add, Option.map_some, Option.map_none, Option.bind_some, Option.bind_none, Option.isSome_some, Option.isSome_none, List.mem_cons, List.all_cons, List.all_nil, eq_self, Int.cast_ofNat_Int, Int.natCast_zero, Int.natCast_one, Int.reduceEq, Int.reduceLT, Int.reduceLE, Int.reduceAdd, Int.reduceSub, Int.reduceNeg, Nat.reduceEqDiff])
theorem plD_key (p : Pl) : keyOf (plD p) = some p.key := by cases p <;> rfl
theorem plD_ty (p : Pl) : (plD p).ty.isSome = true := by cases p <;> rfl
theorem rowD_ty (r : Row) : (rowD r).ty.isSome = true := rfl
def okWords (ws : List Str) : Prop := ws = hearerWords ∨ ws = senderWords
theorem words_eok {ws : List Str} (h : okWords ws) : (D.ctup (ws.map D.str)).eok = true := by
  rcases h with rfl | rfl
  · exact hearer_eok
  · exact sender_eok
theorem int_eok (i : Int) : (D.int i).eok = true := by simp [D.eok, D.plain, SeqAt.shaped, D.py, PyData.canLay0, PyData.depth]
theorem plD_eok {n : Nat} {ws : List Str} (h : okWords ws) {p : Pl} (hp : p.Ok n ws) : (plD p).eok = true := by
  cases p with
  | num i => exact int_eok _
  | word s =>
    have hs : s ∈ ws := hp
    have key : ∀ y : Str, y = "taken" ∨ y = "lost" ∨ y = "done" ∨ y = "again" → (D.str y).eok = true := by
      rintro y (rfl | rfl | rfl | rfl) <;> decide +kernel
    refine key s ?_
    rcases h with rfl | rfl <;> (simp only [hearerWords, senderWords, List.mem_cons, List.not_mem_nil, or_false] at hs; rcases hs with rfl | rfl <;> simp)
theorem fol_ok {n : Nat} {ws : List Str} {p : Pl} (hp : p.Ok n ws) : folD (plD p) (n : Int) ws = true := by
  cases p with
  | num i =>
    have hi : i < n := hp
    show (decide ((0 : Int) ≤ (i : Int)) && decide ((i : Int) < (n : Int))) = true
    rw [decide_eq_true (by omega), decide_eq_true (by omega)]
    rfl
  | word s => exact decide_eq_true hp
theorem row_good {n : Nat} {ws : List Str} (hw : okWords ws) {r : Row} (hr : r.Ok n ws) : Φ_is_row [rowD r, .int (n : Int), .ctup (ws.map D.str)] = .ret false (.bl true) [.non, .non, .non] := by
  have e : rowOkD (rowD r) (n : Int) ws = true := by
    show ((decide ((r.put : Int) = 0) || decide ((r.put : Int) = 1)) && folD (plD r.a) n ws && folD (plD r.b) n ws) = true
    rw [fol_ok hr.2.1, fol_ok hr.2.2]
    rcases hr.1 with h | h <;> rw [h] <;> rfl
  rw [row_ok (rowD_ty r) (fun l z => by cases z) (fun l z x hx => ?_) (words_eok hw), e]
  cases z
  simp only [List.mem_cons, List.not_mem_nil, or_false] at hx
  unfold D.fine
  rcases hx with rfl | rfl | rfl
  · rw [int_eok]
    rfl
  · rw [plD_eok hw hr.2.1, plD_ty]
    rfl
  · rw [plD_eok hw hr.2.2, plD_ty]
    rfl
/-- a list or a tuple of rows -/
def IsRows (m : D) (rs : List Row) : Prop := m = .lst (rowsD rs) ∨ m = .tup (rowsD rs)
theorem IsRows.len {m : D} {rs : List Row} (h : IsRows m rs) : oLen m = some (.int (rs.length : Int)) := by
  rcases h with rfl | rfl <;> simp [oLen, rowsD]
theorem rowsD_len (rs : List Row) : (rowsD rs).length = rs.length := by simp [rowsD]
theorem rowsD_get {rs : List Row} {i : Nat} {d : D} (h : (rowsD rs)[i]? = some d) : ∃ r, rs[i]? = some r ∧ d = rowD r := by
  unfold rowsD at h
  rw [List.getElem?_map] at h
  cases e : rs[i]? with
  | none =>
    rw [e] at h
    cases h
  | some r =>
    rw [e] at h
    exact ⟨r, rfl, (Option.some.inj h).symm⟩
theorem checked {part : Str} {m : D} {rs : List Row} {few most : Nat} {ws : List Str} (hm : IsRows m rs) (hw : okWords ws) (h1 : few ≤ rs.length) (h2 : rs.length ≤ most) (hr : ∀ r, r ∈ rs → r.Ok rs.length ws) :
    Φ_check_machine [.str part, m, .int (few : Int), .int (most : Int), .ctup (ws.map D.str)] = .ret false .non [.non, .non, .non, .non, .non] := by
  have hl := hm.len
  have t1 : decide ((few : Int) ≤ (rs.length : Int)) = true := decide_eq_true (by omega)
  have t2 : decide ((rs.length : Int) ≤ (most : Int)) = true := decide_eq_true (by omega)
  have ty : m.ty = some .list ∨ m.ty = some .tuple := by rcases hm with rfl | rfl <;> simp [D.ty]
  obtain ⟨env', e, hi⟩ := loop_ok (p := .tp [.nm 5, .nm 6]) (s := B_check_machine_1) (ds := enumD 0 (rowsD rs)) (fun i env => ∃ s5 s6, env = [.sh (.str part), .sh m, .sh (.int (few : Int)), .sh (.int (most : Int)), .sh (.ctup (ws.map D.str)), s5, s6])
    (fun i d env hd hi => by
      obtain ⟨s5, s6, rfl⟩ := hi
      rw [enumD_get] at hd
      cases e : (rowsD rs)[i]? with
      | none =>
        rw [e] at hd
        cases hd
      | some y =>
        rw [e] at hd
        cases hd
        obtain ⟨r, hr1, rfl⟩ := rowsD_get e
        have hg := row_good hw (hr r (List.mem_of_getElem? hr1))
        refine ⟨_, [.sh (.str part), .sh m, .sh (.int (few : Int)), .sh (.int (most : Int)), .sh (.ctup (ws.map D.str)), .sh (.int ((0 + i : Nat) : Int)), .sh (rowD r)], rfl, .inl ?_, _, _, rfl⟩
        unfold B_check_machine_1
        walk_at "ev") (env := [.sh (.str part), .sh m, .sh (.int (few : Int)), .sh (.int (most : Int)), .sh (.ctup (ws.map D.str)), .un, .un]) ⟨_, _, rfl⟩
  obtain ⟨s5, s6, rfl⟩ := hi
  unfold Φ_check_machine F_check_machine L_check_machine_1
  rcases hm with rfl | rfl
  · walk_at "ev"
  · walk_at "ev"
/-- the rows with their part and number -/
def numbD (part : Str) (rs : List Row) : List D := (enumD 0 (rowsD rs)).map fun d => match d with
  | .tup [i, r] => .tup [.str part, i, r]
  | d => d
theorem numbered {part : Str} {m : D} {rs : List Row} (hm : IsRows m rs) (hs : rs.length ≤ 100) : Φ_numbered_rows [.str part, m] = .ret true (.lst (numbD part rs)) [.non, .non] := by
  have key : ∃ acc env', compF (.tp [.nm 2, .nm 3]) fYes E_numbered_rows_1 [2, 3] (enumD 0 (rowsD rs)) [] [.sh (.str part), .sh m, .un, .un] = .val acc env' ∧ acc = (numbD part rs).take (enumD 0 (rowsD rs)).length ∧ ∃ s2 s3, env' = [.sh (.str part), .sh m, s2, s3] := by
    refine comp_ok (fun i acc env => acc = (numbD part rs).take i ∧ ∃ s2 s3, env = [.sh (.str part), .sh m, s2, s3]) (fun i d acc env hd hi => ?_) ⟨by simp, _, _, rfl⟩
    obtain ⟨rfl, s2, s3, rfl⟩ := hi
    have hd0 := hd
    rw [enumD_get] at hd
    cases e : (rowsD rs)[i]? with
    | none =>
      rw [e] at hd
      cases hd
    | some y =>
      rw [e] at hd
      cases hd
      have hn : (numbD part rs)[i]? = some (.tup [.str part, .int ((0 + i : Nat) : Int), y]) := by
        unfold numbD
        rw [List.getElem?_map, hd0]
        rfl
      have hlen : i < (numbD part rs).length := (List.getElem?_eq_some_iff.mp hn).1
      have hl2 : (numbD part rs).length = rs.length := by
        unfold numbD
        rw [List.length_map, enumD_len, rowsD_len]
      refine ⟨_, true, _, rfl, rfl, fun _ => ⟨.tup [.str part, .int ((0 + i : Nat) : Int), y], _, rfl, ?_, ?_, _, _, rfl⟩, fun z => by cases z⟩
      · rw [List.length_take]
        have : (200 : Nat) ≤ sizeLine := by decide
        omega
      · rw [List.take_add_one, hn]
        rfl
  obtain ⟨acc, env', e, ha, s2, s3, rfl⟩ := key
  have hl : (numbD part rs).length = (enumD 0 (rowsD rs)).length := by
    unfold numbD
    rw [List.length_map]
  rw [← hl, List.take_length] at ha
  subst ha
  unfold Φ_numbered_rows F_numbered_rows
  rcases hm with rfl | rfl
  · walk_at "ev"
  · walk_at "ev"
/-- where heard bits lead -/
def St (m : D) (b : Nat) (fs : List Pl) (as : List Nat) (env : List Slot) : Prop := ∃ l s4 s5, env = [.sh m, .sh (.int (b : Int)), .ow (.dk (fs.map Pl.key) l), .ow (.lst (as.map fun (i : Nat) => D.int (i : Int))), s4, s5] ∧ l.length = fs.length
theorem mem_key {p : Pl} {fs : List Pl} : p.key ∈ fs.map Pl.key ↔ p ∈ fs := by
  rw [List.mem_map]
  constructor
  · rintro ⟨q, hq, e⟩
    rw [← Pl.key_inj e]
    exact hq
  · exact fun h => ⟨p, h, rfl⟩
theorem reach_step {m : D} {rows : List Row} {b i j : Nat} {fs : List Pl} {as : List Nat} {r : Row} {p : Pl} {ws : List Str} {s4 : Slot} {l : List D} (hsz : rows.length ≤ 100) (hl : l.length = fs.length) (I : RInv rows b fs as (some (i, j))) (hr : rows[i]? = some r) (hp : (j = 0 ∧ p = r.a) ∨ (j = 1 ∧ p = r.b)) (hok : r.Ok rows.length ws)
    (c1 : as.length + 1 ≤ nums fs) (c2 : fs.length + 2 * as.length + 2 ≤ 1 + 2 * nums fs + j) :
    ∃ fs' as' env', (B_reached_1 [.sh m, .sh (.int (b : Int)), .ow (.dk (fs.map Pl.key) l), .ow (.lst (as.map fun (i : Nat) => D.int (i : Int))), s4, .sh (plD p)] = .val .nx env' ∨ B_reached_1 [.sh m, .sh (.int (b : Int)), .ow (.dk (fs.map Pl.key) l), .ow (.lst (as.map fun (i : Nat) => D.int (i : Int))), s4, .sh (plD p)] = .val .ct env') ∧
      (∃ l', env' = [.sh m, .sh (.int (b : Int)), .ow (.dk (fs'.map Pl.key) l'), .ow (.lst (as'.map fun (i : Nat) => D.int (i : Int))), s4, .sh (plD p)] ∧ l'.length = fs'.length) ∧ RInv rows b fs' as' (some (i, j + 1)) ∧
      2 * (rows.length - nums fs') + as'.length ≤ 2 * (rows.length - nums fs) + as.length ∧ as'.length + 1 ≤ nums fs' ∧ fs'.length + 2 * as'.length + 2 ≤ 1 + 2 * nums fs' + (j + 1) := by
  have nle := nums_le I.nd I.small
  have hsm : ∀ k, p = .num k → k < rows.length := fun k e => by
    rcases hp with ⟨_, e2⟩ | ⟨_, e2⟩
    · have := hok.2.1
      rw [← e2, e] at this
      exact this
    · have := hok.2.2
      rw [← e2, e] at this
      exact this
  have hin := getD'_some (k := p.key) (ks := fs.map Pl.key) (l := l) (by simp [hl])
  rw [mem_key] at hin
  have hkey := plD_key p
  have hnum := number_ok (plD_ty p)
  by_cases hf : p ∈ fs
  · have hin := hin.mpr hf
    refine ⟨fs, as, _, .inr ?_, ⟨l, rfl, hl⟩, I.skip hr hp hf, Nat.le_refl _, c1, by omega⟩
    unfold B_reached_1
    simp only [fSeq, fIte, fB, fDInO, fVar, List.getElem?_cons_succ, List.getElem?_cons_zero, Out.bind, slotO, oDGet, hkey, Option.map_some, hin, if_true, Bool.false_eq_true, if_false, fCt]
  · have hin : (getD' (fs.map Pl.key) l p.key).isSome = false := Bool.eq_false_iff.mpr fun z => hf (hin.mp z)
    have I6 := I.add hr hp hf hsm
    have nle6 := nums_le I6.nd I6.small
    rw [nums_snoc] at nle6
    have hput := putKs_new (k := p.key) (ks := fs.map Pl.key) (l := l) (d := .bl true) (fun z => hf (mem_key.mp z))
    have big : l.length < sizeLine := by
      have : (1000 : Nat) < sizeLine := by decide
      omega
    cases p with
    | num z =>
      have big2 : (as.map fun (i : Nat) => D.int (i : Int)).length < sizeLine := by
        have : (1000 : Nat) < sizeLine := by decide
        rw [List.length_map]
        omega
      refine ⟨fs ++ [Pl.num z], as ++ [z], [.sh m, .sh (.int (b : Int)), .ow (.dk ((fs ++ [Pl.num z]).map Pl.key) (l ++ [.bl true])), .ow (.lst ((as ++ [z]).map fun (i : Nat) => D.int (i : Int))), s4, .sh (plD (.num z))], .inl ?_, ⟨l ++ [.bl true], rfl, by simp [hl]⟩, I6, ?_, ?_, ?_⟩
      · unfold B_reached_1
        have hnum : Φ_is_number [plD (Pl.num z)] = .ret false (.bl true) [.non] := hnum
        rw [List.map_append, List.map_append]
        simp only [List.length_map] at big2
        simp only [fSeq, fIte, fB, fDInO, fDPutO, fApp, fNx, fC, fVar, fCall, gCn, gNl, agDs, agD, ioSlots, putAll, Ag.isIo, own, slotL, List.set_cons_succ, List.set_cons_zero, List.getElem?_cons_succ, List.getElem?_cons_zero, Out.bind, slotO, oDGet, oDPut, hkey, Option.map_some, hin, if_true, Bool.false_eq_true, if_false, big, hput, hnum,
          List.map_cons, List.map_nil, List.append_nil, List.nodup_nil, and_self, List.length_map, big2]
        rfl
      · rw [nums_snoc]
        simp at nle6 ⊢
        omega
      · rw [nums_snoc]
        simp
        omega
      · rw [nums_snoc]
        simp
        omega
    | word z =>
      refine ⟨fs ++ [Pl.word z], as, [.sh m, .sh (.int (b : Int)), .ow (.dk ((fs ++ [Pl.word z]).map Pl.key) (l ++ [.bl true])), .ow (.lst (as.map fun (i : Nat) => D.int (i : Int))), s4, .sh (plD (.word z))], .inl ?_, ⟨l ++ [.bl true], rfl, by simp [hl]⟩, I6, ?_, ?_, ?_⟩
      · unfold B_reached_1
        have hnum : Φ_is_number [plD (Pl.word z)] = .ret false (.bl false) [.non] := hnum
        rw [List.map_append]
        simp only [fSeq, fIte, fB, fDInO, fDPutO, fApp, fNx, fC, fVar, fCall, gCn, gNl, agDs, agD, ioSlots, putAll, Ag.isIo, own, slotL, List.set_cons_succ, List.set_cons_zero, List.getElem?_cons_succ, List.getElem?_cons_zero, Out.bind, slotO, oDGet, oDPut, hkey, Option.map_some, hin, if_true, Bool.false_eq_true, if_false, big, hput, hnum,
          List.map_cons, List.map_nil, List.append_nil, List.nodup_nil, and_self, List.length_map]
      · rw [nums_snoc]
        simp
      · rw [nums_snoc]
        simpa using c1
      · rw [nums_snoc]
        simp
        omega
theorem cut_row (r : Row) : cutD [D.int (r.put : Int), plD r.a, plD r.b] (some 1) none = [plD r.a, plD r.b] := rfl
theorem rows_at {m : D} {rows : List Row} (hm : IsRows m rows) {i : Nat} {r : Row} (hr : rows[i]? = some r) : oIx m (.int (i : Int)) = some (rowD r) := by
  have : atI (rowsD rows) (i : Int) = some (rowD r) := by
    rw [atI_ge _ i _ rfl]
    unfold rowsD
    rw [List.getElem?_map, hr]
    rfl
  rcases hm with rfl | rfl <;> exact this
theorem loop_two {p : Pat} {s : Ev Fl} {d1 d2 : D} {e0 e1 e2 e3 e4 : List Slot} (h1 : p.put d1 e0 = some e1) (h2 : s e1 = .val .nx e2 ∨ s e1 = .val .ct e2) (h3 : p.put d2 e2 = some e3) (h4 : s e3 = .val .nx e4 ∨ s e3 = .val .ct e4) : loopF p s [d1, d2] e0 = .val .nx e4 := by
  have a1 : loopF p s [d2] e2 = .val .nx e4 := by
    unfold loopF
    rw [h3]
    rcases h4 with h4 | h4 <;> (simp only [h4]; rfl)
  unfold loopF
  rw [h1]
  rcases h2 with h2 | h2 <;> (simp only [h2]; exact a1)
theorem reached_ok {m : D} {rows : List Row} {b : Nat} {ws : List Str} (hm : IsRows m rows) (hb : b < rows.length) (hsz : rows.length ≤ 100) (hok : ∀ r, r ∈ rows → r.Ok rows.length ws) :
    ∃ fs : List Pl, Φ_reached [m, .int (b : Int)] = .ret true (.lst (fs.map plD)) [.non, .non] ∧ fs.Nodup ∧ ∀ x, x ∈ fs ↔ Reach rows b x := by
  obtain ⟨env', e, fs, ⟨l, s4, s5, rfl, hl⟩, I⟩ := while_ok (t := T_reached_1) (s := B_reached_2) (Q := fun env => ∃ fs, St m b fs [] env ∧ RInv rows b fs [] none)
    (fun k env => ∃ fs as, St m b fs as env ∧ RInv rows b fs as none ∧ k = 2 * (rows.length - nums fs) + as.length ∧ as.length ≤ nums fs ∧ fs.length + 2 * as.length ≤ 1 + 2 * nums fs) (fun k env hi => by
      obtain ⟨fs, as, ⟨l, s4, s5, rfl, hl⟩, I, rfl, c1, c2⟩ := hi
      rcases List.eq_nil_or_concat as with z | ⟨as', i, z⟩
      · subst z
        exact .inl ⟨_, rfl, fs, ⟨l, s4, s5, rfl, hl⟩, I⟩
      · try rw [List.concat_eq_append] at z
        subst z
        refine .inr ?_
        have hi : i < rows.length := I.small i (I.sub i (by simp))
        obtain ⟨r, hr⟩ : ∃ r, rows[i]? = some r := ⟨rows[i], List.getElem?_eq_getElem hi⟩
        have hrok := hok r (List.mem_of_getElem? hr)
        obtain ⟨fs1, as1, env1, b1, ⟨l1, rfl, hl1⟩, I1, m1, d1, d2⟩ := reach_step (m := m) (s4 := .sh (.int (i : Int))) hsz hl I.pop hr (.inl ⟨rfl, rfl⟩) hrok (by simpa using c1) (by simp at c2; omega)
        obtain ⟨fs2, as2, env2, b2, ⟨l2, rfl, hl2⟩, I2, m2, d3, d4⟩ := reach_step (m := m) (s4 := .sh (.int (i : Int))) hsz hl1 I1 hr (.inr ⟨rfl, rfl⟩) hrok d1 d2
        have hrow := rows_at hm hr
        have hloop := loop_two (p := .nm 5) (s := B_reached_1) (e0 := [.sh m, .sh (.int (b : Int)), .ow (.dk (fs.map Pl.key) l), .ow (.lst (as'.map fun (i : Nat) => D.int (i : Int))), .sh (.int (i : Int)), s5]) rfl b1 rfl b2
        refine ⟨[.sh m, .sh (.int (b : Int)), .ow (.dk (fs.map Pl.key) l), .ow (.lst ((as' ++ [i]).map fun (i : Nat) => D.int (i : Int))), s4, s5], _, 2 * (rows.length - nums fs2) + as2.length, ?_, .inl ?_, ?_, fs2, as2, ⟨l2, .sh (.int (i : Int)), .sh (plD r.b), rfl, hl2⟩, I2.done, rfl, by omega, by omega⟩
        · simp only [T_reached_1, fTruO, slotO, List.getElem?_cons_succ, List.getElem?_cons_zero, tru_lst, Out.opt, List.map_append, List.map_cons, List.map_nil]
          cases as' <;> rfl
        · have g1 : ((as' ++ [i]).map fun (i : Nat) => D.int (i : Int))[((as' ++ [i]).map fun (i : Nat) => D.int (i : Int)).length - 1]? = some (.int (i : Int)) := by simp
          have g2 : ((as' ++ [i]).map fun (i : Nat) => D.int (i : Int)).dropLast = as'.map fun (i : Nat) => D.int (i : Int) := by
            rw [List.map_append, List.map_cons, List.map_nil, List.dropLast_concat]
          unfold B_reached_2 L_reached_1
          simp only [fSeq, fAsg, fPop, slotL, List.getElem?_cons_succ, List.getElem?_cons_zero, g1, g2, own, Out.bind, Pat.put, List.set_cons_succ, List.set_cons_zero, fFor, fItems, fSl, fOp, fVar, hrow, Out.opt, fPart, fC, fNoPart, oSlT_tup, rowD, cut_row, hloop, Bool.false_eq_true, if_false]
        · rw [List.length_append, List.length_singleton]
          omega) 100000 (2 * (rows.length - nums [Pl.num b]) + 1) [.sh m, .sh (.int (b : Int)), .ow (.dk ([Pl.num b].map Pl.key) [.bl true]), .ow (.lst ([b].map fun (i : Nat) => D.int (i : Int))), .un, .un]
      ⟨[.num b], [b], ⟨_, _, _, rfl, rfl⟩, RInv.begin hb, rfl, Nat.le_refl 1, Nat.le_refl 3⟩ (by omega)
  refine ⟨fs, ?_, I.nd, I.all⟩
  have hk : (fs.map Pl.key).map keyD = fs.map plD := by
    rw [List.map_map]
    apply List.map_congr_left
    intro p _
    cases p <;> rfl
  unfold Φ_reached F_reached L_reached_2
  simp only [List.map_cons, List.map_nil, Pl.key] at e
  walk_at "ev"
end Pg
set_option Elab.async false
set_option linter.all false
set_option maxRecDepth 100000
set_option maxHeartbeats 1000000
namespace Pg
open PySem L2 Sb Vl
local macro_rules | `(tactic| walk_at "ev") => `(tactic| simp only [Vl.runV, Vl.mkEnv, Vl.Res.of, Vl.Res.quiet, Vl.Res.val, Vl.ioAt, Vl.fSeq, Vl.fIte, Vl.fAsg, Vl.fVar, Vl.fC, Vl.fOp, Vl.fIxO, Vl.fPutL, Vl.fRet, Vl.fRetW, Vl.fRetO, Vl.fRetN, Vl.fLst, Vl.fTup, Vl.fB, Vl.fTru, Vl.fCB, Vl.fCons, Vl.fNil, Vl.o1, Vl.o2, Vl.oI, Vl.oIC, Vl.slotL, Vl.slotO, Vl.own, Vl.Pat.put, Vl.Pat.puts, Vl.Out.bind, Vl.Out.opt, Vl.fNx, Vl.fCt, Vl.fBk, Vl.fPar, Vl.fCall, Vl.fCallN, Vl.fSetN, Vl.gIo, Vl.gCn, Vl.gNl, Vl.agDs, Vl.agD, Vl.ioSlots, Vl.putAll, Vl.put1, Vl.Ag.isIo, Vl.fAnd, Vl.fOr, Vl.fNot, Vl.fAndT, Vl.fOrT, Vl.fNotT, Vl.fChain, Vl.fIsi, Vl.fIsi2, Vl.fUn, Vl.fDrop, Vl.fApp, Vl.fLenO, Vl.fMake, Vl.fRaise, Vl.fFldS, Vl.fDInO, Vl.fDPutO, Vl.fDGetO, Vl.fPop, Vl.fListD, Vl.fDOne, Vl.fDNewK, Vl.isi, Vl.bOf, Vl.sOf, Vl.fFmt, Vl.fJs, Vl.oFmt, Vl.fM1, Vl.fM0, Vl.fFor, Vl.fItems, Vl.fEnum, Vl.fSl, Vl.fPart, Vl.fNoPart, Vl.fNeg, Vl.fAugI, Vl.fInO, Vl.fYes, Vl.fTruO, Vl.fComp, Vl.fCompO, Vl.calmE, Vl.wipeE, Vl.backE, Vl.oIsN, Vl.oStr, ↓Vl.fRng1_one, Vl.oLen_lst, Vl.oLen_tup, Vl.oLen_ctup, Vl.oLen_scr, Vl.oIx_lst, Vl.oIx_tup, Vl.oIx_ctup, Vl.oIx_scr, Vl.oInt_int, Vl.oInt_bl, Vl.oAbs_int, Vl.oMax_int, Vl.oMin_int, Vl.oTuple_lst, Vl.oTuple_tup, Vl.oList_lst, Vl.oList_tup, Vl.oNeg_int, Vl.ty_non, Vl.ty_bl, Vl.ty_int, Vl.ty_str, Vl.ty_tup, Vl.ty_ctup, Vl.ty_lst, Vl.ty_dk, Vl.ty_scr, Vl.tru_non, Vl.tru_bl, Vl.tru_int, Vl.tru_lst, Vl.tru_tup, Vl.oEqS_int, Vl.oEqS_str, Vl.oEqS_bl, Vl.oCat_lst, Vl.oCatA_tup, Vl.oSlT_tup, Vl.oSlL_lst, Vl.keyOf_int, Vl.keyOf_str, Vl.isNon_non, Vl.isNon_bl, Vl.isNon_int, Vl.isNon_str, Vl.isNon_tup, Vl.isNon_lst, Vl.oFld_ob, Vl.isOb_ob', Vl.atI_0, Vl.atI_1, Vl.atI_2, Vl.atI_3, Vl.ixN_0, Vl.ixN_1, Vl.ixN_2, List.zipWith, List.replicate, List.append, List.cons_append, List.nil_append, List.append_nil, List.getElem?_cons_zero, List.getElem?_cons_succ, List.getElem?_nil, List.set_cons_zero, List.set_cons_succ, List.length_cons, List.length_nil, List.map_cons, List.map_nil, List.nodup_cons, List.nodup_nil, List.not_mem_nil, List.reverse_cons, List.reverse_nil, Bool.false_eq_true, ite_true, ite_false, if_true, if_false, reduceIte, decide_true, decide_false, Bool.true_and, Bool.and_true, Bool.false_and, Bool.and_false, Bool.not_true, Bool.not_false, Bool.or_false, Bool.false_or, Bool.or_true, Bool.true_or, reduceCtorEq, not_false_eq_true, not_true_eq_false, and_self, and_true, true_and, or_false, or_true, Nat.reduceSub, Nat.reduceAdd, Nat.reduceLeDiff, Nat.zero_add, Option.map_some, Option.map_none, Option.bind_some, Option.bind_none, Option.isSome_some, Option.isSome_none, List.mem_cons, List.all_cons, List.all_nil, eq_self, Int.cast_ofNat_Int, Int.natCast_zero, Int.natCast_one, Int.reduceEq, Int.reduceLT, Int.reduceLE, Int.reduceAdd, Int.reduceSub, Int.reduceNeg, Nat.reduceEqDiff, *])
local macro_rules | `(tactic| walk_at "e0") => `(tactic| simp only [Vl.runV, Vl.mkEnv, Vl.Res.of, Vl.Res.quiet, Vl.Res.val, Vl.ioAt, Vl.fSeq, Vl.fIte, Vl.fAsg, Vl.fVar, Vl.fC, Vl.fOp, Vl.fIxO, Vl.fPutL, Vl.fRet, Vl.fRetW, Vl.fRetO, Vl.fRetN, Vl.fLst, Vl.fTup, Vl.fB, Vl.fTru, Vl.fCB, Vl.fCons, Vl.fNil, Vl.o1, Vl.o2, Vl.oI, Vl.oIC, Vl.slotL, Vl.slotO, Vl.own, Vl.Pat.put, Vl.Pat.puts, Vl.Out.bind, Vl.Out.opt, Vl.fNx, Vl.fCt, Vl.fBk, Vl.fPar, Vl.fCall, Vl.fCallN, Vl.fSetN, Vl.gIo, Vl.gCn, Vl.gNl, Vl.agDs, Vl.agD, Vl.ioSlots, Vl.putAll, Vl.put1, Vl.Ag.isIo, Vl.fAnd, Vl.fOr, Vl.fNot, Vl.fAndT, Vl.fOrT, Vl.fNotT, Vl.fChain, Vl.fIsi, Vl.fIsi2, Vl.fUn, Vl.fDrop, Vl.fApp, Vl.fLenO, Vl.fMake, Vl.fRaise, Vl.fFldS, Vl.fDInO, Vl.fDPutO, Vl.fDGetO, Vl.fPop, Vl.fListD, Vl.fDOne, Vl.fDNewK, Vl.isi, Vl.bOf, Vl.sOf, Vl.fFmt, Vl.fJs, Vl.oFmt, Vl.fM1, Vl.fM0, Vl.fFor, Vl.fItems, Vl.fEnum, Vl.fSl, Vl.fPart, Vl.fNoPart, Vl.fNeg, Vl.fAugI, Vl.fInO, Vl.fYes, Vl.fTruO, Vl.fComp, Vl.fCompO, Vl.calmE, Vl.wipeE, Vl.backE, Vl.oIsN, Vl.oStr, ↓Vl.fRng1_one, Vl.oLen_lst, Vl.oLen_tup, Vl.oLen_ctup, Vl.oLen_scr, Vl.oIx_lst, Vl.oIx_tup, Vl.oIx_ctup, Vl.oIx_scr, Vl.oInt_int, Vl.oInt_bl, Vl.oAbs_int, Vl.oMax_int, Vl.oMin_int, Vl.oTuple_lst, Vl.oTuple_tup, Vl.oList_lst, Vl.oList_tup, Vl.oNeg_int, Vl.ty_non, Vl.ty_bl, Vl.ty_int, Vl.ty_str, Vl.ty_tup, Vl.ty_ctup, Vl.ty_lst, Vl.ty_dk, Vl.ty_scr, Vl.tru_non, Vl.tru_bl, Vl.tru_int, Vl.tru_lst, Vl.tru_tup, Vl.oEqS_int, Vl.oEqS_str, Vl.oEqS_bl, Vl.oCat_lst, Vl.oCatA_tup, Vl.oSlT_tup, Vl.oSlL_lst, Vl.keyOf_int, Vl.keyOf_str, Vl.isNon_non, Vl.isNon_bl, Vl.isNon_int, Vl.isNon_str, Vl.isNon_tup, Vl.isNon_lst, Vl.oFld_ob, Vl.isOb_ob', Vl.atI_0, Vl.atI_1, Vl.atI_2, Vl.atI_3, Vl.ixN_0, Vl.ixN_1, Vl.ixN_2, List.zipWith, List.replicate, List.append, List.cons_append, List.nil_append, List.append_nil, List.getElem?_cons_zero, List.getElem?_cons_succ, List.getElem?_nil, List.set_cons_zero, List.set_cons_succ, List.length_cons, List.length_nil, List.map_cons, List.map_nil, List.nodup_cons, List.nodup_nil, List.not_mem_nil, List.reverse_cons, List.reverse_nil, Bool.false_eq_true, ite_true, ite_false, if_true, if_false, reduceIte, decide_true, decide_false, Bool.true_and, Bool.and_true, Bool.false_and, Bool.and_false, Bool.not_true, Bool.not_false, Bool.or_false, Bool.false_or, Bool.or_true, Bool.true_or, reduceCtorEq, not_false_eq_true, not_true_eq_false, and_self, and_true, true_and, or_false, or_true, Nat.reduceSub, Nat.reduceAdd, Nat.reduceLeDiff, Nat.zero_add, Option.map_some, Option.map_none, Option.bind_some, Option.bind_none, Option.isSome_some, Option.isSome_none, List.mem_cons, List.all_cons, List.all_nil, eq_self, Int.cast_ofNat_Int, Int.natCast_zero, Int.natCast_one, Int.reduceEq, Int.reduceLT, Int.reduceLE, Int.reduceAdd, Int.reduceSub, Int.reduceNeg, Nat.reduceEqDiff])
/-- an end as data -/
def endD (hs ss : List Row) : D := .ob "End" [.tup (rowsD hs), .tup (rowsD ss), .tup (numbD "hearer" hs ++ numbD "sender" ss)]
/-- data that can be compared, so many levels deep -/
def eokN (n : Nat) (d : D) : Prop := d.plain = true ∧ d.py.canLay0 = true ∧ d.py.depth ≤ n
theorem eokN.eok {n : Nat} {d : D} (h : eokN n d) (hn : n ≤ 64) : d.eok = true := by
  obtain ⟨h1, h2, h3⟩ := h
  unfold D.eok SeqAt.shaped
  rw [h1, h2, decide_eq_true (by omega)]
  rfl
theorem eokN.of {d : D} (h : d.eok = true) : eokN 64 d := by
  unfold D.eok SeqAt.shaped at h
  simp only [Bool.and_eq_true, decide_eq_true_eq] at h
  exact ⟨h.1, h.2.1, h.2.2⟩
theorem eokN.more {m n : Nat} {d : D} (h : eokN m d) (hn : m ≤ n) : eokN n d := ⟨h.1, h.2.1, Nat.le_trans h.2.2 hn⟩
theorem eokN_all {n : Nat} : ∀ {l : List D}, (∀ d, d ∈ l → eokN n d) → D.plainAll l = true ∧ PyData.canLayAll0 (D.pyAll l) = true ∧ PyData.depthAll (D.pyAll l) ≤ n
  | [], _ => ⟨rfl, by simp [D.pyAll, PyData.canLayAll0], by simp [D.pyAll, PyData.depthAll]⟩
  | d :: l, h => by
    obtain ⟨a1, a2, a3⟩ := h d (by simp)
    obtain ⟨b1, b2, b3⟩ := eokN_all (l := l) fun x hx => h x (List.mem_cons_of_mem _ hx)
    refine ⟨?_, ?_, ?_⟩
    · simp only [D.plainAll, a1, b1, Bool.and_self]
    · simp only [D.pyAll, PyData.canLayAll0, a2, b2, Bool.and_self]
    · simp only [D.pyAll, PyData.depthAll]
      omega
theorem eokN_lst {n : Nat} {l : List D} (h : ∀ d, d ∈ l → eokN n d) : eokN (n + 1) (.lst l) := by
  obtain ⟨h1, h2, h3⟩ := eokN_all h
  exact ⟨by simpa only [D.plain] using h1, by simpa only [D.py, PyData.canLay0] using h2, by simp only [D.py, PyData.depth]; omega⟩
theorem eokN_tup {n : Nat} {l : List D} (h : ∀ d, d ∈ l → eokN n d) : eokN (n + 1) (.tup l) := by
  obtain ⟨h1, h2, h3⟩ := eokN_all h
  exact ⟨by simpa only [D.plain] using h1, by simpa only [D.py, PyData.canLay0] using h2, by simp only [D.py, PyData.depth]; omega⟩
theorem eokN_int (i : Int) : eokN 0 (.int i) := ⟨rfl, by simp [D.py, PyData.canLay0], by simp [D.py, PyData.depth]⟩
theorem eokN_bl (i : Bool) : eokN 0 (.bl i) := ⟨rfl, by simp [D.py, PyData.canLay0], by simp [D.py, PyData.depth]⟩
theorem eokN_non : eokN 0 .non := ⟨rfl, by simp [D.py, PyData.canLay0], by simp [D.py, PyData.depth]⟩
theorem eokN_str {s : Str} (h : PyData.strOk s = true) : eokN 0 (.str s) := ⟨rfl, by simpa [D.py, PyData.canLay0] using h, by simp [D.py, PyData.depth]⟩
theorem plD_eokN {n : Nat} {ws : List Str} (h : okWords ws) {p : Pl} (hp : p.Ok n ws) : eokN 0 (plD p) := by
  have := eokN.of (plD_eok h hp)
  cases p with
  | num i => exact eokN_int _
  | word s => exact ⟨this.1, this.2.1, by simp [plD, D.py, PyData.depth]⟩
theorem rowD_eokN {n : Nat} {ws : List Str} (h : okWords ws) {r : Row} (hr : r.Ok n ws) : eokN 1 (rowD r) := eokN_tup fun d hd => by
  simp only [List.mem_cons, List.not_mem_nil, or_false] at hd
  rcases hd with rfl | rfl | rfl
  · exact eokN_int _
  · exact plD_eokN h hr.2.1
  · exact plD_eokN h hr.2.2
theorem rowsD_eokN {n : Nat} {ws : List Str} (h : okWords ws) {rs : List Row} (hr : ∀ r, r ∈ rs → r.Ok n ws) : ∀ d, d ∈ rowsD rs → eokN 1 d := fun d hd => by
  obtain ⟨r, hr1, rfl⟩ := List.mem_map.mp hd
  exact rowD_eokN h (hr r hr1)
theorem eqv_plD (p q : Pl) : PyData.eqv (plD p).py (plD q).py = decide (p = q) := by
  cases p with
  | num i =>
    cases q with
    | num j =>
      have : PyData.eqv (plD (.num i)).py (plD (.num j)).py = ((i : Int) == (j : Int)) := by simp [plD, D.py, PyData.eqv]
      rw [this]
      by_cases h : i = j
      · subst h
        simp
      · have h2 : ¬ (i : Int) = (j : Int) := by omega
        simp [h, h2]
    | word s => simp [plD, D.py, PyData.eqv]
  | word a =>
    cases q with
    | num j => simp [plD, D.py, PyData.eqv]
    | word b =>
      have : PyData.eqv (plD (.word a)).py (plD (.word b)).py = (a == b) := by simp [plD, D.py, PyData.eqv]
      rw [this]
      by_cases h : a = b
      · subst h
        simp
      · simp [h]
theorem eqv_rowD (p q : Row) : PyData.eqv (rowD p).py (rowD q).py = decide (p = q) := by
  have e : PyData.eqv (rowD p).py (rowD q).py = (((p.put : Int) == (q.put : Int)) && (PyData.eqv (plD p.a).py (plD q.a).py && (PyData.eqv (plD p.b).py (plD q.b).py && true))) := by
    simp [rowD, D.py, D.pyAll, PyData.eqv, PyData.eqvAll]
  rw [e, eqv_plD, eqv_plD]
  obtain ⟨a, b, c⟩ := p
  obtain ⟨a', b', c'⟩ := q
  by_cases h1 : a = a'
  · subst h1
    by_cases h2 : b = b'
    · subst h2
      by_cases h3 : c = c'
      · subst h3
        simp
      · simp [h3]
    · simp [h2]
  · have h2 : ¬ (a : Int) = (a' : Int) := by omega
    simp [h1, h2]
theorem eqv_rowsD : ∀ ps qs : List Row, PyData.eqvAll (D.pyAll (rowsD ps)) (D.pyAll (rowsD qs)) = decide (ps = qs)
  | [], [] => by simp [rowsD, D.pyAll, PyData.eqvAll]
  | [], _ :: _ => by simp [rowsD, D.pyAll, PyData.eqvAll]
  | _ :: _, [] => by simp [rowsD, D.pyAll, PyData.eqvAll]
  | p :: ps, q :: qs => by
    have ih := eqv_rowsD ps qs
    have e : PyData.eqvAll (D.pyAll (rowsD (p :: ps))) (D.pyAll (rowsD (q :: qs))) = (PyData.eqv (rowD p).py (rowD q).py && PyData.eqvAll (D.pyAll (rowsD ps)) (D.pyAll (rowsD qs))) := by
      simp [rowsD, D.pyAll, PyData.eqvAll]
    rw [e, ih, eqv_rowD]
    by_cases h1 : p = q
    · by_cases h2 : ps = qs <;> simp [h1, h2]
    · simp [h1]
theorem taken_in {fs : List Pl} (hf : ∀ p, p ∈ fs → eokN 0 (plD p)) : oIn false (.str "taken") (.lst (fs.map plD)) = some (.bl (decide (Pl.word "taken" ∈ fs))) := by
  have e1 : (D.str "taken").eok = true := by decide +kernel
  have e2 : (D.lst (fs.map plD)).eok = true := (eokN_lst (n := 0) fun d hd => by
    obtain ⟨p, hp, rfl⟩ := List.mem_map.mp hd
    exact hf p hp).eok (by omega)
  unfold oIn
  simp only []
  rw [if_pos (by rw [e1, e2]; rfl)]
  simp only [Bool.false_eq_true, if_false]
  congr 2
  have e3 : ∀ p : Pl, PyData.eqv (plD p).py (D.str "taken").py = decide (p = .word "taken") := fun p => eqv_plD p (.word "taken")
  rw [List.any_map]
  rw [Bool.eq_iff_iff, List.any_eq_true, decide_eq_true_eq]
  constructor
  · rintro ⟨p, hp, h⟩
    have h := (e3 p).symm.trans h
    rw [← of_decide_eq_true h]
    exact hp
  · exact fun h => ⟨_, h, (e3 _).trans (by simp)⟩
theorem reach_ok {rows : List Row} {ws : List Str} {b : Nat} {p : Pl} (h : ∀ r, r ∈ rows → r.Ok rows.length ws) (hb : b < rows.length) (hp : Reach rows b p) : p.Ok rows.length ws := by
  cases hp with
  | base => exact hb
  | step _ f =>
    obtain ⟨r, hr, e⟩ := f
    have := h r (List.mem_of_getElem? hr)
    rcases e with rfl | rfl
    · exact this.2.1
    · exact this.2.2
theorem made {h1 h2 : D} {hs ss : List Row} (m1 : IsRows h1 hs) (m2 : IsRows h2 ss) (k1 : HearerOk hs) (k2 : SenderOk ss) : Φ_End_init [.ob "End" [], h1, h2] = .ret false .non [endD hs ss, .non, .non] := by
  obtain ⟨a1, a2, a3, a4⟩ := k1
  obtain ⟨b1, b2, b3⟩ := k2
  have c1 := checked (part := "hearer") (few := 2) (most := 100) m1 (.inl rfl) a1 a2 a3
  have c2 := checked (part := "sender") (few := 1) (most := 100) m2 (.inr rfl) b1 b2 b3
  obtain ⟨fs, r1, r2, r3⟩ := reached_ok (b := 1) m1 (by omega) a2 a3
  have t1 := taken_in (fs := fs) (fun p hp => by
    have ok := reach_ok a3 (by omega) ((r3 p).mp hp)
    exact plD_eokN (.inl rfl) ok)
  have t2 : decide (Pl.word "taken" ∈ fs) = false := decide_eq_false fun z => a4 ((r3 _).mp z)
  rw [t2] at t1
  have n1 := numbered (part := "hearer") m1 a2
  have n2 := numbered (part := "sender") m2 b2
  have c1 : Φ_check_machine [.str "hearer", h1, .int 2, .int 100, .ctup [.str "taken", .str "lost"]] = .ret false .non [.non, .non, .non, .non, .non] := c1
  have c2 : Φ_check_machine [.str "sender", h2, .int 1, .int 100, .ctup [.str "done", .str "again"]] = .ret false .non [.non, .non, .non, .non, .non] := c2
  have r1 : Φ_reached [h1, .int 1] = .ret true (.lst (fs.map plD)) [.non, .non] := r1
  have l1 : ∀ (part : Str) (rs : List Row), (numbD part rs).length = rs.length := fun part rs => by
    unfold numbD
    rw [List.length_map, enumD_len, rowsD_len]
  have sz : ((numbD "hearer" hs).length + (numbD "sender" ss).length ≤ sizeLine) = True := small3 _ (by rw [l1, l1]; omega)
  have tu : ∀ {m : D} {rs : List Row}, IsRows m rs → oTuple m = some (.tup (rowsD rs)) := fun h => by rcases h with rfl | rfl <;> rfl
  have u1 := tu m1
  have u2 := tu m2
  clear a1 a2 a3 a4 b1 b2 b3 r3 t2 l1
  unfold Φ_End_init F_End_init
  walk_at "ev"
  rfl
theorem rows_tup_eok {n : Nat} {ws : List Str} (h : okWords ws) {rs : List Row} (hr : ∀ r, r ∈ rs → r.Ok n ws) : (D.tup (rowsD rs)).eok = true := (eokN_tup (rowsD_eokN h hr)).eok (by omega)
theorem oEq_rows {n n' : Nat} {ws : List Str} (h : okWords ws) {ps qs : List Row} (hp : ∀ r, r ∈ ps → r.Ok n ws) (hq : ∀ r, r ∈ qs → r.Ok n' ws) : oEq false (.tup (rowsD ps)) (.tup (rowsD qs)) = some (.bl (decide (ps = qs))) := by
  unfold oEq
  rw [if_pos (by rw [rows_tup_eok h hp, rows_tup_eok h hq]; rfl)]
  have : PyData.eqv (D.tup (rowsD ps)).py (D.tup (rowsD qs)).py = decide (ps = qs) := by
    rw [← eqv_rowsD]
    simp [D.py, PyData.eqv]
  rw [this]
  rfl
/-- two ends compared -/
theorem end_eq {hs ss hs' ss' : List Row} (k1 : HearerOk hs) (k2 : SenderOk ss) (k3 : HearerOk hs') (k4 : SenderOk ss') : Φ_End_eq [endD hs ss, endD hs' ss'] = .ret false (.bl (decide (hs = hs' ∧ ss = ss'))) [.non, .non] := by
  have e1 := oEq_rows (.inl rfl) k1.2.2.1 k3.2.2.1
  have e2 := oEq_rows (.inr rfl) k2.2.2 k4.2.2
  have e3 : oIsO "End" (endD hs' ss') = some (.bl true) := rfl
  unfold Φ_End_eq F_End_eq
  unfold endD at *
  by_cases h1 : hs = hs'
  · by_cases h2 : ss = ss'
    · rw [decide_eq_true h1] at e1
      rw [decide_eq_true h2] at e2
      rw [decide_eq_true (⟨h1, h2⟩ : hs = hs' ∧ ss = ss')]
      clear k1 k2 k3 k4 h1 h2
      walk_at "ev"
    · rw [decide_eq_true h1] at e1
      rw [decide_eq_false h2] at e2
      rw [decide_eq_false (fun z => h2 z.2 : ¬ (hs = hs' ∧ ss = ss'))]
      clear k1 k2 k3 k4 h1 h2
      walk_at "ev"
  · rw [decide_eq_false h1] at e1
    rw [decide_eq_false (fun z => h1 z.1 : ¬ (hs = hs' ∧ ss = ss'))]
    clear k1 k2 k3 k4 h1
    walk_at "ev"
end Pg
set_option Elab.async false
set_option linter.all false
set_option maxRecDepth 100000
set_option maxHeartbeats 1000000
namespace Pg
open PySem L2 Sb Vl
local macro_rules | `(tactic| walk_at "ev") => `(tactic| simp only [Vl.runV, Vl.mkEnv, Vl.Res.of, Vl.Res.quiet, Vl.Res.val, Vl.ioAt, Vl.fSeq, Vl.fIte, Vl.fAsg, Vl.fVar, Vl.fC, Vl.fOp, Vl.fIxO, Vl.fPutL, Vl.fRet, Vl.fRetW, Vl.fRetO, Vl.fRetN, Vl.fLst, Vl.fTup, Vl.fB, Vl.fTru, Vl.fCB, Vl.fCons, Vl.fNil, Vl.o1, Vl.o2, Vl.oI, Vl.oIC, Vl.slotL, Vl.slotO, Vl.own, Vl.Pat.put, Vl.Pat.puts, Vl.Out.bind, Vl.Out.opt, Vl.fNx, Vl.fCt, Vl.fBk, Vl.fPar, Vl.fCall, Vl.fCallN, Vl.fSetN, Vl.gIo, Vl.gCn, Vl.gNl, Vl.agDs, Vl.agD, Vl.ioSlots, Vl.putAll, Vl.put1, Vl.Ag.isIo, Vl.fAnd, Vl.fOr, Vl.fNot, Vl.fAndT, Vl.fOrT, Vl.fNotT, Vl.fChain, Vl.fIsi, Vl.fIsi2, Vl.fUn, Vl.fDrop, Vl.fApp, Vl.fLenO, Vl.fMake, Vl.fRaise, Vl.fFldS, Vl.fDInO, Vl.fDPutO, Vl.fDGetO, Vl.fPop, Vl.fListD, Vl.fDOne, Vl.fDNewK, Vl.isi, Vl.bOf, Vl.sOf, Vl.fFmt, Vl.fJs, Vl.oFmt, Vl.fM1, Vl.fM0, Vl.fFor, Vl.fItems, Vl.fEnum, Vl.fSl, Vl.fPart, Vl.fNoPart, Vl.fNeg, Vl.fAugI, Vl.fInO, Vl.fYes, Vl.fTruO, Vl.fComp, Vl.fCompO, Vl.calmE, Vl.wipeE, Vl.backE, Vl.oIsN, Vl.oStr, ↓Vl.fRng1_one, Vl.oLen_lst, Vl.oLen_tup, Vl.oLen_ctup, Vl.oLen_scr, Vl.oIx_lst, Vl.oIx_tup, Vl.oIx_ctup, Vl.oIx_scr, Vl.oInt_int, Vl.oInt_bl, Vl.oAbs_int, Vl.oMax_int, Vl.oMin_int, Vl.oTuple_lst, Vl.oTuple_tup, Vl.oList_lst, Vl.oList_tup, Vl.oNeg_int, Vl.ty_non, Vl.ty_bl, Vl.ty_int, Vl.ty_str, Vl.ty_tup, Vl.ty_ctup, Vl.ty_lst, Vl.ty_dk, Vl.ty_scr, Vl.tru_non, Vl.tru_bl, Vl.tru_int, Vl.tru_lst, Vl.tru_tup, Vl.oEqS_int, Vl.oEqS_str, Vl.oEqS_bl, Vl.oCat_lst, Vl.oCatA_tup, Vl.oSlT_tup, Vl.oSlL_lst, Vl.keyOf_int, Vl.keyOf_str, Vl.isNon_non, Vl.isNon_bl, Vl.isNon_int, Vl.isNon_str, Vl.isNon_tup, Vl.isNon_lst, Vl.oFld_ob, Vl.isOb_ob', Vl.atI_0, Vl.atI_1, Vl.atI_2, Vl.atI_3, Vl.ixN_0, Vl.ixN_1, Vl.ixN_2, List.zipWith, List.replicate, List.append, List.cons_append, List.nil_append, List.append_nil, List.getElem?_cons_zero, List.getElem?_cons_succ, List.getElem?_nil, List.set_cons_zero, List.set_cons_succ, List.length_cons, List.length_nil, List.map_cons, List.map_nil, List.nodup_cons, List.nodup_nil, List.not_mem_nil, List.reverse_cons, List.reverse_nil, Bool.false_eq_true, ite_true, ite_false, if_true, if_false, reduceIte, decide_true, decide_false, Bool.true_and, Bool.and_true, Bool.false_and, Bool.and_false, Bool.not_true, Bool.not_false, Bool.or_false, Bool.false_or, Bool.or_true, Bool.true_or, reduceCtorEq, not_false_eq_true, not_true_eq_false, and_self, and_true, true_and, or_false, or_true, Nat.reduceSub, Nat.reduceAdd, Nat.reduceLeDiff, Nat.zero_add, Option.map_some, Option.map_none, Option.bind_some, Option.bind_none, Option.isSome_some, Option.isSome_none, List.mem_cons, List.all_cons, List.all_nil, eq_self, Int.cast_ofNat_Int, Int.natCast_zero, Int.natCast_one, Int.reduceEq, Int.reduceLT, Int.reduceLE, Int.reduceAdd, Int.reduceSub, Int.reduceNeg, Nat.reduceEqDiff, *])
local macro_rules | `(tactic| walk_at "e0") => `(tactic| simp only [Vl.runV, Vl.mkEnv, Vl.Res.of, Vl.Res.quiet, Vl.Res.val, Vl.ioAt, Vl.fSeq, Vl.fIte, Vl.fAsg, Vl.fVar, Vl.fC, Vl.fOp, Vl.fIxO, Vl.fPutL, Vl.fRet, Vl.fRetW, Vl.fRetO, Vl.fRetN, Vl.fLst, Vl.fTup, Vl.fB, Vl.fTru, Vl.fCB, Vl.fCons, Vl.fNil, Vl.o1, Vl.o2, Vl.oI, Vl.oIC, Vl.slotL, Vl.slotO, Vl.own, Vl.Pat.put, Vl.Pat.puts, Vl.Out.bind, Vl.Out.opt, Vl.fNx, Vl.fCt, Vl.fBk, Vl.fPar, Vl.fCall, Vl.fCallN, Vl.fSetN, Vl.gIo, Vl.gCn, Vl.gNl, Vl.agDs, Vl.agD, Vl.ioSlots, Vl.putAll, Vl.put1, Vl.Ag.isIo, Vl.fAnd, Vl.fOr, Vl.fNot, Vl.fAndT, Vl.fOrT, Vl.fNotT, Vl.fChain, Vl.fIsi, Vl.fIsi2, Vl.fUn, Vl.fDrop, Vl.fApp, Vl.fLenO, Vl.fMake, Vl.fRaise, Vl.fFldS, Vl.fDInO, Vl.fDPutO, Vl.fDGetO, Vl.fPop, Vl.fListD, Vl.fDOne, Vl.fDNewK, Vl.isi, Vl.bOf, Vl.sOf, Vl.fFmt, Vl.fJs, Vl.oFmt, Vl.fM1, Vl.fM0, Vl.fFor, Vl.fItems, Vl.fEnum, Vl.fSl, Vl.fPart, Vl.fNoPart, Vl.fNeg, Vl.fAugI, Vl.fInO, Vl.fYes, Vl.fTruO, Vl.fComp, Vl.fCompO, Vl.calmE, Vl.wipeE, Vl.backE, Vl.oIsN, Vl.oStr, ↓Vl.fRng1_one, Vl.oLen_lst, Vl.oLen_tup, Vl.oLen_ctup, Vl.oLen_scr, Vl.oIx_lst, Vl.oIx_tup, Vl.oIx_ctup, Vl.oIx_scr, Vl.oInt_int, Vl.oInt_bl, Vl.oAbs_int, Vl.oMax_int, Vl.oMin_int, Vl.oTuple_lst, Vl.oTuple_tup, Vl.oList_lst, Vl.oList_tup, Vl.oNeg_int, Vl.ty_non, Vl.ty_bl, Vl.ty_int, Vl.ty_str, Vl.ty_tup, Vl.ty_ctup, Vl.ty_lst, Vl.ty_dk, Vl.ty_scr, Vl.tru_non, Vl.tru_bl, Vl.tru_int, Vl.tru_lst, Vl.tru_tup, Vl.oEqS_int, Vl.oEqS_str, Vl.oEqS_bl, Vl.oCat_lst, Vl.oCatA_tup, Vl.oSlT_tup, Vl.oSlL_lst, Vl.keyOf_int, Vl.keyOf_str, Vl.isNon_non, Vl.isNon_bl, Vl.isNon_int, Vl.isNon_str, Vl.isNon_tup, Vl.isNon_lst, Vl.oFld_ob, Vl.isOb_ob', Vl.atI_0, Vl.atI_1, Vl.atI_2, Vl.atI_3, Vl.ixN_0, Vl.ixN_1, Vl.ixN_2, List.zipWith, List.replicate, List.append, List.cons_append, List.nil_append, List.append_nil, List.getElem?_cons_zero, List.getElem?_cons_succ, List.getElem?_nil, List.set_cons_zero, List.set_cons_succ, List.length_cons, List.length_nil, List.map_cons, List.map_nil, List.nodup_cons, List.nodup_nil, List.not_mem_nil, List.reverse_cons, List.reverse_nil, Bool.false_eq_true, ite_true, ite_false, if_true, if_false, reduceIte, decide_true, decide_false, Bool.true_and, Bool.and_true, Bool.false_and, Bool.and_false, Bool.not_true, Bool.not_false, Bool.or_false, Bool.false_or, Bool.or_true, Bool.true_or, reduceCtorEq, not_false_eq_true, not_true_eq_false, and_self, and_true, true_and, or_false, or_true, Nat.reduceSub, Nat.reduceAdd, Nat.reduceLeDiff, Nat.zero_add, Option.map_some, Option.map_none, Option.bind_some, Option.bind_none, Option.isSome_some, Option.isSome_none, List.mem_cons, List.all_cons, List.all_nil, eq_self, Int.cast_ofNat_Int, Int.natCast_zero, Int.natCast_one, Int.reduceEq, Int.reduceLT, Int.reduceLE, Int.reduceAdd, Int.reduceSub, Int.reduceNeg, Nat.reduceEqDiff])
/-- a source of numbers -/
def BagA (k : Int) (d : D) : Prop := ∃ g m c : Int, d = .lst [.int g, .int m, .int c] ∧ 0 ≤ g ∧ 0 ≤ m ∧ m < 2 ^ 90 ∧ 0 ≤ c ∧ c ≤ k
theorem BagA.more {k k' : Int} {d : D} (h : BagA k d) (hk : k ≤ k') : BagA k' d := by
  obtain ⟨g, m, c, e, h1, h2, h3, h4, h5⟩ := h
  exact ⟨g, m, c, e, h1, h2, h3, h4, by omega⟩
theorem take_ok (k n : Int) (d : D) (hb : BagA k d) (hk : k < 1000000) (hn : 0 < n) (hn2 : n < 1073741824) : ∃ r d', Φ_L_take [d, .int n] = .ret false (.int r) [d', .non] ∧ BagA (k + 1) d' ∧ 0 ≤ r ∧ r < n := by
  obtain ⟨g, m, c, rfl, hg, hm, hm2, hc, hck⟩ := hb
  have a1 := divOk hn hn2
  by_cases h0 : 0 < g
  · refine ⟨g % n, .lst [.int (g / n), .int m, .int c], ?_, ⟨g / n, m, c, rfl, Int.ediv_nonneg hg (by omega), hm, hm2, hc, by omega⟩, Int.emod_nonneg _ (by omega), Int.emod_lt_of_pos _ hn⟩
    unfold Φ_L_take F_L_take
    walk_at "ev"
  · have p90 : (2 : Int) ^ 90 = 1237940039285380274899124224 := by decide
    rw [p90] at hm2
    have e2 : cMul 1000003 (c + 1) = true := cMulL (by decide)
    have e4 : cMul 179424673 (c + 1) = true := cMulL (by decide)
    have a4 := divOk (j := 4096) (by decide) (by decide)
    have e5 := powOk (i := m + 1000003 * (c + 1)) (j := 3) 91 (by
      have p91 : (2 : Int) ^ 91 = 2475880078570760549798248448 := by decide
      rw [p91]
      omega) (by decide) (by decide)
    have q0 := Int.emod_nonneg ((m + 1000003 * (c + 1)) ^ (3 : Int).toNat) (b := 2305843009213693921) (by decide)
    have q1 := Int.emod_lt_of_pos ((m + 1000003 * (c + 1)) ^ (3 : Int).toNat) (b := 2305843009213693921) (by decide)
    have e6 := powOk (i := (m + 1000003 * (c + 1)) ^ (3 : Int).toNat % 2305843009213693921 + 179424673 * (c + 1)) (j := 2) 63 (by
      have p63 : (2 : Int) ^ 63 = 9223372036854775808 := by decide
      rw [p63]
      omega) (by decide) (by decide)
    have z1 : decide ((0 : Int) < 2305843009213693921) = true := rfl
    have z2 : decide ((0 : Int) < 2305843009213693951) = true := rfl
    have q2 := Int.emod_nonneg (((m + 1000003 * (c + 1)) ^ (3 : Int).toNat % 2305843009213693921 + 179424673 * (c + 1)) ^ (2 : Int).toNat) (b := 2305843009213693951) (by decide)
    have h0' : decide (0 < g) = false := decide_eq_false h0
    have hn' : decide (0 < n) = true := decide_eq_true hn
    refine ⟨((m + 1000003 * (c + 1)) ^ (3 : Int).toNat % 2305843009213693921 + 179424673 * (c + 1)) ^ (2 : Int).toNat % 2305843009213693951 / 4096 % n, .lst [.int g, .int m, .int (c + 1)], ?_, ⟨_, _, _, rfl, hg, hm, by rw [p90]; exact hm2, by omega, by omega⟩, Int.emod_nonneg _ (by omega), Int.emod_lt_of_pos _ hn⟩
    rw [Bool.and_eq_true] at e5 e6
    replace e5 := e5.2
    replace e6 := e6.2
    clear q0 q1 q2 hm hm2 hc hck hg p90 hk hn2 z1 z2 a4
    unfold Φ_L_take F_L_take
    walk_at "ev"
def wordsD (w0 w1 : Str) : D := .lst [.str w0, .str w1]
theorem place_ok (k : Int) (many : Nat) (w0 w1 : Str) (d : D) (hb : BagA k d) (hk : k < 900000) (hm : 1 ≤ many) (hm2 : many ≤ 1000) : ∃ p d', Φ_L_place [d, .int (many : Int), wordsD w0 w1] = .ret false (plD p) [d', .non, .non] ∧ BagA (k + 1) d' ∧ p.Ok many [w0, w1] := by
  obtain ⟨r, d', e, hb', r0, r1⟩ := take_ok k ((many : Int) + 4) d hb (by omega) (by omega) (by omega)
  by_cases h : r < (many : Int)
  · refine ⟨.num r.toNat, d', ?_, hb', ?_⟩
    · have e1 : plD (.num r.toNat) = .int r := by
        show D.int (r.toNat : Int) = _
        rw [Int.toNat_of_nonneg r0]
      rw [e1]
      have h' : decide (r < (many : Int)) = true := decide_eq_true h
      unfold Φ_L_place F_L_place
      walk_at "ev"
    · show r.toNat < many
      omega
  · have h' : decide (r < (many : Int)) = false := decide_eq_false h
    have h2 : r % 2 = 0 ∨ r % 2 = 1 := by omega
    have z : decide ((0 : Int) < 2) = true := rfl
    rcases h2 with h2 | h2
    · refine ⟨.word w0, d', ?_, hb', by simp [Pl.Ok]⟩
      unfold Φ_L_place F_L_place wordsD plD
      walk_at "ev"
    · refine ⟨.word w1, d', ?_, hb', by simp [Pl.Ok]⟩
      unfold Φ_L_place F_L_place wordsD plD
      walk_at "ev"
theorem elt_ok (k : Int) (many : Nat) (w0 w1 : Str) (d : D) (s : Slot) (hb : BagA k d) (hk : k < 850000) (hm : 1 ≤ many) (hm2 : many ≤ 1000) : ∃ r d', E_L_rows_1 [.io d, .sh (.int (many : Int)), .sh (wordsD w0 w1), s] = .val (rowD r) [.io d', .sh (.int (many : Int)), .sh (wordsD w0 w1), s] ∧ BagA (k + 3) d' ∧ r.Ok many [w0, w1] := by
  obtain ⟨v, d1, e1, hb1, v0, v1⟩ := take_ok k 2 d hb (by omega) (by omega) (by omega)
  obtain ⟨p, d2, e2, hb2, hp⟩ := place_ok (k + 1) many w0 w1 d1 hb1 (by omega) hm hm2
  obtain ⟨q, d3, e3, hb3, hq⟩ := place_ok (k + 1 + 1) many w0 w1 d2 hb2 (by omega) hm hm2
  have ev : rowD ⟨v.toNat, p, q⟩ = .tup [.int v, plD p, plD q] := by
    unfold rowD
    rw [Int.toNat_of_nonneg v0]
  refine ⟨⟨v.toNat, p, q⟩, d3, ?_, hb3.more (by omega), ?_, hp, hq⟩
  · rw [ev]
    clear hb hb1 hb2 hb3 hp hq v0 v1 hk hm hm2 ev
    unfold E_L_rows_1
    walk_at "ev"
  · show v.toNat = 0 ∨ v.toNat = 1
    omega
end Pg
set_option Elab.async false
set_option linter.all false
set_option maxRecDepth 100000
set_option maxHeartbeats 1000000
namespace Pg
open PySem L2 Sb Vl
local macro_rules | `(tactic| walk_at "ev") => `(tactic| simp only [Vl.runV, Vl.mkEnv, Vl.Res.of, Vl.Res.quiet, Vl.Res.val, Vl.ioAt, Vl.fSeq, Vl.fIte, Vl.fAsg, Vl.fVar, Vl.fC, Vl.fOp, Vl.fIxO, Vl.fPutL, Vl.fRet, Vl.fRetW, Vl.fRetO, Vl.fRetN, Vl.fLst, Vl.fTup, Vl.fB, Vl.fTru, Vl.fCB, Vl.fCons, Vl.fNil, Vl.o1, Vl.o2, Vl.oI, Vl.oIC, Vl.slotL, Vl.slotO, Vl.own, Vl.Pat.put, Vl.Pat.puts, Vl.Out.bind, Vl.Out.opt, Vl.fNx, Vl.fCt, Vl.fBk, Vl.fPar, Vl.fCall, Vl.fCallN, Vl.fSetN, Vl.gIo, Vl.gCn, Vl.gNl, Vl.agDs, Vl.agD, Vl.ioSlots, Vl.putAll, Vl.put1, Vl.Ag.isIo, Vl.fAnd, Vl.fOr, Vl.fNot, Vl.fAndT, Vl.fOrT, Vl.fNotT, Vl.fChain, Vl.fIsi, Vl.fIsi2, Vl.fUn, Vl.fDrop, Vl.fApp, Vl.fLenO, Vl.fMake, Vl.fRaise, Vl.fFldS, Vl.fDInO, Vl.fDPutO, Vl.fDGetO, Vl.fPop, Vl.fListD, Vl.fDOne, Vl.fDNewK, Vl.isi, Vl.bOf, Vl.sOf, Vl.fFmt, Vl.fJs, Vl.oFmt, Vl.fM1, Vl.fM0, Vl.fFor, Vl.fItems, Vl.fEnum, Vl.fSl, Vl.fPart, Vl.fNoPart, Vl.fNeg, Vl.fAugI, Vl.fInO, Vl.fYes, Vl.fTruO, Vl.fComp, Vl.fCompO, Vl.calmE, Vl.wipeE, Vl.backE, Vl.oIsN, Vl.oStr, ↓Vl.fRng1_one, Vl.oLen_lst, Vl.oLen_tup, Vl.oLen_ctup, Vl.oLen_scr, Vl.oIx_lst, Vl.oIx_tup, Vl.oIx_ctup, Vl.oIx_scr, Vl.oInt_int, Vl.oInt_bl, Vl.oAbs_int, Vl.oMax_int, Vl.oMin_int, Vl.oTuple_lst, Vl.oTuple_tup, Vl.oList_lst, Vl.oList_tup, Vl.oNeg_int, Vl.ty_non, Vl.ty_bl, Vl.ty_int, Vl.ty_str, Vl.ty_tup, Vl.ty_ctup, Vl.ty_lst, Vl.ty_dk, Vl.ty_scr, Vl.tru_non, Vl.tru_bl, Vl.tru_int, Vl.tru_lst, Vl.tru_tup, Vl.oEqS_int, Vl.oEqS_str, Vl.oEqS_bl, Vl.oCat_lst, Vl.oCatA_tup, Vl.oSlT_tup, Vl.oSlL_lst, Vl.keyOf_int, Vl.keyOf_str, Vl.isNon_non, Vl.isNon_bl, Vl.isNon_int, Vl.isNon_str, Vl.isNon_tup, Vl.isNon_lst, Vl.oFld_ob, Vl.isOb_ob', Vl.atI_0, Vl.atI_1, Vl.atI_2, Vl.atI_3, Vl.ixN_0, Vl.ixN_1, Vl.ixN_2, List.zipWith, List.replicate, List.append, List.cons_append, List.nil_append, List.append_nil, List.getElem?_cons_zero, List.getElem?_cons_succ, List.getElem?_nil, List.set_cons_zero, List.set_cons_succ, List.length_cons, List.length_nil, List.map_cons, List.map_nil, List.nodup_cons, List.nodup_nil, List.not_mem_nil, List.reverse_cons, List.reverse_nil, Bool.false_eq_true, ite_true, ite_false, if_true, if_false, reduceIte, decide_true, decide_false, Bool.true_and, Bool.and_true, Bool.false_and, Bool.and_false, Bool.not_true, Bool.not_false, Bool.or_false, Bool.false_or, Bool.or_true, Bool.true_or, reduceCtorEq, not_false_eq_true, not_true_eq_false, and_self, and_true, true_and, or_false, or_true, Nat.reduceSub, Nat.reduceAdd, Nat.reduceLeDiff, Nat.zero_add, Option.map_some, Option.map_none, Option.bind_some, Option.bind_none, Option.isSome_some, Option.isSome_none, List.mem_cons, List.all_cons, List.all_nil, eq_self, Int.cast_ofNat_Int, Int.natCast_zero, Int.natCast_one, Int.reduceEq, Int.reduceLT, Int.reduceLE, Int.reduceAdd, Int.reduceSub, Int.reduceNeg, Nat.reduceEqDiff, *])
local macro_rules | `(tactic| walk_at "e0") => `(tactic| simp only [Vl.runV, Vl.mkEnv, Vl.Res.of, Vl.Res.quiet, Vl.Res.val, Vl.ioAt, Vl.fSeq, Vl.fIte, Vl.fAsg, Vl.fVar, Vl.fC, Vl.fOp, Vl.fIxO, Vl.fPutL, Vl.fRet, Vl.fRetW, Vl.fRetO, Vl.fRetN, Vl.fLst, Vl.fTup, Vl.fB, Vl.fTru, Vl.fCB, Vl.fCons, Vl.fNil, Vl.o1, Vl.o2, Vl.oI, Vl.oIC, Vl.slotL, Vl.slotO, Vl.own, Vl.Pat.put, Vl.Pat.puts, Vl.Out.bind, Vl.Out.opt, Vl.fNx, Vl.fCt, Vl.fBk, Vl.fPar, Vl.fCall, Vl.fCallN, Vl.fSetN, Vl.gIo, Vl.gCn, Vl.gNl, Vl.agDs, Vl.agD, Vl.ioSlots, Vl.putAll, Vl.put1, Vl.Ag.isIo, Vl.fAnd, Vl.fOr, Vl.fNot, Vl.fAndT, Vl.fOrT, Vl.fNotT, Vl.fChain, Vl.fIsi, Vl.fIsi2, Vl.fUn, Vl.fDrop, Vl.fApp, Vl.fLenO, Vl.fMake, Vl.fRaise, Vl.fFldS, Vl.fDInO, Vl.fDPutO, Vl.fDGetO, Vl.fPop, Vl.fListD, Vl.fDOne, Vl.fDNewK, Vl.isi, Vl.bOf, Vl.sOf, Vl.fFmt, Vl.fJs, Vl.oFmt, Vl.fM1, Vl.fM0, Vl.fFor, Vl.fItems, Vl.fEnum, Vl.fSl, Vl.fPart, Vl.fNoPart, Vl.fNeg, Vl.fAugI, Vl.fInO, Vl.fYes, Vl.fTruO, Vl.fComp, Vl.fCompO, Vl.calmE, Vl.wipeE, Vl.backE, Vl.oIsN, Vl.oStr, ↓Vl.fRng1_one, Vl.oLen_lst, Vl.oLen_tup, Vl.oLen_ctup, Vl.oLen_scr, Vl.oIx_lst, Vl.oIx_tup, Vl.oIx_ctup, Vl.oIx_scr, Vl.oInt_int, Vl.oInt_bl, Vl.oAbs_int, Vl.oMax_int, Vl.oMin_int, Vl.oTuple_lst, Vl.oTuple_tup, Vl.oList_lst, Vl.oList_tup, Vl.oNeg_int, Vl.ty_non, Vl.ty_bl, Vl.ty_int, Vl.ty_str, Vl.ty_tup, Vl.ty_ctup, Vl.ty_lst, Vl.ty_dk, Vl.ty_scr, Vl.tru_non, Vl.tru_bl, Vl.tru_int, Vl.tru_lst, Vl.tru_tup, Vl.oEqS_int, Vl.oEqS_str, Vl.oEqS_bl, Vl.oCat_lst, Vl.oCatA_tup, Vl.oSlT_tup, Vl.oSlL_lst, Vl.keyOf_int, Vl.keyOf_str, Vl.isNon_non, Vl.isNon_bl, Vl.isNon_int, Vl.isNon_str, Vl.isNon_tup, Vl.isNon_lst, Vl.oFld_ob, Vl.isOb_ob', Vl.atI_0, Vl.atI_1, Vl.atI_2, Vl.atI_3, Vl.ixN_0, Vl.ixN_1, Vl.ixN_2, List.zipWith, List.replicate, List.append, List.cons_append, List.nil_append, List.append_nil, List.getElem?_cons_zero, List.getElem?_cons_succ, List.getElem?_nil, List.set_cons_zero, List.set_cons_succ, List.length_cons, List.length_nil, List.map_cons, List.map_nil, List.nodup_cons, List.nodup_nil, List.not_mem_nil, List.reverse_cons, List.reverse_nil, Bool.false_eq_true, ite_true, ite_false, if_true, if_false, reduceIte, decide_true, decide_false, Bool.true_and, Bool.and_true, Bool.false_and, Bool.and_false, Bool.not_true, Bool.not_false, Bool.or_false, Bool.false_or, Bool.or_true, Bool.true_or, reduceCtorEq, not_false_eq_true, not_true_eq_false, and_self, and_true, true_and, or_false, or_true, Nat.reduceSub, Nat.reduceAdd, Nat.reduceLeDiff, Nat.zero_add, Option.map_some, Option.map_none, Option.bind_some, Option.bind_none, Option.isSome_some, Option.isSome_none, List.mem_cons, List.all_cons, List.all_nil, eq_self, Int.cast_ofNat_Int, Int.natCast_zero, Int.natCast_one, Int.reduceEq, Int.reduceLT, Int.reduceLE, Int.reduceAdd, Int.reduceSub, Int.reduceNeg, Nat.reduceEqDiff])
theorem rows_ok (k : Int) (many : Nat) (w0 w1 : Str) (d : D) (hb : BagA k d) (hk : k < 800000) (hm : 1 ≤ many) (hm2 : many ≤ 1000) : ∃ rs d', Φ_L_rows [d, .int (many : Int), wordsD w0 w1] = .ret true (.lst (rowsD rs)) [d', .non, .non] ∧ BagA (k + 3 * many) d' ∧ rs.length = many ∧ ∀ r, r ∈ rs → r.Ok many [w0, w1] := by
  have big : (1001 : Nat) < sizeLine := by decide
  obtain ⟨acc, env', e, rs, d', s, rfl, hl, hok, hb', rfl⟩ := comp_ok (p := .nm 3) (ft := fYes) (fe := E_L_rows_1) (vs := [3]) (ds := rangeD 0 many) (fun i acc env => ∃ rs d' s, acc = rowsD rs ∧ rs.length = i ∧ (∀ r, r ∈ rs → r.Ok many [w0, w1]) ∧ BagA (k + 3 * i) d' ∧ env = [.io d', .sh (.int (many : Int)), .sh (wordsD w0 w1), s]) (fun i y acc env hd hi => by
    obtain ⟨rs, d0, s, rfl, hl, hok, hb0, rfl⟩ := hi
    obtain ⟨hi, rfl⟩ := rangeD_get hd
    obtain ⟨r, d1, e1, hb1, hr⟩ := elt_ok (k + 3 * i) many w0 w1 d0 (.sh (.int (0 + (i : Int)))) hb0 (by omega) hm hm2
    refine ⟨_, true, _, rfl, rfl, fun _ => ⟨rowD r, _, e1, ?_, rs ++ [r], d1, _, ?_, by simp [hl], ?_, hb1.more (by omega), rfl⟩, fun z => by cases z⟩
    · rw [rowsD_len, hl]
      omega
    · simp [rowsD]
    · intro r' hr'
      rcases List.mem_append.mp hr' with z | z
      · exact hok r' z
      · simp at z
        subst z
        exact hr) (env := [.io d, .sh (.int (many : Int)), .sh (wordsD w0 w1), .un]) ⟨[], d, .un, rfl, rfl, fun r hr => by simp at hr, by simpa using hb, rfl⟩
  rw [rangeD_len] at hl hb'
  refine ⟨rs, d', ?_, hb', hl, hok⟩
  have hr := rng1_nat (n := many) (by omega)
  unfold Φ_L_rows F_L_rows
  clear hb hb' hok hl hk hm hm2 big
  walk_at "ev"
/-- a follower that is met -/
def addP (fs : List Nat) : Pl → List Nat
  | .num j => if j ∈ fs then fs else fs ++ [j]
  | .word _ => fs
def intsD (fs : List Nat) : List D := fs.map fun (i : Nat) => D.int (i : Int)
theorem in_ints {fs : List Nat} {j : Nat} : oIn true (.int (j : Int)) (.lst (intsD fs)) = some (.bl (!decide (j ∈ fs))) := by
  have e2 : (D.lst (intsD fs)).eok = true := (eokN_lst (n := 0) fun d hd => by
    obtain ⟨p, hp, rfl⟩ := List.mem_map.mp hd
    exact eokN_int _).eok (by omega)
  unfold oIn
  simp only []
  rw [if_pos (by rw [int_eok, e2]; rfl)]
  simp only [if_true]
  congr 3
  unfold intsD
  rw [List.any_map, Bool.eq_iff_iff, List.any_eq_true, decide_eq_true_eq]
  have e3 : ∀ i : Nat, PyData.eqv (D.int (i : Int)).py (D.int (j : Int)).py = decide (Pl.num i = .num j) := fun i => eqv_plD (.num i) (.num j)
  constructor
  · rintro ⟨p, hp, h⟩
    have h := (e3 p).symm.trans h
    have h := of_decide_eq_true h
    cases h
    exact hp
  · exact fun h => ⟨_, h, (e3 _).trans (by simp)⟩
theorem led_step {m first : D} {fs : List Nat} {t : Int} {p : Pl} (hl : fs.length ≤ 1000) : B_L_led_1 [.sh m, .sh first, .ow (.lst (intsD fs)), .sh (.int t), .sh (plD p)] = .val .nx [.sh m, .sh first, .ow (.lst (intsD (addP fs p))), .sh (.int t), .sh (plD p)] := by
  cases p with
  | word s =>
    unfold B_L_led_1 plD addP
    walk_at "e0"
  | num j =>
    have h1 := in_ints (fs := fs) (j := j)
    have h2 : ((intsD fs).length < sizeLine) = True := by
      simp only [eq_iff_iff, iff_true, intsD, List.length_map]
      exact Nat.lt_of_le_of_lt hl (by decide)
    by_cases hj : j ∈ fs
    · rw [decide_eq_true hj] at h1
      have e : addP fs (.num j) = fs := if_pos hj
      rw [e]
      unfold B_L_led_1 plD
      clear hl e hj
      walk_at "ev"
    · rw [decide_eq_false hj] at h1
      have e : addP fs (.num j) = fs ++ [j] := if_neg hj
      have e' : intsD (fs ++ [j]) = intsD fs ++ [.int (j : Int)] := by simp [intsD]
      rw [e, e']
      unfold B_L_led_1 plD
      clear hl e e' hj
      walk_at "ev"
theorem linv_add {rows : List Row} {b t i : Nat} {fs : List Nat} {p : Pl} {ws : List Str} (h : LInv rows b fs t) (hi : i ∈ fs) (f : Fol rows i p) (hp : p.Ok rows.length ws) (ht : t ≤ fs.length) : LInv rows b (addP fs p) t ∧ (∀ j, p = .num j → j ∈ addP fs p) ∧ ∃ l, addP fs p = fs ++ l := by
  cases p with
  | word s => exact ⟨h, (fun j z => by cases z), [], by simp [addP]⟩
  | num j =>
    by_cases hj : j ∈ fs
    · have e : addP fs (.num j) = fs := if_pos hj
      rw [e]
      exact ⟨h, (fun k z => by cases z; exact hj), [], by simp⟩
    · have e : addP fs (.num j) = fs ++ [j] := if_neg hj
      rw [e]
      exact ⟨h.add hi f hj hp ht, (fun k z => by cases z; simp), [j], rfl⟩
end Pg
set_option Elab.async false
set_option linter.all false
set_option maxRecDepth 100000
set_option maxHeartbeats 1000000
namespace Pg
open PySem L2 Sb Vl
local macro_rules | `(tactic| walk_at "ev") => `(tactic| simp only [Vl.runV, Vl.mkEnv, Vl.Res.of, Vl.Res.quiet, Vl.Res.val, Vl.ioAt, Vl.fSeq, Vl.fIte, Vl.fAsg, Vl.fVar, Vl.fC, Vl.fOp, Vl.fIxO, Vl.fPutL, Vl.fRet, Vl.fRetW, Vl.fRetO, Vl.fRetN, Vl.fLst, Vl.fTup, Vl.fB, Vl.fTru, Vl.fCB, Vl.fCons, Vl.fNil, Vl.o1, Vl.o2, Vl.oI, Vl.oIC, Vl.slotL, Vl.slotO, Vl.own, Vl.Pat.put, Vl.Pat.puts, Vl.Out.bind, Vl.Out.opt, Vl.fNx, Vl.fCt, Vl.fBk, Vl.fPar, Vl.fCall, Vl.fCallN, Vl.fSetN, Vl.gIo, Vl.gCn, Vl.gNl, Vl.agDs, Vl.agD, Vl.ioSlots, Vl.putAll, Vl.put1, Vl.Ag.isIo, Vl.fAnd, Vl.fOr, Vl.fNot, Vl.fAndT, Vl.fOrT, Vl.fNotT, Vl.fChain, Vl.fIsi, Vl.fIsi2, Vl.fUn, Vl.fDrop, Vl.fApp, Vl.fLenO, Vl.fMake, Vl.fRaise, Vl.fFldS, Vl.fDInO, Vl.fDPutO, Vl.fDGetO, Vl.fPop, Vl.fListD, Vl.fDOne, Vl.fDNewK, Vl.isi, Vl.bOf, Vl.sOf, Vl.fFmt, Vl.fJs, Vl.oFmt, Vl.fM1, Vl.fM0, Vl.fFor, Vl.fItems, Vl.fEnum, Vl.fSl, Vl.fPart, Vl.fNoPart, Vl.fNeg, Vl.fAugI, Vl.fInO, Vl.fYes, Vl.fTruO, Vl.fComp, Vl.fCompO, Vl.calmE, Vl.wipeE, Vl.backE, Vl.oIsN, Vl.oStr, ↓Vl.fRng1_one, Vl.oLen_lst, Vl.oLen_tup, Vl.oLen_ctup, Vl.oLen_scr, Vl.oIx_lst, Vl.oIx_tup, Vl.oIx_ctup, Vl.oIx_scr, Vl.oInt_int, Vl.oInt_bl, Vl.oAbs_int, Vl.oMax_int, Vl.oMin_int, Vl.oTuple_lst, Vl.oTuple_tup, Vl.oList_lst, Vl.oList_tup, Vl.oNeg_int, Vl.ty_non, Vl.ty_bl, Vl.ty_int, Vl.ty_str, Vl.ty_tup, Vl.ty_ctup, Vl.ty_lst, Vl.ty_dk, Vl.ty_scr, Vl.tru_non, Vl.tru_bl, Vl.tru_int, Vl.tru_lst, Vl.tru_tup, Vl.oEqS_int, Vl.oEqS_str, Vl.oEqS_bl, Vl.oCat_lst, Vl.oCatA_tup, Vl.oSlT_tup, Vl.oSlL_lst, Vl.keyOf_int, Vl.keyOf_str, Vl.isNon_non, Vl.isNon_bl, Vl.isNon_int, Vl.isNon_str, Vl.isNon_tup, Vl.isNon_lst, Vl.oFld_ob, Vl.isOb_ob', Vl.atI_0, Vl.atI_1, Vl.atI_2, Vl.atI_3, Vl.ixN_0, Vl.ixN_1, Vl.ixN_2, List.zipWith, List.replicate, List.append, List.cons_append, List.nil_append, List.append_nil, List.getElem?_cons_zero, List.getElem?_cons_succ, List.getElem?_nil, List.set_cons_zero, List.set_cons_succ, List.length_cons, List.length_nil, List.map_cons, List.map_nil, List.nodup_cons, List.nodup_nil, List.not_mem_nil, List.reverse_cons, List.reverse_nil, Bool.false_eq_true, ite_true, ite_false, if_true, if_false, reduceIte, decide_true, decide_false, Bool.true_and, Bool.and_true, Bool.false_and, Bool.and_false, Bool.not_true, Bool.not_false, Bool.or_false, Bool.false_or, Bool.or_true, Bool.true_or, reduceCtorEq, not_false_eq_true, not_true_eq_false, and_self, and_true, true_and, or_false, or_true, Nat.reduceSub, Nat.reduceAdd, Nat.reduceLeDiff, Nat.zero_add, Option.map_some, Option.map_none, Option.bind_some, Option.bind_none, Option.isSome_some, Option.isSome_none, List.mem_cons, List.all_cons, List.all_nil, eq_self, Int.cast_ofNat_Int, Int.natCast_zero, Int.natCast_one, Int.reduceEq, Int.reduceLT, Int.reduceLE, Int.reduceAdd, Int.reduceSub, Int.reduceNeg, Nat.reduceEqDiff, *])
local macro_rules | `(tactic| walk_at "e0") => `(tactic| simp only [Vl.runV, Vl.mkEnv, Vl.Res.of, Vl.Res.quiet, Vl.Res.val, Vl.ioAt, Vl.fSeq, Vl.fIte, Vl.fAsg, Vl.fVar, Vl.fC, Vl.fOp, Vl.fIxO, Vl.fPutL, Vl.fRet, Vl.fRetW, Vl.fRetO, Vl.fRetN, Vl.fLst, Vl.fTup, Vl.fB, Vl.fTru, Vl.fCB, Vl.fCons, Vl.fNil, Vl.o1, Vl.o2, Vl.oI, Vl.oIC, Vl.slotL, Vl.slotO, Vl.own, Vl.Pat.put, Vl.Pat.puts, Vl.Out.bind, Vl.Out.opt, Vl.fNx, Vl.fCt, Vl.fBk, Vl.fPar, Vl.fCall, Vl.fCallN, Vl.fSetN, Vl.gIo, Vl.gCn, Vl.gNl, Vl.agDs, Vl.agD, Vl.ioSlots, Vl.putAll, Vl.put1, Vl.Ag.isIo, Vl.fAnd, Vl.fOr, Vl.fNot, Vl.fAndT, Vl.fOrT, Vl.fNotT, Vl.fChain, Vl.fIsi, Vl.fIsi2, Vl.fUn, Vl.fDrop, Vl.fApp, Vl.fLenO, Vl.fMake, Vl.fRaise, Vl.fFldS, Vl.fDInO, Vl.fDPutO, Vl.fDGetO, Vl.fPop, Vl.fListD, Vl.fDOne, Vl.fDNewK, Vl.isi, Vl.bOf, Vl.sOf, Vl.fFmt, Vl.fJs, Vl.oFmt, Vl.fM1, Vl.fM0, Vl.fFor, Vl.fItems, Vl.fEnum, Vl.fSl, Vl.fPart, Vl.fNoPart, Vl.fNeg, Vl.fAugI, Vl.fInO, Vl.fYes, Vl.fTruO, Vl.fComp, Vl.fCompO, Vl.calmE, Vl.wipeE, Vl.backE, Vl.oIsN, Vl.oStr, ↓Vl.fRng1_one, Vl.oLen_lst, Vl.oLen_tup, Vl.oLen_ctup, Vl.oLen_scr, Vl.oIx_lst, Vl.oIx_tup, Vl.oIx_ctup, Vl.oIx_scr, Vl.oInt_int, Vl.oInt_bl, Vl.oAbs_int, Vl.oMax_int, Vl.oMin_int, Vl.oTuple_lst, Vl.oTuple_tup, Vl.oList_lst, Vl.oList_tup, Vl.oNeg_int, Vl.ty_non, Vl.ty_bl, Vl.ty_int, Vl.ty_str, Vl.ty_tup, Vl.ty_ctup, Vl.ty_lst, Vl.ty_dk, Vl.ty_scr, Vl.tru_non, Vl.tru_bl, Vl.tru_int, Vl.tru_lst, Vl.tru_tup, Vl.oEqS_int, Vl.oEqS_str, Vl.oEqS_bl, Vl.oCat_lst, Vl.oCatA_tup, Vl.oSlT_tup, Vl.oSlL_lst, Vl.keyOf_int, Vl.keyOf_str, Vl.isNon_non, Vl.isNon_bl, Vl.isNon_int, Vl.isNon_str, Vl.isNon_tup, Vl.isNon_lst, Vl.oFld_ob, Vl.isOb_ob', Vl.atI_0, Vl.atI_1, Vl.atI_2, Vl.atI_3, Vl.ixN_0, Vl.ixN_1, Vl.ixN_2, List.zipWith, List.replicate, List.append, List.cons_append, List.nil_append, List.append_nil, List.getElem?_cons_zero, List.getElem?_cons_succ, List.getElem?_nil, List.set_cons_zero, List.set_cons_succ, List.length_cons, List.length_nil, List.map_cons, List.map_nil, List.nodup_cons, List.nodup_nil, List.not_mem_nil, List.reverse_cons, List.reverse_nil, Bool.false_eq_true, ite_true, ite_false, if_true, if_false, reduceIte, decide_true, decide_false, Bool.true_and, Bool.and_true, Bool.false_and, Bool.and_false, Bool.not_true, Bool.not_false, Bool.or_false, Bool.false_or, Bool.or_true, Bool.true_or, reduceCtorEq, not_false_eq_true, not_true_eq_false, and_self, and_true, true_and, or_false, or_true, Nat.reduceSub, Nat.reduceAdd, Nat.reduceLeDiff, Nat.zero_add, Option.map_some, Option.map_none, Option.bind_some, Option.bind_none, Option.isSome_some, Option.isSome_none, List.mem_cons, List.all_cons, List.all_nil, eq_self, Int.cast_ofNat_Int, Int.natCast_zero, Int.natCast_one, Int.reduceEq, Int.reduceLT, Int.reduceLE, Int.reduceAdd, Int.reduceSub, Int.reduceNeg, Nat.reduceEqDiff])
theorem intsD_len (fs : List Nat) : (intsD fs).length = fs.length := by simp [intsD]
theorem intsD_at {fs : List Nat} {t i : Nat} (h : fs[t]? = some i) : atI (intsD fs) (t : Int) = some (.int (i : Int)) := by
  rw [atI_ge _ t _ rfl]
  unfold intsD
  rw [List.getElem?_map, h]
  rfl
theorem led_ok {m : D} {rows : List Row} {b : Nat} {ws : List Str} (hm : IsRows m rows) (hb : b < rows.length) (hsz : rows.length ≤ 100) (hok : ∀ r, r ∈ rows → r.Ok rows.length ws) :
    ∃ fs : List Nat, Φ_L_led [m, .int (b : Int)] = .ret true (.lst (intsD fs)) [.non, .non] ∧ fs.Nodup ∧ (∀ i, i ∈ fs ↔ Reach rows b (.num i)) ∧ ∀ i, i ∈ fs → i < rows.length := by
  obtain ⟨env', e, fs, t, s4, rfl, I, hle⟩ := while_ok (t := T_L_led_1) (s := B_L_led_2) (Q := fun env => ∃ (fs : List Nat) (t : Nat) (s4 : Slot), env = [.sh m, .sh (.int (b : Int)), .ow (.lst (intsD fs)), .sh (.int (t : Int)), s4] ∧ LInv rows b fs t ∧ fs.length ≤ t)
    (fun k env => ∃ (fs : List Nat) (t : Nat) (s4 : Slot), env = [.sh m, .sh (.int (b : Int)), .ow (.lst (intsD fs)), .sh (.int (t : Int)), s4] ∧ LInv rows b fs t ∧ t ≤ fs.length ∧ k = rows.length - t) (fun k env hi => by
      obtain ⟨fs, t, s4, rfl, I, ht, rfl⟩ := hi
      have hfl := nodup_len I.nd I.small
      by_cases c : t < fs.length
      · refine .inr ?_
        obtain ⟨i, hi⟩ : ∃ i, fs[t]? = some i := ⟨fs[t], List.getElem?_eq_getElem c⟩
        have him : i ∈ fs := List.mem_of_getElem? hi
        have hil := I.small i him
        obtain ⟨r, hr⟩ : ∃ r, rows[i]? = some r := ⟨rows[i], List.getElem?_eq_getElem hil⟩
        have hrok := hok r (List.mem_of_getElem? hr)
        have s1 := led_step (m := m) (first := .int (b : Int)) (fs := fs) (t := (t : Int)) (p := r.a) (by omega)
        obtain ⟨I1, c1, l1, e1⟩ := linv_add I him ⟨r, hr, .inl rfl⟩ hrok.2.1 ht
        have hfl1 := nodup_len I1.nd I1.small
        have s2 := led_step (m := m) (first := .int (b : Int)) (fs := addP fs r.a) (t := (t : Int)) (p := r.b) (by omega)
        obtain ⟨I2, c2, l2, e2⟩ := linv_add I1 (i := i) (by rw [e1]; exact List.mem_append_left _ him) ⟨r, hr, .inr rfl⟩ hrok.2.2 (by rw [e1, List.length_append]; omega)
        have hrow := rows_at hm hr
        have hat := intsD_at hi
        have hloop := loop_two (p := .nm 4) (s := B_L_led_1) (e0 := [.sh m, .sh (.int (b : Int)), .ow (.lst (intsD fs)), .sh (.int (t : Int)), s4]) rfl (.inl s1) rfl (.inl s2)
        refine ⟨[.sh m, .sh (.int (b : Int)), .ow (.lst (intsD fs)), .sh (.int (t : Int)), s4], [.sh m, .sh (.int (b : Int)), .ow (.lst (intsD (addP (addP fs r.a) r.b))), .sh (.int ((t + 1 : Nat) : Int)), .sh (plD r.b)], rows.length - (t + 1), ?_, .inl ?_, by omega, addP (addP fs r.a) r.b, t + 1, .sh (plD r.b), rfl, I2.next (i := i) ?_ ?_, ?_, rfl⟩
        · have h : decide ((t : Int) < ((intsD fs).length : Int)) = true := decide_eq_true (by rw [intsD_len]; omega)
          unfold T_L_led_1
          clear hloop hat hrow e2 e1 s1 s2 c1 c2 I2 I1 I hrok hok hr hil him hi hm hb hsz hfl hfl1 c ht
          walk_at "ev"
        · clear e2 e1 s1 s2 c1 c2 I2 I1 I hrok hok hr hil him hi hm hb hsz hfl hfl1 c ht
          unfold B_L_led_2 L_L_led_1
          unfold rowD at hrow
          have hcut := cut_row r
          walk_at "ev"
          rfl
        · rw [e2, e1, List.append_assoc, List.getElem?_append_left c]
          exact hi
        · rintro j ⟨r', hr', hj⟩
          rw [hr] at hr'
          cases hr'
          rcases hj with hj | hj
          · have := c1 j hj.symm
            rw [e2]
            exact List.mem_append_left _ this
          · exact c2 j hj.symm
        · rw [e2, e1, List.length_append, List.length_append]
          omega
      · refine .inl ⟨[.sh m, .sh (.int (b : Int)), .ow (.lst (intsD fs)), .sh (.int (t : Int)), s4], ?_, fs, t, s4, rfl, I, by omega⟩
        have h : decide ((t : Int) < ((intsD fs).length : Int)) = false := decide_eq_false (by rw [intsD_len]; omega)
        unfold T_L_led_1
        clear I hm hb hsz hok hfl c ht
        walk_at "ev") 100000 rows.length [.sh m, .sh (.int (b : Int)), .ow (.lst (intsD [b])), .sh (.int ((0 : Nat) : Int)), .un] ⟨[b], 0, .un, rfl, LInv.begin hb, by simp, by omega⟩ (by omega)
  refine ⟨fs, ?_, I.nd, I.all hle, I.small⟩
  have e : L_L_led_2 [.sh m, .sh (.int (b : Int)), .ow (.lst [.int (b : Int)]), .sh (.int 0), .un] = _ := e
  unfold Φ_L_led F_L_led
  clear I hle hm hb hsz hok
  walk_at "ev"
end Pg
set_option Elab.async false
set_option linter.all false
set_option maxRecDepth 100000
set_option maxHeartbeats 1000000
namespace Pg
open PySem L2 Sb Vl
local macro_rules | `(tactic| walk_at "ev") => `(tactic| simp only [Vl.runV, Vl.mkEnv, Vl.Res.of, Vl.Res.quiet, Vl.Res.val, Vl.ioAt, Vl.fSeq, Vl.fIte, Vl.fAsg, Vl.fVar, Vl.fC, Vl.fOp, Vl.fIxO, Vl.fPutL, Vl.fRet, Vl.fRetW, Vl.fRetO, Vl.fRetN, Vl.fLst, Vl.fTup, Vl.fB, Vl.fTru, Vl.fCB, Vl.fCons, Vl.fNil, Vl.o1, Vl.o2, Vl.oI, Vl.oIC, Vl.slotL, Vl.slotO, Vl.own, Vl.Pat.put, Vl.Pat.puts, Vl.Out.bind, Vl.Out.opt, Vl.fNx, Vl.fCt, Vl.fBk, Vl.fPar, Vl.fCall, Vl.fCallN, Vl.fCallL, Vl.fSetN, Vl.gIo, Vl.gCn, Vl.gNl, Vl.agDs, Vl.agD, Vl.ioSlots, Vl.putAll, Vl.put1, Vl.Ag.isIo, Vl.fAnd, Vl.fOr, Vl.fNot, Vl.fAndT, Vl.fOrT, Vl.fNotT, Vl.fChain, Vl.fIsi, Vl.fIsi2, Vl.fUn, Vl.fDrop, Vl.fApp, Vl.fLenO, Vl.fMake, Vl.fRaise, Vl.fFldS, Vl.fDInO, Vl.fDPutO, Vl.fDGetO, Vl.fPop, Vl.fListD, Vl.fDOne, Vl.fDNewK, Vl.isi, Vl.bOf, Vl.sOf, Vl.fFmt, Vl.fJs, Vl.oFmt, Vl.fM1, Vl.fM0, Vl.fFor, Vl.fItems, Vl.fEnum, Vl.fSl, Vl.fPart, Vl.fNoPart, Vl.fNeg, Vl.fAugI, Vl.fInO, Vl.fYes, Vl.fTruO, Vl.fComp, Vl.fCompO, Vl.calmE, Vl.wipeE, Vl.backE, Vl.oIsN, Vl.oStr, ↓Vl.fRng1_one, Vl.oLen_lst, Vl.oLen_tup, Vl.oLen_ctup, Vl.oLen_scr, Vl.oIx_lst, Vl.oIx_tup, Vl.oIx_ctup, Vl.oIx_scr, Vl.oInt_int, Vl.oInt_bl, Vl.oAbs_int, Vl.oMax_int, Vl.oMin_int, Vl.oTuple_lst, Vl.oTuple_tup, Vl.oList_lst, Vl.oList_tup, Vl.oNeg_int, Vl.ty_non, Vl.ty_bl, Vl.ty_int, Vl.ty_str, Vl.ty_tup, Vl.ty_ctup, Vl.ty_lst, Vl.ty_dk, Vl.ty_scr, Vl.tru_non, Vl.tru_bl, Vl.tru_int, Vl.tru_lst, Vl.tru_tup, Vl.oEqS_int, Vl.oEqS_str, Vl.oEqS_bl, Vl.oCat_lst, Vl.oCatA_tup, Vl.oSlT_tup, Vl.oSlL_lst, Vl.keyOf_int, Vl.keyOf_str, Vl.isNon_non, Vl.isNon_bl, Vl.isNon_int, Vl.isNon_str, Vl.isNon_tup, Vl.isNon_lst, Vl.oFld_ob, Vl.isOb_ob', Vl.atI_0, Vl.atI_1, Vl.atI_2, Vl.atI_3, Vl.ixN_0, Vl.ixN_1, Vl.ixN_2, List.zipWith, List.replicate, List.append, List.cons_append, List.nil_append, List.append_nil, List.getElem?_cons_zero, List.getElem?_cons_succ, List.getElem?_nil, List.set_cons_zero, List.set_cons_succ, List.length_cons, List.length_nil, List.map_cons, List.map_nil, List.nodup_cons, List.nodup_nil, List.not_mem_nil, List.reverse_cons, List.reverse_nil, Bool.false_eq_true, ite_true, ite_false, if_true, if_false, reduceIte, decide_true, decide_false, Bool.true_and, Bool.and_true, Bool.false_and, Bool.and_false, Bool.not_true, Bool.not_false, Bool.or_false, Bool.false_or, Bool.or_true, Bool.true_or, reduceCtorEq, not_false_eq_true, not_true_eq_false, and_self, and_true, true_and, or_false, or_true, Nat.reduceSub, Nat.reduceAdd, Nat.reduceLeDiff, Nat.zero_add, Option.map_some, Option.map_none, Option.bind_some, Option.bind_none, Option.isSome_some, Option.isSome_none, List.mem_cons, List.all_cons, List.all_nil, eq_self, Int.cast_ofNat_Int, Int.natCast_zero, Int.natCast_one, Int.reduceEq, Int.reduceLT, Int.reduceLE, Int.reduceAdd, Int.reduceSub, Int.reduceNeg, Nat.reduceEqDiff, *])
local macro_rules | `(tactic| walk_at "e0") => `(tactic| simp only [Vl.runV, Vl.mkEnv, Vl.Res.of, Vl.Res.quiet, Vl.Res.val, Vl.ioAt, Vl.fSeq, Vl.fIte, Vl.fAsg, Vl.fVar, Vl.fC, Vl.fOp, Vl.fIxO, Vl.fPutL, Vl.fRet, Vl.fRetW, Vl.fRetO, Vl.fRetN, Vl.fLst, Vl.fTup, Vl.fB, Vl.fTru, Vl.fCB, Vl.fCons, Vl.fNil, Vl.o1, Vl.o2, Vl.oI, Vl.oIC, Vl.slotL, Vl.slotO, Vl.own, Vl.Pat.put, Vl.Pat.puts, Vl.Out.bind, Vl.Out.opt, Vl.fNx, Vl.fCt, Vl.fBk, Vl.fPar, Vl.fCall, Vl.fCallN, Vl.fCallL, Vl.fSetN, Vl.gIo, Vl.gCn, Vl.gNl, Vl.agDs, Vl.agD, Vl.ioSlots, Vl.putAll, Vl.put1, Vl.Ag.isIo, Vl.fAnd, Vl.fOr, Vl.fNot, Vl.fAndT, Vl.fOrT, Vl.fNotT, Vl.fChain, Vl.fIsi, Vl.fIsi2, Vl.fUn, Vl.fDrop, Vl.fApp, Vl.fLenO, Vl.fMake, Vl.fRaise, Vl.fFldS, Vl.fDInO, Vl.fDPutO, Vl.fDGetO, Vl.fPop, Vl.fListD, Vl.fDOne, Vl.fDNewK, Vl.isi, Vl.bOf, Vl.sOf, Vl.fFmt, Vl.fJs, Vl.oFmt, Vl.fM1, Vl.fM0, Vl.fFor, Vl.fItems, Vl.fEnum, Vl.fSl, Vl.fPart, Vl.fNoPart, Vl.fNeg, Vl.fAugI, Vl.fInO, Vl.fYes, Vl.fTruO, Vl.fComp, Vl.fCompO, Vl.calmE, Vl.wipeE, Vl.backE, Vl.oIsN, Vl.oStr, ↓Vl.fRng1_one, Vl.oLen_lst, Vl.oLen_tup, Vl.oLen_ctup, Vl.oLen_scr, Vl.oIx_lst, Vl.oIx_tup, Vl.oIx_ctup, Vl.oIx_scr, Vl.oInt_int, Vl.oInt_bl, Vl.oAbs_int, Vl.oMax_int, Vl.oMin_int, Vl.oTuple_lst, Vl.oTuple_tup, Vl.oList_lst, Vl.oList_tup, Vl.oNeg_int, Vl.ty_non, Vl.ty_bl, Vl.ty_int, Vl.ty_str, Vl.ty_tup, Vl.ty_ctup, Vl.ty_lst, Vl.ty_dk, Vl.ty_scr, Vl.tru_non, Vl.tru_bl, Vl.tru_int, Vl.tru_lst, Vl.tru_tup, Vl.oEqS_int, Vl.oEqS_str, Vl.oEqS_bl, Vl.oCat_lst, Vl.oCatA_tup, Vl.oSlT_tup, Vl.oSlL_lst, Vl.keyOf_int, Vl.keyOf_str, Vl.isNon_non, Vl.isNon_bl, Vl.isNon_int, Vl.isNon_str, Vl.isNon_tup, Vl.isNon_lst, Vl.oFld_ob, Vl.isOb_ob', Vl.atI_0, Vl.atI_1, Vl.atI_2, Vl.atI_3, Vl.ixN_0, Vl.ixN_1, Vl.ixN_2, List.zipWith, List.replicate, List.append, List.cons_append, List.nil_append, List.append_nil, List.getElem?_cons_zero, List.getElem?_cons_succ, List.getElem?_nil, List.set_cons_zero, List.set_cons_succ, List.length_cons, List.length_nil, List.map_cons, List.map_nil, List.nodup_cons, List.nodup_nil, List.not_mem_nil, List.reverse_cons, List.reverse_nil, Bool.false_eq_true, ite_true, ite_false, if_true, if_false, reduceIte, decide_true, decide_false, Bool.true_and, Bool.and_true, Bool.false_and, Bool.and_false, Bool.not_true, Bool.not_false, Bool.or_false, Bool.false_or, Bool.or_true, Bool.true_or, reduceCtorEq, not_false_eq_true, not_true_eq_false, and_self, and_true, true_and, or_false, or_true, Nat.reduceSub, Nat.reduceAdd, Nat.reduceLeDiff, Nat.zero_add, Option.map_some, Option.map_none, Option.bind_some, Option.bind_none, Option.isSome_some, Option.isSome_none, List.mem_cons, List.all_cons, List.all_nil, eq_self, Int.cast_ofNat_Int, Int.natCast_zero, Int.natCast_one, Int.reduceEq, Int.reduceLT, Int.reduceLE, Int.reduceAdd, Int.reduceSub, Int.reduceNeg, Nat.reduceEqDiff])
theorem eq_taken {n : Nat} {p : Pl} (hp : p.Ok n hearerWords) : oEq false (plD p) (.str "taken") = some (.bl (decide (p = .word "taken"))) := by
  have e1 : (plD p).eok = true := plD_eok (.inl rfl) hp
  have e2 : (D.str "taken").eok = true := (plD_eokN (n := 0) (.inl rfl) (p := .word "taken") (by simp [Pl.Ok, hearerWords])).eok (by omega)
  unfold oEq
  rw [if_pos (by rw [e1, e2]; rfl)]
  have h := eqv_plD p (.word "taken")
  have h : PyData.eqv (plD p).py (D.str "taken").py = _ := h
  simp only [Bool.false_eq_true, if_false, h]
theorem plD_unTaken (p : Pl) : plD (unTaken p) = if p = .word "taken" then .str "lost" else plD p := by
  cases p with
  | num n => rfl
  | word s =>
    rw [unTaken_word]
    by_cases h : s = "taken"
    · subst h
      rfl
    · have h' : ¬ Pl.word s = .word "taken" := fun z => h (by cases z; rfl)
      rw [if_neg h, if_neg h']
theorem rowsD_set {rs : List Row} {i : Nat} {r : Row} : (rowsD rs).set i (rowD r) = rowsD (rs.set i r) := by simp [rowsD, List.map_set]
theorem rowsD_at {rs : List Row} {i : Nat} {r : Row} (h : rs[i]? = some r) : oIx (.lst (rowsD rs)) (.int (i : Int)) = some (.tup [.int r.put, plD r.a, plD r.b]) := rows_at (.inl rfl) h
theorem ixN_at {n i : Nat} (h : i < n) : ixN n (i : Int) = some i := ixN_ge n i _ rfl h
theorem flat_ints (fs : List Nat) : flatR true (.lst (intsD fs)) = true := by
  unfold flatR intsD
  rw [List.all_eq_true]
  intro d hd
  obtain ⟨i, _, rfl⟩ := List.mem_map.mp hd
  rfl
theorem hearer_step {d : D} {many : Int} {rs : List Row} {j n : Nat} {r : Row} {s4 s5 s6 : Slot} (hr : rs[j]? = some r) (hok : r.Ok n hearerWords) : ∃ t4 t5 t6, B_L_hearer_1 [.io d, .sh (.int many), .ow (.lst (rowsD rs)), .sh (.int (j : Int)), s4, s5, s6] = .val .nx [.io d, .sh (.int many), .ow (.lst (rowsD (rs.set j (unRow r)))), .sh (.int (j : Int)), t4, t5, t6] := by
  refine ⟨.sh (.int r.put), .sh (plD r.a), .sh (plD r.b), ?_⟩
  have h1 := rowsD_at hr
  have h2 := eq_taken hok.2.1
  have h3 := eq_taken hok.2.2
  have h4 : ixN (rowsD rs).length (j : Int) = some j := ixN_at (by rw [rowsD_len]; exact (List.getElem?_eq_some_iff.mp hr).1)
  have h5 : (rowsD rs).set j (.tup [.int r.put, plD (unTaken r.a), plD (unTaken r.b)]) = rowsD (rs.set j (unRow r)) := rowsD_set (r := unRow r)
  rw [plD_unTaken, plD_unTaken] at h5
  clear hok hr
  unfold B_L_hearer_1
  by_cases c1 : r.a = .word "taken" <;> by_cases c2 : r.b = .word "taken"
  · rw [decide_eq_true c1] at h2
    rw [decide_eq_true c2] at h3
    rw [if_pos c1, if_pos c2] at h5
    clear c1 c2
    walk_at "ev"
  · rw [decide_eq_true c1] at h2
    rw [decide_eq_false c2] at h3
    rw [if_pos c1, if_neg c2] at h5
    clear c1 c2
    walk_at "ev"
  · rw [decide_eq_false c1] at h2
    rw [decide_eq_true c2] at h3
    rw [if_neg c1, if_pos c2] at h5
    clear c1 c2
    walk_at "ev"
  · rw [decide_eq_false c1] at h2
    rw [decide_eq_false c2] at h3
    rw [if_neg c1, if_neg c2] at h5
    clear c1 c2
    walk_at "ev"
theorem hearer_ok (k : Int) (many : Nat) (d : D) (hb : BagA k d) (hk : k < 800000) (hm : 2 ≤ many) (hm2 : many ≤ 100) : ∃ rs d', Φ_L_hearer [d, .int (many : Int)] = .ret true (.lst (rowsD rs)) [d', .non] ∧ BagA (k + 3 * many) d' ∧ rs.length = many ∧ HearerOk rs := by
  obtain ⟨rs, d1, e1, hb1, hl, hok⟩ := rows_ok k many "taken" "lost" d hb hk (by omega) (by omega)
  have hok' : ∀ r, r ∈ rs → r.Ok rs.length hearerWords := by rw [hl]; exact hok
  obtain ⟨fs, e2, nd, hall, hsm⟩ := led_ok (m := .lst (rowsD rs)) (rows := rs) (b := 1) (.inl rfl) (by omega) (by omega) hok'
  obtain ⟨env', e3, s3, s4, s5, s6, rfl⟩ := loop_ok (p := .nm 3) (s := B_L_hearer_1) (ds := intsD fs) (fun i env => ∃ s3 s4 s5 s6, env = [.io d1, .sh (.int (many : Int)), .ow (.lst (rowsD (unRows rs (fs.take i)))), s3, s4, s5, s6]) (fun i x env hx hi => by
    obtain ⟨s3, s4, s5, s6, rfl⟩ := hi
    unfold intsD at hx
    rw [List.getElem?_map] at hx
    cases hj : fs[i]? with
    | none =>
      rw [hj] at hx
      cases hx
    | some j =>
      rw [hj] at hx
      cases hx
      have hjl := hsm j (List.mem_of_getElem? hj)
      obtain ⟨r, hr⟩ : ∃ r, (unRows rs (fs.take i))[j]? = some r := ⟨_, List.getElem?_eq_getElem (by rw [unRows_len]; exact hjl)⟩
      have hrok := unRows_ok (is := fs.take i) (by simp [hearerWords]) hok' r (List.mem_of_getElem? hr)
      obtain ⟨s4', s5', s6', e⟩ := hearer_step (d := d1) (many := (many : Int)) (s4 := s4) (s5 := s5) (s6 := s6) hr hrok
      have et : fs.take (i + 1) = fs.take i ++ [j] := by
        rw [List.take_succ, hj]
        rfl
      refine ⟨_, _, rfl, .inl e, .sh (.int (j : Int)), s4', s5', s6', ?_⟩
      rw [et, unRows_snoc, hr]) (env := [.io d1, .sh (.int (many : Int)), .ow (.lst (rowsD rs)), .un, .un, .un, .un]) ⟨.un, .un, .un, .un, by rw [List.take_zero]; rfl⟩
  have et : fs.take (intsD fs).length = fs := by rw [intsD_len, List.take_length]
  rw [et] at e3
  refine ⟨unRows rs fs, d1, ?_, hb1, by rw [unRows_len, hl], by rw [unRows_len]; omega, by rw [unRows_len]; omega, ?_, ?_⟩
  · have hf := flat_ints fs
    have e2 : Φ_L_led [.lst (rowsD rs), .int 1] = _ := e2
    have e1 : Φ_L_rows [d, .int (many : Int), .lst [.str "taken", .str "lost"]] = _ := e1
    unfold Φ_L_hearer F_L_hearer L_L_hearer_1
    clear hb hb1 hl hok hok' nd hall hsm et hk hm hm2
    walk_at "ev"
  · rw [unRows_len]
    exact unRows_ok (by simp [hearerWords]) hok'
  · exact unRows_body fun i hi => (hall i).mpr hi
theorem sender_ok (k : Int) (many : Nat) (d : D) (hb : BagA k d) (hk : k < 800000) (hm : 1 ≤ many) (hm2 : many ≤ 100) : ∃ rs d', Φ_L_sender [d, .int (many : Int)] = .ret true (.lst (rowsD rs)) [d', .non] ∧ BagA (k + 3 * many) d' ∧ rs.length = many ∧ SenderOk rs := by
  obtain ⟨rs, d1, e1, hb1, hl, hok⟩ := rows_ok k many "done" "again" d hb hk hm (by omega)
  refine ⟨rs, d1, ?_, hb1, hl, by omega, by omega, by rw [hl]; exact hok⟩
  have e1 : Φ_L_rows [d, .int (many : Int), .lst [.str "done", .str "again"]] = _ := e1
  unfold Φ_L_sender F_L_sender
  clear hb hb1 hl hok hk hm hm2
  walk_at "ev"
end Pg
set_option Elab.async false
set_option linter.all false
set_option maxRecDepth 100000
set_option maxHeartbeats 1000000
namespace Pg
open PySem L2 Sb Vl
def stepP (rs : List Row) (p : Pl) (b : Bool) : Pl := match p with
  | .num i => match rs[i]? with
    | some r => match b with
      | true => r.b
      | false => r.a
    | none => .num i
  | .word s => .word s
def walkP (rs : List Row) (p : Pl) (w : List Bool) : Pl := w.foldl (stepP rs) p
def seenP (rs : List Row) (p : Pl) : Pl := match p with
  | .num i => .num ((rs[i]?.map Row.put).getD 0)
  | .word s => .word s
def In' (n : Nat) : Pl → Prop
  | .num i => i < n
  | .word _ => True
def Rows' (rs : List Row) : Prop := ∀ r, r ∈ rs → In' rs.length r.a ∧ In' rs.length r.b
theorem In'.of {n : Nat} {ws : List Str} {p : Pl} (h : p.Ok n ws) : In' n p := by
  cases p with
  | num i => exact h
  | word s => trivial
theorem Rows'.of {rs : List Row} {ws : List Str} (h : ∀ r, r ∈ rs → r.Ok rs.length ws) : Rows' rs := fun r hr => ⟨.of (h r hr).2.1, .of (h r hr).2.2⟩
theorem walk_snoc (rs : List Row) (p : Pl) (b : Bool) (w : List Bool) : walkP rs p (w ++ [b]) = stepP rs (walkP rs p w) b := by simp [walkP]
end Pg
set_option Elab.async false
set_option linter.all false
set_option maxRecDepth 100000
set_option maxHeartbeats 1000000
namespace Vl
open PySem L2 Sb
end Vl
namespace Pg
open PySem L2 Sb Vl
def wN (w : List Bool) : Nat := w.foldl (fun n b => 2 * n + b.toNat) 1
theorem wN_snoc (w : List Bool) (b : Bool) : wN (w ++ [b]) = 2 * wN w + b.toNat := by simp [wN]
theorem snoc_rec {P : List Bool → Prop} (h0 : P []) (hs : ∀ w b, P w → P (w ++ [b])) : ∀ w, P w := by
  have : ∀ l : List Bool, P l.reverse := by
    intro l
    induction l with
    | nil => exact h0
    | cons b l ih =>
      rw [List.reverse_cons]
      exact hs _ _ ih
  intro w
  have h := this w.reverse
  rwa [List.reverse_reverse] at h
theorem toNat_lt (b : Bool) : b.toNat < 2 := by cases b <;> decide
theorem wN_len : ∀ w : List Bool, 2 ^ w.length ≤ wN w ∧ wN w < 2 ^ (w.length + 1) := by
  refine snoc_rec ?_ fun w b ih => ?_
  · exact ⟨Nat.le_refl _, by decide⟩
  · have := toNat_lt b
    rw [wN_snoc, List.length_append, List.length_singleton, Nat.pow_succ, Nat.pow_succ]
    rw [Nat.pow_succ] at ih
    omega
theorem wN_pos (w : List Bool) : 0 < wN w := Nat.lt_of_lt_of_le (Nat.pow_pos (by decide)) (wN_len w).1
theorem len_mono {u w : List Bool} (h : wN u ≤ wN w) : u.length ≤ w.length := by
  have h1 := (wN_len u).1
  have h2 := (wN_len w).2
  have h3 : 2 ^ u.length < 2 ^ (w.length + 1) := by omega
  have := (Nat.pow_lt_pow_iff_right (a := 2) (by decide)).mp h3
  omega
theorem snoc_cases (w : List Bool) : w = [] ∨ ∃ u b, w = u ++ [b] := snoc_rec (P := fun w => w = [] ∨ ∃ u b, w = u ++ [b]) (.inl rfl) (fun u b _ => .inr ⟨u, b, rfl⟩) w
theorem wN_inj : ∀ u w : List Bool, wN u = wN w → u = w := by
  refine snoc_rec (fun w h => ?_) fun u b ih w h => ?_
  · rcases snoc_cases w with rfl | ⟨w', c, rfl⟩
    · rfl
    · rw [wN_snoc] at h
      have := wN_pos w'
      have h : 1 = _ := h
      omega
  · rcases snoc_cases w with rfl | ⟨w', c, rfl⟩
    · rw [wN_snoc] at h
      have := wN_pos u
      have h : _ = 1 := h
      omega
    · rw [wN_snoc, wN_snoc] at h
      have h1 := toNat_lt b
      have h2 := toNat_lt c
      have e1 : wN u = wN w' := by omega
      have e2 : b.toNat = c.toNat := by omega
      have e3 : b = c := by
        cases b <;> cases c <;> first | rfl | cases e2
      rw [ih _ e1, e3]
theorem nodup_sub {α : Type} [DecidableEq α] : ∀ {l m : List α}, l.Nodup → (∀ x, x ∈ l → x ∈ m) → l.length ≤ m.length
  | [], _, _, _ => Nat.zero_le _
  | x :: l, m, nd, h => by
    have hx := h x (List.mem_cons_self ..)
    have h1 := List.length_erase_of_mem hx
    have h2 : 0 < m.length := List.length_pos_of_mem hx
    rw [List.nodup_cons] at nd
    have := nodup_sub (l := l) (m := m.erase x) nd.2 fun y hy => (List.mem_erase_of_ne (a := y) (b := x) fun e => nd.1 (by rw [← e]; exact hy)).mpr (h y (List.mem_cons_of_mem _ hy))
    rw [List.length_cons]
    omega
abbrev Pr := Pl × Pl
section
variable {A B : List Row} {x0 : Pr} {ps : List Pr} {ws : List (List Bool)} {a k : Nat}
def stepR (A B : List Row) (x : Pr) (b : Bool) : Pr := (stepP A x.1 b, stepP B x.2 b)
def walkR (A B : List Row) (x : Pr) (w : List Bool) : Pr := (walkP A x.1 w, walkP B x.2 w)
def diffR (A B : List Row) (x : Pr) : Prop := seenP A x.1 ≠ seenP B x.2
theorem walkR_snoc (x : Pr) (w : List Bool) (b : Bool) : walkR A B x (w ++ [b]) = stepR A B (walkR A B x w) b := by
  unfold walkR stepR
  rw [walk_snoc, walk_snoc]
/-- met so far: pairs and the bits to them; a of them are done, and k bits of the next one -/
structure BInv (A B : List Row) (x0 : Pr) (ps : List Pr) (ws : List (List Bool)) (a k : Nat) : Prop where
  len : ps.length = ws.length
  nd : ps.Nodup
  s1 : ps[0]? = some x0
  s2 : ws[0]? = some []
  walk : ∀ (i : Nat) (x : Pr) (w : List Bool), ps[i]? = some x → ws[i]? = some w → walkR A B x0 w = x
  sorted : ∀ (i j : Nat) (u w : List Bool), i < j → ws[i]? = some u → ws[j]? = some w → wN u < wN w
  par : ∀ (j : Nat) (w : List Bool), 0 < j → ws[j]? = some w → ∃ (i : Nat) (u : List Bool) (b : Bool), ws[i]? = some u ∧ w = u ++ [b] ∧ (i < a ∨ i = a ∧ b.toNat < k)
  same : ∀ (i : Nat) (x : Pr), i < a → ps[i]? = some x → ¬ diffR A B x
  clo : ∀ (i : Nat) (x : Pr) (u : List Bool) (b : Bool), ps[i]? = some x → ws[i]? = some u → (i < a ∨ i = a ∧ b.toNat < k) → ∃ (j : Nat) (w : List Bool), ps[j]? = some (stepR A B x b) ∧ ws[j]? = some w ∧ wN w ≤ wN (u ++ [b])
theorem BInv.init : BInv A B x0 [x0] [[]] 0 0 where
  len := rfl
  nd := by simp
  s1 := rfl
  s2 := rfl
  walk := fun i x w h1 h2 => by
    cases i with
    | zero =>
      cases h1
      cases h2
      rfl
    | succ i => cases h1
  sorted := fun i j u w h _ h2 => by
    cases j with
    | zero => exact absurd h (Nat.not_lt_zero _)
    | succ j => cases h2
  par := fun j w h h2 => by
    cases j with
    | zero => exact absurd h (Nat.not_lt_zero _)
    | succ j => cases h2
  same := fun i x h => absurd h (Nat.not_lt_zero _)
  clo := fun i x u b _ _ h => by omega
/-- all bits met are before the next ones -/
theorem BInv.before (I : BInv A B x0 ps ws a k) {u : List Bool} {b : Bool} (hu : ws[a]? = some u) (hk : k = b.toNat) {j : Nat} {w : List Bool} (hw : ws[j]? = some w) : wN w < wN (u ++ [b]) := by
  have hp := wN_pos u
  rw [wN_snoc]
  cases j with
  | zero =>
    rw [I.s2] at hw
    cases hw
    show 1 < _
    omega
  | succ j =>
    obtain ⟨i, v, c, h1, rfl, h2⟩ := I.par _ w (Nat.succ_pos _) hw
    rw [wN_snoc]
    have := toNat_lt c
    rcases h2 with h2 | ⟨h2, h3⟩
    · have := I.sorted i a v u h2 h1 hu
      omega
    · subst h2
      rw [hu] at h1
      cases h1
      omega
theorem app_get {α : Type} {l : List α} {z y : α} {i : Nat} (h : (l ++ [z])[i]? = some y) : (i < l.length ∧ l[i]? = some y) ∨ (i = l.length ∧ y = z) := by
  by_cases c : i < l.length
  · rw [List.getElem?_append_left c] at h
    exact .inl ⟨c, h⟩
  · rw [List.getElem?_append_right (by omega)] at h
    cases hd : i - l.length with
    | zero =>
      rw [hd] at h
      cases h
      exact .inr ⟨by omega, rfl⟩
    | succ m =>
      rw [hd] at h
      cases h
theorem get_lt {α : Type} {l : List α} {y : α} {i : Nat} (h : l[i]? = some y) : i < l.length := (List.getElem?_eq_some_iff.mp h).1
theorem get_app {α : Type} {l m : List α} {y : α} {i : Nat} (h : l[i]? = some y) : (l ++ m)[i]? = some y := by rw [List.getElem?_append_left (get_lt h)]; exact h
theorem get_end {α : Type} {l : List α} {y : α} : (l ++ [y])[l.length]? = some y := by simp
theorem BInv.new (I : BInv A B x0 ps ws a k) {x : Pr} {u : List Bool} {b : Bool} (hx : ps[a]? = some x) (hu : ws[a]? = some u) (hk : k = b.toNat) (hy : stepR A B x b ∉ ps) : BInv A B x0 (ps ++ [stepR A B x b]) (ws ++ [u ++ [b]]) a (k + 1) where
  len := by rw [List.length_append, List.length_append, I.len]; rfl
  nd := by
    rw [List.nodup_append]
    refine ⟨I.nd, by simp, fun c hc d hd => ?_⟩
    have := List.mem_singleton.mp hd
    subst this
    exact fun e => hy (e ▸ hc)
  s1 := get_app I.s1
  s2 := get_app I.s2
  walk := fun i y w h1 h2 => by
    rcases app_get h1 with ⟨g1, g2⟩ | ⟨g1, g2⟩
    · rcases app_get h2 with ⟨g3, g4⟩ | ⟨g3, g4⟩
      · exact I.walk i y w g2 g4
      · have := I.len
        omega
    · rcases app_get h2 with ⟨g3, g4⟩ | ⟨g3, g4⟩
      · have := I.len
        omega
      · subst g2 g4
        rw [walkR_snoc, I.walk a x u hx hu]
  sorted := fun i j v w h h1 h2 => by
    rcases app_get h2 with ⟨g3, g4⟩ | ⟨g3, g4⟩
    · rcases app_get h1 with ⟨g1, g2⟩ | ⟨g1, g2⟩
      · exact I.sorted i j v w h g2 g4
      · omega
    · rcases app_get h1 with ⟨g1, g2⟩ | ⟨g1, g2⟩
      · subst g4
        exact I.before hu hk g2
      · omega
  par := fun j w h1 h2 => by
    rcases app_get h2 with ⟨g1, g2⟩ | ⟨g1, g2⟩
    · obtain ⟨i, v, c, e1, e2, e3⟩ := I.par j w h1 g2
      exact ⟨i, v, c, get_app e1, e2, by omega⟩
    · subst g2
      exact ⟨a, u, b, get_app hu, rfl, .inr ⟨rfl, by omega⟩⟩
  same := fun i y h h1 => by
    rcases app_get h1 with ⟨g1, g2⟩ | ⟨g1, g2⟩
    · exact I.same i y h g2
    · have := get_lt hx
      omega
  clo := fun i y v c h1 h2 h3 => by
    have hla := get_lt hx
    have hl := I.len
    rcases app_get h1 with ⟨g1, g2⟩ | ⟨g1, g2⟩
    · rcases app_get h2 with ⟨g3, g4⟩ | ⟨g3, g4⟩
      · by_cases e : i < a ∨ i = a ∧ c.toNat < k
        · obtain ⟨j, w, e1, e2, e3⟩ := I.clo i y v c g2 g4 e
          exact ⟨j, w, get_app e1, get_app e2, e3⟩
        · have hi : i = a := by omega
          have hc : c.toNat = b.toNat := by omega
          have hc : c = b := by
            cases b <;> cases c <;> first | rfl | cases hc
          subst hi hc
          rw [hx] at g2
          cases g2
          rw [hu] at g4
          cases g4
          refine ⟨ps.length, _, get_end, ?_, Nat.le_refl _⟩
          rw [hl]
          exact get_end
      · omega
    · omega
theorem BInv.next (I : BInv A B x0 ps ws a 2) {x : Pr} (hx : ps[a]? = some x) (hd : ¬ diffR A B x) : BInv A B x0 ps ws (a + 1) 0 :=
  { I with
    par := fun j w h1 h2 => by
      obtain ⟨i, v, c, g1, g2, g3⟩ := I.par j w h1 h2
      exact ⟨i, v, c, g1, g2, by omega⟩
    same := fun i y h h1 => by
      by_cases e : i < a
      · exact I.same i y e h1
      · have : i = a := by omega
        subst this
        rw [hx] at h1
        cases h1
        exact hd
    clo := fun i y v c h1 h2 h3 => I.clo i y v c h1 h2 (by have := toNat_lt c; omega) }
/-- bits before those of the next pair lead to pairs that are done -/
theorem BInv.all (I : BInv A B x0 ps ws a 0) (ha : 0 < a) : ∀ w : List Bool, (∀ j v, a ≤ j → ws[j]? = some v → wN w < wN v) → ∃ i v, i < a ∧ ps[i]? = some (walkR A B x0 w) ∧ ws[i]? = some v ∧ wN v ≤ wN w := by
  refine snoc_rec (fun _ => ⟨0, [], ha, I.s1, I.s2, Nat.le_refl _⟩) fun w b ih h => ?_
  obtain ⟨i, v, h1, h2, h3, h4⟩ := ih fun j v' h1 h2 => by
    have := h j v' h1 h2
    rw [wN_snoc] at this
    omega
  obtain ⟨j, v', g1, g2, g3⟩ := I.clo i _ v b h2 h3 (.inl h1)
  rw [wN_snoc] at g3
  have hle : wN v' ≤ wN (w ++ [b]) := by
    rw [wN_snoc]
    omega
  refine ⟨j, v', ?_, by rw [walkR_snoc]; exact g1, g2, hle⟩
  refine Nat.lt_of_not_le fun hj => ?_
  have := h j v' hj g2
  omega
theorem BInv.none (I : BInv A B x0 ps ws ps.length 0) (w : List Bool) : ¬ diffR A B (walkR A B x0 w) := by
  obtain ⟨i, v, h1, h2, h3, h4⟩ := I.all (get_lt I.s1) w fun j v hj hv => by
    have := get_lt hv
    have := I.len
    omega
  exact I.same i _ h1 h2
end
def LeB (k : Nat) (w : List Bool) (k' : Nat) (w' : List Bool) : Prop := w.length < w'.length ∨ w.length = w'.length ∧ (k < k' ∨ k = k' ∧ wN w ≤ wN w')
def Best (n : Nat) (P : Nat → List Bool → Prop) : Option (Nat × List Bool) → Prop
  | none => ∀ k w, k < n → ¬ P k w
  | some (k, w) => k < n ∧ P k w ∧ ∀ k' w', k' < n → P k' w' → LeB k w k' w'
theorem Best.one {n : Nat} {P : Nat → List Bool → Prop} {r r' : Option (Nat × List Bool)} (h : Best n P r) (h' : Best n P r') : r = r' := by
  cases r with
  | none =>
    cases r' with
    | none => rfl
    | some x => exact absurd h'.2.1 (h _ _ h'.1)
  | some x =>
    cases r' with
    | none => exact absurd h.2.1 (h' _ _ h.1)
    | some y =>
      obtain ⟨k, w⟩ := x
      obtain ⟨k', w'⟩ := y
      have h1 := h.2.2 k' w' h'.1 h'.2.1
      have h2 := h'.2.2 k w h.1 h.2.1
      unfold LeB at h1 h2
      have hk : k = k' := by omega
      have hw : wN w = wN w' := by omega
      rw [hk, wN_inj _ _ hw]
end Pg
set_option Elab.async false
set_option linter.all false
set_option maxRecDepth 100000
set_option maxHeartbeats 4000000
namespace Pg
open PySem L2 Sb Vl
end Pg
set_option Elab.async false
set_option linter.all false
set_option maxRecDepth 100000
set_option maxHeartbeats 1000000
namespace Pg
open PySem L2 Sb Vl
local macro_rules | `(tactic| walk_at "ev") => `(tactic| simp only [Vl.runV, Vl.mkEnv, Vl.Res.of, Vl.Res.quiet, Vl.Res.val, Vl.ioAt, Vl.fSeq, Vl.fIte, Vl.fAsg, Vl.fVar, Vl.fC, Vl.fOp, Vl.fIxO, Vl.fPutL, Vl.fRet, Vl.fRetW, Vl.fRetO, Vl.fRetN, Vl.fLst, Vl.fTup, Vl.fB, Vl.fTru, Vl.fCB, Vl.fCons, Vl.fNil, Vl.o1, Vl.o2, Vl.oI, Vl.oIC, Vl.slotL, Vl.slotO, Vl.own, Vl.Pat.put, Vl.Pat.puts, Vl.Out.bind, Vl.Out.opt, Vl.fNx, Vl.fCt, Vl.fBk, Vl.fPar, Vl.fCall, Vl.fCallN, Vl.fCallL, Vl.fSetN, Vl.gIo, Vl.gCn, Vl.gNl, Vl.agDs, Vl.agD, Vl.ioSlots, Vl.putAll, Vl.put1, Vl.Ag.isIo, Vl.fAnd, Vl.fOr, Vl.fNot, Vl.fAndT, Vl.fOrT, Vl.fNotT, Vl.fChain, Vl.fIsi, Vl.fIsi2, Vl.fUn, Vl.fDrop, Vl.fApp, Vl.fLenO, Vl.fMake, Vl.fRaise, Vl.fFldS, Vl.fDInO, Vl.fDPutO, Vl.fDGetO, Vl.fPop, Vl.fListD, Vl.fDOne, Vl.fDNewK, Vl.isi, Vl.bOf, Vl.sOf, Vl.fFmt, Vl.fJs, Vl.oFmt, Vl.fM1, Vl.fM0, Vl.fFor, Vl.fItems, Vl.fEnum, Vl.fSl, Vl.fPart, Vl.fNoPart, Vl.fNeg, Vl.fAugI, Vl.fInO, Vl.fYes, Vl.fTruO, Vl.fComp, Vl.fCompO, Vl.calmE, Vl.wipeE, Vl.backE, Vl.oIsN, Vl.oStr, Vl.fMakeL, Vl.fCM, Vl.fCMK, Vl.resE, Vl.fItemsS, Vl.fPar3, Vl.fTry2, Vl.hand1, Vl.gK, Vl.gF, Vl.gNil, Vl.gCons, Vl.gTup, Vl.gLst, Vl.gIte, Vl.fSlO, Vl.fStar, Vl.fDOneT, Vl.fDGet2, Vl.fDTwo, Vl.fCallK0, ↓Vl.fRng1_one, Vl.oLen_lst, Vl.oLen_tup, Vl.oLen_ctup, Vl.oLen_scr, Vl.oIx_lst, Vl.oIx_tup, Vl.oIx_ctup, Vl.oIx_scr, Vl.oInt_int, Vl.oInt_bl, Vl.oAbs_int, Vl.oMax_int, Vl.oMin_int, Vl.oTuple_lst, Vl.oTuple_tup, Vl.oList_lst, Vl.oList_tup, Vl.oNeg_int, Vl.ty_non, Vl.ty_bl, Vl.ty_int, Vl.ty_str, Vl.ty_tup, Vl.ty_ctup, Vl.ty_lst, Vl.ty_dk, Vl.ty_scr, Vl.tru_non, Vl.tru_bl, Vl.tru_int, Vl.tru_lst, Vl.tru_tup, Vl.oEqS_int, Vl.oEqS_str, Vl.oEqS_bl, Vl.oCat_lst, Vl.oCatA_tup, Vl.oSlT_tup, Vl.oSlL_lst, Vl.keyOf_int, Vl.keyOf_str, Vl.isNon_non, Vl.isNon_bl, Vl.isNon_int, Vl.isNon_str, Vl.isNon_tup, Vl.isNon_lst, Vl.oFld_ob, Vl.isOb_ob', Vl.atI_0, Vl.atI_1, Vl.atI_2, Vl.atI_3, Vl.ixN_0, Vl.ixN_1, Vl.ixN_2, List.zipWith, List.replicate, List.append, List.cons_append, List.nil_append, List.append_nil, List.getElem?_cons_zero, List.getElem?_cons_succ, List.getElem?_nil, List.set_cons_zero, List.set_cons_succ, List.length_cons, List.length_nil, List.map_cons, List.map_nil, List.nodup_cons, List.nodup_nil, List.not_mem_nil, List.reverse_cons, List.reverse_nil, Bool.false_eq_true, ite_true, ite_false, if_true, if_false, reduceIte, decide_true, decide_false, Bool.true_and, Bool.and_true, Bool.false_and, Bool.and_false, Bool.not_true, Bool.not_false, Bool.or_false, Bool.false_or, Bool.or_true, Bool.true_or, reduceCtorEq, not_false_eq_true, not_true_eq_false, and_self, and_true, true_and, or_false, or_true, Nat.reduceSub, Nat.reduceAdd, Nat.reduceLeDiff, Nat.zero_add, Option.map_some, Option.map_none, Option.bind_some, Option.bind_none, Option.isSome_some, Option.isSome_none, List.mem_cons, List.all_cons, List.all_nil, eq_self, Int.cast_ofNat_Int, Int.natCast_zero, Int.natCast_one, Int.reduceEq, Int.reduceLT, Int.reduceLE, Int.reduceAdd, Int.reduceSub, Int.reduceNeg, Nat.reduceEqDiff, *])
local macro_rules | `(tactic| walk_at "e0") => `(tactic| simp only [Vl.runV, Vl.mkEnv, Vl.Res.of, Vl.Res.quiet, Vl.Res.val, Vl.ioAt, Vl.fSeq, Vl.fIte, Vl.fAsg, Vl.fVar, Vl.fC, Vl.fOp, Vl.fIxO, Vl.fPutL, Vl.fRet, Vl.fRetW, Vl.fRetO, Vl.fRetN, Vl.fLst, Vl.fTup, Vl.fB, Vl.fTru, Vl.fCB, Vl.fCons, Vl.fNil, Vl.o1, Vl.o2, Vl.oI, Vl.oIC, Vl.slotL, Vl.slotO, Vl.own, Vl.Pat.put, Vl.Pat.puts, Vl.Out.bind, Vl.Out.opt, Vl.fNx, Vl.fCt, Vl.fBk, Vl.fPar, Vl.fCall, Vl.fCallN, Vl.fCallL, Vl.fSetN, Vl.gIo, Vl.gCn, Vl.gNl, Vl.agDs, Vl.agD, Vl.ioSlots, Vl.putAll, Vl.put1, Vl.Ag.isIo, Vl.fAnd, Vl.fOr, Vl.fNot, Vl.fAndT, Vl.fOrT, Vl.fNotT, Vl.fChain, Vl.fIsi, Vl.fIsi2, Vl.fUn, Vl.fDrop, Vl.fApp, Vl.fLenO, Vl.fMake, Vl.fRaise, Vl.fFldS, Vl.fDInO, Vl.fDPutO, Vl.fDGetO, Vl.fPop, Vl.fListD, Vl.fDOne, Vl.fDNewK, Vl.isi, Vl.bOf, Vl.sOf, Vl.fFmt, Vl.fJs, Vl.oFmt, Vl.fM1, Vl.fM0, Vl.fFor, Vl.fItems, Vl.fEnum, Vl.fSl, Vl.fPart, Vl.fNoPart, Vl.fNeg, Vl.fAugI, Vl.fInO, Vl.fYes, Vl.fTruO, Vl.fComp, Vl.fCompO, Vl.calmE, Vl.wipeE, Vl.backE, Vl.oIsN, Vl.oStr, Vl.fMakeL, Vl.fCM, Vl.fCMK, Vl.resE, Vl.fItemsS, Vl.fPar3, Vl.fTry2, Vl.hand1, Vl.gK, Vl.gF, Vl.gNil, Vl.gCons, Vl.gTup, Vl.gLst, Vl.gIte, Vl.fSlO, Vl.fStar, Vl.fDOneT, Vl.fDGet2, Vl.fDTwo, Vl.fCallK0, ↓Vl.fRng1_one, Vl.oLen_lst, Vl.oLen_tup, Vl.oLen_ctup, Vl.oLen_scr, Vl.oIx_lst, Vl.oIx_tup, Vl.oIx_ctup, Vl.oIx_scr, Vl.oInt_int, Vl.oInt_bl, Vl.oAbs_int, Vl.oMax_int, Vl.oMin_int, Vl.oTuple_lst, Vl.oTuple_tup, Vl.oList_lst, Vl.oList_tup, Vl.oNeg_int, Vl.ty_non, Vl.ty_bl, Vl.ty_int, Vl.ty_str, Vl.ty_tup, Vl.ty_ctup, Vl.ty_lst, Vl.ty_dk, Vl.ty_scr, Vl.tru_non, Vl.tru_bl, Vl.tru_int, Vl.tru_lst, Vl.tru_tup, Vl.oEqS_int, Vl.oEqS_str, Vl.oEqS_bl, Vl.oCat_lst, Vl.oCatA_tup, Vl.oSlT_tup, Vl.oSlL_lst, Vl.keyOf_int, Vl.keyOf_str, Vl.isNon_non, Vl.isNon_bl, Vl.isNon_int, Vl.isNon_str, Vl.isNon_tup, Vl.isNon_lst, Vl.oFld_ob, Vl.isOb_ob', Vl.atI_0, Vl.atI_1, Vl.atI_2, Vl.atI_3, Vl.ixN_0, Vl.ixN_1, Vl.ixN_2, List.zipWith, List.replicate, List.append, List.cons_append, List.nil_append, List.append_nil, List.getElem?_cons_zero, List.getElem?_cons_succ, List.getElem?_nil, List.set_cons_zero, List.set_cons_succ, List.length_cons, List.length_nil, List.map_cons, List.map_nil, List.nodup_cons, List.nodup_nil, List.not_mem_nil, List.reverse_cons, List.reverse_nil, Bool.false_eq_true, ite_true, ite_false, if_true, if_false, reduceIte, decide_true, decide_false, Bool.true_and, Bool.and_true, Bool.false_and, Bool.and_false, Bool.not_true, Bool.not_false, Bool.or_false, Bool.false_or, Bool.or_true, Bool.true_or, reduceCtorEq, not_false_eq_true, not_true_eq_false, and_self, and_true, true_and, or_false, or_true, Nat.reduceSub, Nat.reduceAdd, Nat.reduceLeDiff, Nat.zero_add, Option.map_some, Option.map_none, Option.bind_some, Option.bind_none, Option.isSome_some, Option.isSome_none, List.mem_cons, List.all_cons, List.all_nil, eq_self, Int.cast_ofNat_Int, Int.natCast_zero, Int.natCast_one, Int.reduceEq, Int.reduceLT, Int.reduceLE, Int.reduceAdd, Int.reduceSub, Int.reduceNeg, Nat.reduceEqDiff])
def seenD (rs : List Row) (p : Pl) : D := match p with
  | .num i => .tup [.str "put", plD (seenP rs (.num i))]
  | .word s => .tup [.str "word", .str s]
end Pg
set_option Elab.async false
set_option linter.all false
set_option maxRecDepth 100000
set_option maxHeartbeats 1000000
namespace Pg
open PySem L2 Sb Vl
local macro_rules | `(tactic| walk_at "ev") => `(tactic| simp only [Vl.runV, Vl.mkEnv, Vl.Res.of, Vl.Res.quiet, Vl.Res.val, Vl.ioAt, Vl.fSeq, Vl.fIte, Vl.fAsg, Vl.fVar, Vl.fC, Vl.fOp, Vl.fIxO, Vl.fPutL, Vl.fRet, Vl.fRetW, Vl.fRetO, Vl.fRetN, Vl.fLst, Vl.fTup, Vl.fB, Vl.fTru, Vl.fCB, Vl.fCons, Vl.fNil, Vl.o1, Vl.o2, Vl.oI, Vl.oIC, Vl.slotL, Vl.slotO, Vl.own, Vl.Pat.put, Vl.Pat.puts, Vl.Out.bind, Vl.Out.opt, Vl.fNx, Vl.fCt, Vl.fBk, Vl.fPar, Vl.fCall, Vl.fCallN, Vl.fCallL, Vl.fSetN, Vl.gIo, Vl.gCn, Vl.gNl, Vl.agDs, Vl.agD, Vl.ioSlots, Vl.putAll, Vl.put1, Vl.Ag.isIo, Vl.fAnd, Vl.fOr, Vl.fNot, Vl.fAndT, Vl.fOrT, Vl.fNotT, Vl.fChain, Vl.fIsi, Vl.fIsi2, Vl.fUn, Vl.fDrop, Vl.fApp, Vl.fLenO, Vl.fMake, Vl.fRaise, Vl.fFldS, Vl.fDInO, Vl.fDPutO, Vl.fDGetO, Vl.fPop, Vl.fListD, Vl.fDOne, Vl.fDNewK, Vl.isi, Vl.bOf, Vl.sOf, Vl.fFmt, Vl.fJs, Vl.oFmt, Vl.fM1, Vl.fM0, Vl.fFor, Vl.fItems, Vl.fEnum, Vl.fSl, Vl.fPart, Vl.fNoPart, Vl.fNeg, Vl.fAugI, Vl.fInO, Vl.fYes, Vl.fTruO, Vl.fComp, Vl.fCompO, Vl.calmE, Vl.wipeE, Vl.backE, Vl.oIsN, Vl.oStr, Vl.fMakeL, Vl.fCM, Vl.fCMK, Vl.resE, Vl.fItemsS, Vl.fPar3, Vl.fTry2, Vl.hand1, Vl.gK, Vl.gF, Vl.gNil, Vl.gCons, Vl.gTup, Vl.gLst, Vl.gIte, Vl.fSlO, Vl.fStar, Vl.fDOneT, Vl.fDGet2, Vl.fDTwo, Vl.fCallK0, ↓Vl.fRng1_one, Vl.oLen_lst, Vl.oLen_tup, Vl.oLen_ctup, Vl.oLen_scr, Vl.oIx_lst, Vl.oIx_tup, Vl.oIx_ctup, Vl.oIx_scr, Vl.oInt_int, Vl.oInt_bl, Vl.oAbs_int, Vl.oMax_int, Vl.oMin_int, Vl.oTuple_lst, Vl.oTuple_tup, Vl.oList_lst, Vl.oList_tup, Vl.oNeg_int, Vl.ty_non, Vl.ty_bl, Vl.ty_int, Vl.ty_str, Vl.ty_tup, Vl.ty_ctup, Vl.ty_lst, Vl.ty_dk, Vl.ty_scr, Vl.tru_non, Vl.tru_bl, Vl.tru_int, Vl.tru_lst, Vl.tru_tup, Vl.oEqS_int, Vl.oEqS_str, Vl.oEqS_bl, Vl.oCat_lst, Vl.oCatA_tup, Vl.oSlT_tup, Vl.oSlL_lst, Vl.keyOf_int, Vl.keyOf_str, Vl.isNon_non, Vl.isNon_bl, Vl.isNon_int, Vl.isNon_str, Vl.isNon_tup, Vl.isNon_lst, Vl.oFld_ob, Vl.isOb_ob', Vl.atI_0, Vl.atI_1, Vl.atI_2, Vl.atI_3, Vl.ixN_0, Vl.ixN_1, Vl.ixN_2, List.zipWith, List.replicate, List.append, List.cons_append, List.nil_append, List.append_nil, List.getElem?_cons_zero, List.getElem?_cons_succ, List.getElem?_nil, List.set_cons_zero, List.set_cons_succ, List.length_cons, List.length_nil, List.map_cons, List.map_nil, List.nodup_cons, List.nodup_nil, List.not_mem_nil, List.reverse_cons, List.reverse_nil, Bool.false_eq_true, ite_true, ite_false, if_true, if_false, reduceIte, decide_true, decide_false, Bool.true_and, Bool.and_true, Bool.false_and, Bool.and_false, Bool.not_true, Bool.not_false, Bool.or_false, Bool.false_or, Bool.or_true, Bool.true_or, reduceCtorEq, not_false_eq_true, not_true_eq_false, and_self, and_true, true_and, or_false, or_true, Nat.reduceSub, Nat.reduceAdd, Nat.reduceLeDiff, Nat.zero_add, Option.map_some, Option.map_none, Option.bind_some, Option.bind_none, Option.isSome_some, Option.isSome_none, List.mem_cons, List.all_cons, List.all_nil, eq_self, Int.cast_ofNat_Int, Int.natCast_zero, Int.natCast_one, Int.reduceEq, Int.reduceLT, Int.reduceLE, Int.reduceAdd, Int.reduceSub, Int.reduceNeg, Nat.reduceEqDiff, *])
local macro_rules | `(tactic| walk_at "e0") => `(tactic| simp only [Vl.runV, Vl.mkEnv, Vl.Res.of, Vl.Res.quiet, Vl.Res.val, Vl.ioAt, Vl.fSeq, Vl.fIte, Vl.fAsg, Vl.fVar, Vl.fC, Vl.fOp, Vl.fIxO, Vl.fPutL, Vl.fRet, Vl.fRetW, Vl.fRetO, Vl.fRetN, Vl.fLst, Vl.fTup, Vl.fB, Vl.fTru, Vl.fCB, Vl.fCons, Vl.fNil, Vl.o1, Vl.o2, Vl.oI, Vl.oIC, Vl.slotL, Vl.slotO, Vl.own, Vl.Pat.put, Vl.Pat.puts, Vl.Out.bind, Vl.Out.opt, Vl.fNx, Vl.fCt, Vl.fBk, Vl.fPar, Vl.fCall, Vl.fCallN, Vl.fCallL, Vl.fSetN, Vl.gIo, Vl.gCn, Vl.gNl, Vl.agDs, Vl.agD, Vl.ioSlots, Vl.putAll, Vl.put1, Vl.Ag.isIo, Vl.fAnd, Vl.fOr, Vl.fNot, Vl.fAndT, Vl.fOrT, Vl.fNotT, Vl.fChain, Vl.fIsi, Vl.fIsi2, Vl.fUn, Vl.fDrop, Vl.fApp, Vl.fLenO, Vl.fMake, Vl.fRaise, Vl.fFldS, Vl.fDInO, Vl.fDPutO, Vl.fDGetO, Vl.fPop, Vl.fListD, Vl.fDOne, Vl.fDNewK, Vl.isi, Vl.bOf, Vl.sOf, Vl.fFmt, Vl.fJs, Vl.oFmt, Vl.fM1, Vl.fM0, Vl.fFor, Vl.fItems, Vl.fEnum, Vl.fSl, Vl.fPart, Vl.fNoPart, Vl.fNeg, Vl.fAugI, Vl.fInO, Vl.fYes, Vl.fTruO, Vl.fComp, Vl.fCompO, Vl.calmE, Vl.wipeE, Vl.backE, Vl.oIsN, Vl.oStr, Vl.fMakeL, Vl.fCM, Vl.fCMK, Vl.resE, Vl.fItemsS, Vl.fPar3, Vl.fTry2, Vl.hand1, Vl.gK, Vl.gF, Vl.gNil, Vl.gCons, Vl.gTup, Vl.gLst, Vl.gIte, Vl.fSlO, Vl.fStar, Vl.fDOneT, Vl.fDGet2, Vl.fDTwo, Vl.fCallK0, ↓Vl.fRng1_one, Vl.oLen_lst, Vl.oLen_tup, Vl.oLen_ctup, Vl.oLen_scr, Vl.oIx_lst, Vl.oIx_tup, Vl.oIx_ctup, Vl.oIx_scr, Vl.oInt_int, Vl.oInt_bl, Vl.oAbs_int, Vl.oMax_int, Vl.oMin_int, Vl.oTuple_lst, Vl.oTuple_tup, Vl.oList_lst, Vl.oList_tup, Vl.oNeg_int, Vl.ty_non, Vl.ty_bl, Vl.ty_int, Vl.ty_str, Vl.ty_tup, Vl.ty_ctup, Vl.ty_lst, Vl.ty_dk, Vl.ty_scr, Vl.tru_non, Vl.tru_bl, Vl.tru_int, Vl.tru_lst, Vl.tru_tup, Vl.oEqS_int, Vl.oEqS_str, Vl.oEqS_bl, Vl.oCat_lst, Vl.oCatA_tup, Vl.oSlT_tup, Vl.oSlL_lst, Vl.keyOf_int, Vl.keyOf_str, Vl.isNon_non, Vl.isNon_bl, Vl.isNon_int, Vl.isNon_str, Vl.isNon_tup, Vl.isNon_lst, Vl.oFld_ob, Vl.isOb_ob', Vl.atI_0, Vl.atI_1, Vl.atI_2, Vl.atI_3, Vl.ixN_0, Vl.ixN_1, Vl.ixN_2, List.zipWith, List.replicate, List.append, List.cons_append, List.nil_append, List.append_nil, List.getElem?_cons_zero, List.getElem?_cons_succ, List.getElem?_nil, List.set_cons_zero, List.set_cons_succ, List.length_cons, List.length_nil, List.map_cons, List.map_nil, List.nodup_cons, List.nodup_nil, List.not_mem_nil, List.reverse_cons, List.reverse_nil, Bool.false_eq_true, ite_true, ite_false, if_true, if_false, reduceIte, decide_true, decide_false, Bool.true_and, Bool.and_true, Bool.false_and, Bool.and_false, Bool.not_true, Bool.not_false, Bool.or_false, Bool.false_or, Bool.or_true, Bool.true_or, reduceCtorEq, not_false_eq_true, not_true_eq_false, and_self, and_true, true_and, or_false, or_true, Nat.reduceSub, Nat.reduceAdd, Nat.reduceLeDiff, Nat.zero_add, Option.map_some, Option.map_none, Option.bind_some, Option.bind_none, Option.isSome_some, Option.isSome_none, List.mem_cons, List.all_cons, List.all_nil, eq_self, Int.cast_ofNat_Int, Int.natCast_zero, Int.natCast_one, Int.reduceEq, Int.reduceLT, Int.reduceLE, Int.reduceAdd, Int.reduceSub, Int.reduceNeg, Nat.reduceEqDiff])
end Pg
set_option Elab.async false
set_option linter.all false
set_option maxRecDepth 100000
set_option maxHeartbeats 1000000
namespace Pg
open PySem L2 Sb Vl
local macro_rules | `(tactic| walk_at "ev") => `(tactic| simp only [Vl.runV, Vl.mkEnv, Vl.Res.of, Vl.Res.quiet, Vl.Res.val, Vl.ioAt, Vl.fSeq, Vl.fIte, Vl.fAsg, Vl.fVar, Vl.fC, Vl.fOp, Vl.fIxO, Vl.fPutL, Vl.fRet, Vl.fRetW, Vl.fRetO, Vl.fRetN, Vl.fLst, Vl.fTup, Vl.fB, Vl.fTru, Vl.fCB, Vl.fCons, Vl.fNil, Vl.o1, Vl.o2, Vl.oI, Vl.oIC, Vl.slotL, Vl.slotO, Vl.own, Vl.Pat.put, Vl.Pat.puts, Vl.Out.bind, Vl.Out.opt, Vl.fNx, Vl.fCt, Vl.fBk, Vl.fPar, Vl.fCall, Vl.fCallN, Vl.fCallL, Vl.fSetN, Vl.gIo, Vl.gCn, Vl.gNl, Vl.agDs, Vl.agD, Vl.ioSlots, Vl.putAll, Vl.put1, Vl.Ag.isIo, Vl.fAnd, Vl.fOr, Vl.fNot, Vl.fAndT, Vl.fOrT, Vl.fNotT, Vl.fChain, Vl.fIsi, Vl.fIsi2, Vl.fUn, Vl.fDrop, Vl.fApp, Vl.fLenO, Vl.fMake, Vl.fRaise, Vl.fFldS, Vl.fDInO, Vl.fDPutO, Vl.fDGetO, Vl.fPop, Vl.fListD, Vl.fDOne, Vl.fDNewK, Vl.isi, Vl.bOf, Vl.sOf, Vl.fFmt, Vl.fJs, Vl.oFmt, Vl.fM1, Vl.fM0, Vl.fFor, Vl.fItems, Vl.fEnum, Vl.fSl, Vl.fPart, Vl.fNoPart, Vl.fNeg, Vl.fAugI, Vl.fInO, Vl.fYes, Vl.fTruO, Vl.fComp, Vl.fCompO, Vl.calmE, Vl.wipeE, Vl.backE, Vl.oIsN, Vl.oStr, Vl.fMakeL, Vl.fCM, Vl.fCMK, Vl.resE, Vl.fItemsS, Vl.fPar3, Vl.fTry2, Vl.hand1, Vl.gK, Vl.gF, Vl.gNil, Vl.gCons, Vl.gTup, Vl.gLst, Vl.gIte, Vl.fSlO, Vl.fStar, Vl.fDOneT, Vl.fDGet2, Vl.fDTwo, Vl.fCallK0, ↓Vl.fRng1_one, Vl.oLen_lst, Vl.oLen_tup, Vl.oLen_ctup, Vl.oLen_scr, Vl.oIx_lst, Vl.oIx_tup, Vl.oIx_ctup, Vl.oIx_scr, Vl.oInt_int, Vl.oInt_bl, Vl.oAbs_int, Vl.oMax_int, Vl.oMin_int, Vl.oTuple_lst, Vl.oTuple_tup, Vl.oList_lst, Vl.oList_tup, Vl.oNeg_int, Vl.ty_non, Vl.ty_bl, Vl.ty_int, Vl.ty_str, Vl.ty_tup, Vl.ty_ctup, Vl.ty_lst, Vl.ty_dk, Vl.ty_scr, Vl.tru_non, Vl.tru_bl, Vl.tru_int, Vl.tru_lst, Vl.tru_tup, Vl.oEqS_int, Vl.oEqS_str, Vl.oEqS_bl, Vl.oCat_lst, Vl.oCatA_tup, Vl.oSlT_tup, Vl.oSlL_lst, Vl.keyOf_int, Vl.keyOf_str, Vl.isNon_non, Vl.isNon_bl, Vl.isNon_int, Vl.isNon_str, Vl.isNon_tup, Vl.isNon_lst, Vl.oFld_ob, Vl.isOb_ob', Vl.atI_0, Vl.atI_1, Vl.atI_2, Vl.atI_3, Vl.ixN_0, Vl.ixN_1, Vl.ixN_2, List.zipWith, List.replicate, List.append, List.cons_append, List.nil_append, List.append_nil, List.getElem?_cons_zero, List.getElem?_cons_succ, List.getElem?_nil, List.set_cons_zero, List.set_cons_succ, List.length_cons, List.length_nil, List.map_cons, List.map_nil, List.nodup_cons, List.nodup_nil, List.not_mem_nil, List.reverse_cons, List.reverse_nil, Bool.false_eq_true, ite_true, ite_false, if_true, if_false, reduceIte, decide_true, decide_false, Bool.true_and, Bool.and_true, Bool.false_and, Bool.and_false, Bool.not_true, Bool.not_false, Bool.or_false, Bool.false_or, Bool.or_true, Bool.true_or, reduceCtorEq, not_false_eq_true, not_true_eq_false, and_self, and_true, true_and, or_false, or_true, Nat.reduceSub, Nat.reduceAdd, Nat.reduceLeDiff, Nat.zero_add, Option.map_some, Option.map_none, Option.bind_some, Option.bind_none, Option.isSome_some, Option.isSome_none, List.mem_cons, List.all_cons, List.all_nil, eq_self, Int.cast_ofNat_Int, Int.natCast_zero, Int.natCast_one, Int.reduceEq, Int.reduceLT, Int.reduceLE, Int.reduceAdd, Int.reduceSub, Int.reduceNeg, Nat.reduceEqDiff, *])
local macro_rules | `(tactic| walk_at "e0") => `(tactic| simp only [Vl.runV, Vl.mkEnv, Vl.Res.of, Vl.Res.quiet, Vl.Res.val, Vl.ioAt, Vl.fSeq, Vl.fIte, Vl.fAsg, Vl.fVar, Vl.fC, Vl.fOp, Vl.fIxO, Vl.fPutL, Vl.fRet, Vl.fRetW, Vl.fRetO, Vl.fRetN, Vl.fLst, Vl.fTup, Vl.fB, Vl.fTru, Vl.fCB, Vl.fCons, Vl.fNil, Vl.o1, Vl.o2, Vl.oI, Vl.oIC, Vl.slotL, Vl.slotO, Vl.own, Vl.Pat.put, Vl.Pat.puts, Vl.Out.bind, Vl.Out.opt, Vl.fNx, Vl.fCt, Vl.fBk, Vl.fPar, Vl.fCall, Vl.fCallN, Vl.fCallL, Vl.fSetN, Vl.gIo, Vl.gCn, Vl.gNl, Vl.agDs, Vl.agD, Vl.ioSlots, Vl.putAll, Vl.put1, Vl.Ag.isIo, Vl.fAnd, Vl.fOr, Vl.fNot, Vl.fAndT, Vl.fOrT, Vl.fNotT, Vl.fChain, Vl.fIsi, Vl.fIsi2, Vl.fUn, Vl.fDrop, Vl.fApp, Vl.fLenO, Vl.fMake, Vl.fRaise, Vl.fFldS, Vl.fDInO, Vl.fDPutO, Vl.fDGetO, Vl.fPop, Vl.fListD, Vl.fDOne, Vl.fDNewK, Vl.isi, Vl.bOf, Vl.sOf, Vl.fFmt, Vl.fJs, Vl.oFmt, Vl.fM1, Vl.fM0, Vl.fFor, Vl.fItems, Vl.fEnum, Vl.fSl, Vl.fPart, Vl.fNoPart, Vl.fNeg, Vl.fAugI, Vl.fInO, Vl.fYes, Vl.fTruO, Vl.fComp, Vl.fCompO, Vl.calmE, Vl.wipeE, Vl.backE, Vl.oIsN, Vl.oStr, Vl.fMakeL, Vl.fCM, Vl.fCMK, Vl.resE, Vl.fItemsS, Vl.fPar3, Vl.fTry2, Vl.hand1, Vl.gK, Vl.gF, Vl.gNil, Vl.gCons, Vl.gTup, Vl.gLst, Vl.gIte, Vl.fSlO, Vl.fStar, Vl.fDOneT, Vl.fDGet2, Vl.fDTwo, Vl.fCallK0, ↓Vl.fRng1_one, Vl.oLen_lst, Vl.oLen_tup, Vl.oLen_ctup, Vl.oLen_scr, Vl.oIx_lst, Vl.oIx_tup, Vl.oIx_ctup, Vl.oIx_scr, Vl.oInt_int, Vl.oInt_bl, Vl.oAbs_int, Vl.oMax_int, Vl.oMin_int, Vl.oTuple_lst, Vl.oTuple_tup, Vl.oList_lst, Vl.oList_tup, Vl.oNeg_int, Vl.ty_non, Vl.ty_bl, Vl.ty_int, Vl.ty_str, Vl.ty_tup, Vl.ty_ctup, Vl.ty_lst, Vl.ty_dk, Vl.ty_scr, Vl.tru_non, Vl.tru_bl, Vl.tru_int, Vl.tru_lst, Vl.tru_tup, Vl.oEqS_int, Vl.oEqS_str, Vl.oEqS_bl, Vl.oCat_lst, Vl.oCatA_tup, Vl.oSlT_tup, Vl.oSlL_lst, Vl.keyOf_int, Vl.keyOf_str, Vl.isNon_non, Vl.isNon_bl, Vl.isNon_int, Vl.isNon_str, Vl.isNon_tup, Vl.isNon_lst, Vl.oFld_ob, Vl.isOb_ob', Vl.atI_0, Vl.atI_1, Vl.atI_2, Vl.atI_3, Vl.ixN_0, Vl.ixN_1, Vl.ixN_2, List.zipWith, List.replicate, List.append, List.cons_append, List.nil_append, List.append_nil, List.getElem?_cons_zero, List.getElem?_cons_succ, List.getElem?_nil, List.set_cons_zero, List.set_cons_succ, List.length_cons, List.length_nil, List.map_cons, List.map_nil, List.nodup_cons, List.nodup_nil, List.not_mem_nil, List.reverse_cons, List.reverse_nil, Bool.false_eq_true, ite_true, ite_false, if_true, if_false, reduceIte, decide_true, decide_false, Bool.true_and, Bool.and_true, Bool.false_and, Bool.and_false, Bool.not_true, Bool.not_false, Bool.or_false, Bool.false_or, Bool.or_true, Bool.true_or, reduceCtorEq, not_false_eq_true, not_true_eq_false, and_self, and_true, true_and, or_false, or_true, Nat.reduceSub, Nat.reduceAdd, Nat.reduceLeDiff, Nat.zero_add, Option.map_some, Option.map_none, Option.bind_some, Option.bind_none, Option.isSome_some, Option.isSome_none, List.mem_cons, List.all_cons, List.all_nil, eq_self, Int.cast_ofNat_Int, Int.natCast_zero, Int.natCast_one, Int.reduceEq, Int.reduceLT, Int.reduceLE, Int.reduceAdd, Int.reduceSub, Int.reduceNeg, Nat.reduceEqDiff])
end Pg
set_option Elab.async false
set_option linter.all false
set_option maxRecDepth 100000
set_option maxHeartbeats 1000000
namespace Pg
open PySem L2 Sb Vl
local macro_rules | `(tactic| walk_at "ev") => `(tactic| simp only [Vl.runV, Vl.mkEnv, Vl.Res.of, Vl.Res.quiet, Vl.Res.val, Vl.ioAt, Vl.fSeq, Vl.fIte, Vl.fAsg, Vl.fVar, Vl.fC, Vl.fOp, Vl.fIxO, Vl.fPutL, Vl.fRet, Vl.fRetW, Vl.fRetO, Vl.fRetN, Vl.fLst, Vl.fTup, Vl.fB, Vl.fTru, Vl.fCB, Vl.fCons, Vl.fNil, Vl.o1, Vl.o2, Vl.oI, Vl.oIC, Vl.slotL, Vl.slotO, Vl.own, Vl.Pat.put, Vl.Pat.puts, Vl.Out.bind, Vl.Out.opt, Vl.fNx, Vl.fCt, Vl.fBk, Vl.fPar, Vl.fCall, Vl.fCallN, Vl.fCallL, Vl.fSetN, Vl.gIo, Vl.gCn, Vl.gNl, Vl.agDs, Vl.agD, Vl.ioSlots, Vl.putAll, Vl.put1, Vl.Ag.isIo, Vl.fAnd, Vl.fOr, Vl.fNot, Vl.fAndT, Vl.fOrT, Vl.fNotT, Vl.fChain, Vl.fIsi, Vl.fIsi2, Vl.fUn, Vl.fDrop, Vl.fApp, Vl.fLenO, Vl.fMake, Vl.fRaise, Vl.fFldS, Vl.fDInO, Vl.fDPutO, Vl.fDGetO, Vl.fPop, Vl.fListD, Vl.fDOne, Vl.fDNewK, Vl.isi, Vl.bOf, Vl.sOf, Vl.fFmt, Vl.fJs, Vl.oFmt, Vl.fM1, Vl.fM0, Vl.fFor, Vl.fItems, Vl.fEnum, Vl.fSl, Vl.fPart, Vl.fNoPart, Vl.fNeg, Vl.fAugI, Vl.fInO, Vl.fYes, Vl.fTruO, Vl.fComp, Vl.fCompO, Vl.calmE, Vl.wipeE, Vl.backE, Vl.oIsN, Vl.oStr, Vl.fMakeL, Vl.fCM, Vl.fCMK, Vl.resE, Vl.fItemsS, Vl.fPar3, Vl.fTry2, Vl.hand1, Vl.gK, Vl.gF, Vl.gNil, Vl.gCons, Vl.gTup, Vl.gLst, Vl.gIte, Vl.fSlO, Vl.fStar, Vl.fDOneT, Vl.fDGet2, Vl.fDTwo, Vl.fCallK0, ↓Vl.fRng1_one, Vl.oLen_lst, Vl.oLen_tup, Vl.oLen_ctup, Vl.oLen_scr, Vl.oIx_lst, Vl.oIx_tup, Vl.oIx_ctup, Vl.oIx_scr, Vl.oInt_int, Vl.oInt_bl, Vl.oAbs_int, Vl.oMax_int, Vl.oMin_int, Vl.oTuple_lst, Vl.oTuple_tup, Vl.oList_lst, Vl.oList_tup, Vl.oNeg_int, Vl.ty_non, Vl.ty_bl, Vl.ty_int, Vl.ty_str, Vl.ty_tup, Vl.ty_ctup, Vl.ty_lst, Vl.ty_dk, Vl.ty_scr, Vl.tru_non, Vl.tru_bl, Vl.tru_int, Vl.tru_lst, Vl.tru_tup, Vl.oEqS_int, Vl.oEqS_str, Vl.oEqS_bl, Vl.oCat_lst, Vl.oCatA_tup, Vl.oSlT_tup, Vl.oSlL_lst, Vl.keyOf_int, Vl.keyOf_str, Vl.isNon_non, Vl.isNon_bl, Vl.isNon_int, Vl.isNon_str, Vl.isNon_tup, Vl.isNon_lst, Vl.oFld_ob, Vl.isOb_ob', Vl.atI_0, Vl.atI_1, Vl.atI_2, Vl.atI_3, Vl.ixN_0, Vl.ixN_1, Vl.ixN_2, List.zipWith, List.replicate, List.append, List.cons_append, List.nil_append, List.append_nil, List.getElem?_cons_zero, List.getElem?_cons_succ, List.getElem?_nil, List.set_cons_zero, List.set_cons_succ, List.length_cons, List.length_nil, List.map_cons, List.map_nil, List.nodup_cons, List.nodup_nil, List.not_mem_nil, List.reverse_cons, List.reverse_nil, Bool.false_eq_true, ite_true, ite_false, if_true, if_false, reduceIte, decide_true, decide_false, Bool.true_and, Bool.and_true, Bool.false_and, Bool.and_false, Bool.not_true, Bool.not_false, Bool.or_false, Bool.false_or, Bool.or_true, Bool.true_or, reduceCtorEq, not_false_eq_true, not_true_eq_false, and_self, and_true, true_and, or_false, or_true, Nat.reduceSub, Nat.reduceAdd, Nat.reduceLeDiff, Nat.zero_add, Option.map_some, Option.map_none, Option.bind_some, Option.bind_none, Option.isSome_some, Option.isSome_none, List.mem_cons, List.all_cons, List.all_nil, eq_self, Int.cast_ofNat_Int, Int.natCast_zero, Int.natCast_one, Int.reduceEq, Int.reduceLT, Int.reduceLE, Int.reduceAdd, Int.reduceSub, Int.reduceNeg, Nat.reduceEqDiff, *])
local macro_rules | `(tactic| walk_at "e0") => `(tactic| simp only [Vl.runV, Vl.mkEnv, Vl.Res.of, Vl.Res.quiet, Vl.Res.val, Vl.ioAt, Vl.fSeq, Vl.fIte, Vl.fAsg, Vl.fVar, Vl.fC, Vl.fOp, Vl.fIxO, Vl.fPutL, Vl.fRet, Vl.fRetW, Vl.fRetO, Vl.fRetN, Vl.fLst, Vl.fTup, Vl.fB, Vl.fTru, Vl.fCB, Vl.fCons, Vl.fNil, Vl.o1, Vl.o2, Vl.oI, Vl.oIC, Vl.slotL, Vl.slotO, Vl.own, Vl.Pat.put, Vl.Pat.puts, Vl.Out.bind, Vl.Out.opt, Vl.fNx, Vl.fCt, Vl.fBk, Vl.fPar, Vl.fCall, Vl.fCallN, Vl.fCallL, Vl.fSetN, Vl.gIo, Vl.gCn, Vl.gNl, Vl.agDs, Vl.agD, Vl.ioSlots, Vl.putAll, Vl.put1, Vl.Ag.isIo, Vl.fAnd, Vl.fOr, Vl.fNot, Vl.fAndT, Vl.fOrT, Vl.fNotT, Vl.fChain, Vl.fIsi, Vl.fIsi2, Vl.fUn, Vl.fDrop, Vl.fApp, Vl.fLenO, Vl.fMake, Vl.fRaise, Vl.fFldS, Vl.fDInO, Vl.fDPutO, Vl.fDGetO, Vl.fPop, Vl.fListD, Vl.fDOne, Vl.fDNewK, Vl.isi, Vl.bOf, Vl.sOf, Vl.fFmt, Vl.fJs, Vl.oFmt, Vl.fM1, Vl.fM0, Vl.fFor, Vl.fItems, Vl.fEnum, Vl.fSl, Vl.fPart, Vl.fNoPart, Vl.fNeg, Vl.fAugI, Vl.fInO, Vl.fYes, Vl.fTruO, Vl.fComp, Vl.fCompO, Vl.calmE, Vl.wipeE, Vl.backE, Vl.oIsN, Vl.oStr, Vl.fMakeL, Vl.fCM, Vl.fCMK, Vl.resE, Vl.fItemsS, Vl.fPar3, Vl.fTry2, Vl.hand1, Vl.gK, Vl.gF, Vl.gNil, Vl.gCons, Vl.gTup, Vl.gLst, Vl.gIte, Vl.fSlO, Vl.fStar, Vl.fDOneT, Vl.fDGet2, Vl.fDTwo, Vl.fCallK0, ↓Vl.fRng1_one, Vl.oLen_lst, Vl.oLen_tup, Vl.oLen_ctup, Vl.oLen_scr, Vl.oIx_lst, Vl.oIx_tup, Vl.oIx_ctup, Vl.oIx_scr, Vl.oInt_int, Vl.oInt_bl, Vl.oAbs_int, Vl.oMax_int, Vl.oMin_int, Vl.oTuple_lst, Vl.oTuple_tup, Vl.oList_lst, Vl.oList_tup, Vl.oNeg_int, Vl.ty_non, Vl.ty_bl, Vl.ty_int, Vl.ty_str, Vl.ty_tup, Vl.ty_ctup, Vl.ty_lst, Vl.ty_dk, Vl.ty_scr, Vl.tru_non, Vl.tru_bl, Vl.tru_int, Vl.tru_lst, Vl.tru_tup, Vl.oEqS_int, Vl.oEqS_str, Vl.oEqS_bl, Vl.oCat_lst, Vl.oCatA_tup, Vl.oSlT_tup, Vl.oSlL_lst, Vl.keyOf_int, Vl.keyOf_str, Vl.isNon_non, Vl.isNon_bl, Vl.isNon_int, Vl.isNon_str, Vl.isNon_tup, Vl.isNon_lst, Vl.oFld_ob, Vl.isOb_ob', Vl.atI_0, Vl.atI_1, Vl.atI_2, Vl.atI_3, Vl.ixN_0, Vl.ixN_1, Vl.ixN_2, List.zipWith, List.replicate, List.append, List.cons_append, List.nil_append, List.append_nil, List.getElem?_cons_zero, List.getElem?_cons_succ, List.getElem?_nil, List.set_cons_zero, List.set_cons_succ, List.length_cons, List.length_nil, List.map_cons, List.map_nil, List.nodup_cons, List.nodup_nil, List.not_mem_nil, List.reverse_cons, List.reverse_nil, Bool.false_eq_true, ite_true, ite_false, if_true, if_false, reduceIte, decide_true, decide_false, Bool.true_and, Bool.and_true, Bool.false_and, Bool.and_false, Bool.not_true, Bool.not_false, Bool.or_false, Bool.false_or, Bool.or_true, Bool.true_or, reduceCtorEq, not_false_eq_true, not_true_eq_false, and_self, and_true, true_and, or_false, or_true, Nat.reduceSub, Nat.reduceAdd, Nat.reduceLeDiff, Nat.zero_add, Option.map_some, Option.map_none, Option.bind_some, Option.bind_none, Option.isSome_some, Option.isSome_none, List.mem_cons, List.all_cons, List.all_nil, eq_self, Int.cast_ofNat_Int, Int.natCast_zero, Int.natCast_one, Int.reduceEq, Int.reduceLT, Int.reduceLE, Int.reduceAdd, Int.reduceSub, Int.reduceNeg, Nat.reduceEqDiff])
abbrev En := List Row × List Row
def eD (E : En) : D := endD E.1 E.2
theorem LeB.of {k : Nat} {w w' : List Bool} (h : wN w ≤ wN w') : LeB k w k w' := by
  have := len_mono h
  unfold LeB
  omega
theorem LeB.trans {k k' k'' : Nat} {w w' w'' : List Bool} (h : LeB k w k' w') (h' : LeB k' w' k'' w'') : LeB k w k'' w'' := by
  unfold LeB at *
  omega
theorem Best.skip {P : Nat → List Bool → Prop} {k : Nat} {r : Option (Nat × List Bool)} (h : Best k P r) (hn : ∀ w, ¬ P k w) : Best (k + 1) P r := by
  cases r with
  | none =>
    intro j w hj
    by_cases c : j = k
    · subst c
      exact hn w
    · exact h j w (by omega)
  | some x =>
    obtain ⟨s, u⟩ := x
    refine ⟨Nat.lt_succ_of_lt h.1, h.2.1, fun j w hj hp => ?_⟩
    by_cases c : j = k
    · subst c
      exact absurd hp (hn w)
    · exact h.2.2 j w (by omega) hp
theorem Best.keep {P : Nat → List Bool → Prop} {k s : Nat} {w u : List Bool} (h : Best k P (some (s, u))) (hm : ∀ w', P k w' → wN w ≤ wN w') (hl : ¬ w.length < u.length) : Best (k + 1) P (some (s, u)) := by
  refine ⟨Nat.lt_succ_of_lt h.1, h.2.1, fun j w' hj hp => ?_⟩
  by_cases c : j = k
  · subst c
    have h1 := len_mono (hm w' hp)
    have h2 := h.1
    unfold LeB
    omega
  · exact h.2.2 j w' (by omega) hp
theorem Best.take {P : Nat → List Bool → Prop} {k s : Nat} {w u : List Bool} (h : Best k P (some (s, u))) (hw : P k w) (hm : ∀ w', P k w' → wN w ≤ wN w') (hl : w.length < u.length) : Best (k + 1) P (some (k, w)) := by
  refine ⟨Nat.lt_succ_self _, hw, fun j w' hj hp => ?_⟩
  by_cases c : j = k
  · subst c
    exact .of (hm w' hp)
  · have := h.2.2 j w' (by omega) hp
    unfold LeB at *
    omega
end Pg
set_option Elab.async false
set_option linter.all false
set_option maxRecDepth 100000
set_option maxHeartbeats 1000000
namespace Pg
open PySem L2 Sb Vl
def showN (rs : List Row) (i : Nat) (w : List Bool) : Pl := seenP rs (walkP rs (.num i) w)
def simN (rs : List Row) (k i j : Nat) : Prop := ∀ w : List Bool, w.length ≤ k → showN rs i w = showN rs j w
def alike (rs : List Row) (i j : Nat) : Prop := ∀ w, showN rs i w = showN rs j w
theorem alike_refl (rs : List Row) (i : Nat) : alike rs i i := fun _ => rfl
theorem alike.symm {rs : List Row} {i j : Nat} (h : alike rs i j) : alike rs j i := fun w => (h w).symm
theorem alike.trans {rs : List Row} {i j k : Nat} (h : alike rs i j) (h' : alike rs j k) : alike rs i k := fun w => (h w).trans (h' w)
structure Nums (l : List Nat) (c : Nat) : Prop where
  lt : ∀ x, x ∈ l → x < c
  all : ∀ x, x < c → x ∈ l
noncomputable def eqA (rs : List Row) (i j : Nat) : Bool := @decide (alike rs i j) (Classical.propDecidable _)
theorem eqA_iff {rs : List Row} {i j : Nat} : eqA rs i j = true ↔ alike rs i j := by
  unfold eqA
  exact @decide_eq_true_iff _ (Classical.propDecidable _)
noncomputable def addK (rs : List Row) (ks : List Nat) (p : Pl) : List Nat := match p with
  | .num j => if ks.any (fun k => eqA rs k j) then ks else ks ++ [j]
  | .word _ => ks
end Pg
set_option Elab.async false
set_option linter.all false
set_option maxRecDepth 100000
set_option maxHeartbeats 1000000
namespace Pg
open PySem L2 Sb Vl
section
variable {rs : List Row} {f a : Nat} {ks : List Nat}
/-- rows kept so far: a of them are done -/
structure KInv (rs : List Row) (f : Nat) (a : Nat) (ks : List Nat) : Prop where
  nd : ks.Nodup
  lt : ∀ k, k ∈ ks → k < rs.length
  first : ∀ i, i < f → ks[i]? = some i
  many : f ≤ ks.length
  closed : ∀ (i k : Nat) (r : Row), i < a → ks[i]? = some k → rs[k]? = some r → ∀ j, (r.a = .num j ∨ r.b = .num j) → ∃ m, m ∈ ks ∧ alike rs m j
theorem KInv.len (I : KInv rs f a ks) : ks.length ≤ rs.length := by
  have := nodup_sub (m := List.range rs.length) I.nd fun k hk => List.mem_range.mpr (I.lt k hk)
  simpa using this
theorem KInv.init (hf : f ≤ rs.length) : KInv rs f 0 (List.range f) where
  nd := List.nodup_range
  lt := fun k hk => by
    have := List.mem_range.mp hk
    omega
  first := fun i hi => by simp [hi]
  many := by simp
  closed := fun i k r h => absurd h (Nat.not_lt_zero _)
theorem add_mono (p : Pl) : ∀ m, m ∈ ks → m ∈ addK rs ks p := fun m hm => by
  unfold addK
  cases p with
  | word s => exact hm
  | num j =>
    simp only []
    by_cases c : ks.any (fun k => eqA rs k j) = true
    · rw [if_pos c]
      exact hm
    · rw [if_neg c]
      exact List.mem_append_left _ hm
theorem add_get (p : Pl) {i k : Nat} (h : ks[i]? = some k) : (addK rs ks p)[i]? = some k := by
  unfold addK
  cases p with
  | word s => exact h
  | num j =>
    simp only []
    by_cases c : ks.any (fun k => eqA rs k j) = true
    · rw [if_pos c]
      exact h
    · rw [if_neg c]
      exact get_app h
theorem add_has {j : Nat} : ∃ m, m ∈ addK rs ks (.num j) ∧ alike rs m j := by
  unfold addK
  simp only []
  by_cases c : ks.any (fun k => eqA rs k j) = true
  · rw [if_pos c]
    obtain ⟨m, hm, e⟩ := List.any_eq_true.mp c
    exact ⟨m, hm, eqA_iff.mp e⟩
  · rw [if_neg c]
    exact ⟨j, List.mem_append_right _ (List.mem_singleton.mpr rfl), alike_refl _ _⟩
theorem add_len (p : Pl) : ks.length ≤ (addK rs ks p).length := by
  unfold addK
  cases p with
  | word s => exact Nat.le_refl _
  | num j =>
    simp only []
    by_cases c : ks.any (fun k => eqA rs k j) = true
    · rw [if_pos c]
      exact Nat.le_refl _
    · rw [if_neg c]
      simp
theorem KInv.add (I : KInv rs f a ks) {p : Pl} (hp : In' rs.length p) (ha : a ≤ ks.length) : KInv rs f a (addK rs ks p) where
  nd := by
    unfold addK
    cases p with
    | word s => exact I.nd
    | num j =>
      simp only []
      by_cases c : ks.any (fun k => eqA rs k j) = true
      · rw [if_pos c]
        exact I.nd
      · rw [if_neg c, List.nodup_append]
        refine ⟨I.nd, by simp, fun x hx y hy e => c ?_⟩
        have := List.mem_singleton.mp hy
        subst this e
        exact List.any_eq_true.mpr ⟨x, hx, eqA_iff.mpr (alike_refl _ _)⟩
  lt := fun k hk => by
    unfold addK at hk
    cases p with
    | word s => exact I.lt k hk
    | num j =>
      simp only [] at hk
      by_cases c : ks.any (fun k => eqA rs k j) = true
      · rw [if_pos c] at hk
        exact I.lt k hk
      · rw [if_neg c] at hk
        rcases List.mem_append.mp hk with z | z
        · exact I.lt k z
        · rw [List.mem_singleton.mp z]
          exact hp
  first := fun i hi => add_get p (I.first i hi)
  many := Nat.le_trans I.many (add_len p)
  closed := fun i k r hi hk hr j hj => by
    obtain ⟨k', hk'⟩ : ∃ k', ks[i]? = some k' := ⟨_, List.getElem?_eq_getElem (by omega)⟩
    have : k' = k := Option.some.inj ((add_get p hk').symm.trans hk)
    subst this
    obtain ⟨m, h1, h2⟩ := I.closed i k' r hi hk' hr j hj
    exact ⟨m, add_mono p m h1, h2⟩
theorem KInv.next (I : KInv rs f a ks) (ha : Rows' rs) {k : Nat} {r : Row} (hk : ks[a]? = some k) (hr : rs[k]? = some r) : KInv rs f (a + 1) (addK rs (addK rs ks r.a) r.b) := by
  have hin := ha r (List.mem_of_getElem? hr)
  have hl := get_lt hk
  have I1 := I.add hin.1 (by omega)
  have I2 := I1.add hin.2 (by have := add_len (rs := rs) (ks := ks) r.a; omega)
  refine { I2 with closed := fun i k' r' hi hk' hr' j hj => ?_ }
  by_cases c : i < a
  · exact I2.closed i k' r' c hk' hr' j hj
  · have : i = a := by omega
    subst this
    have e : k' = k := Option.some.inj (hk'.symm.trans (add_get _ (add_get _ hk)))
    subst e
    rw [hr] at hr'
    cases hr'
    rcases hj with z | z
    · obtain ⟨m, h1, h2⟩ := add_has (rs := rs) (ks := ks) (j := j)
      rw [← z] at h1
      exact ⟨m, add_mono _ m h1, h2⟩
    · rw [z]
      exact add_has
end
end Pg
set_option Elab.async false
set_option linter.all false
set_option maxRecDepth 100000
set_option maxHeartbeats 4000000
namespace Pg
open PySem L2 Sb Vl
end Pg
set_option Elab.async false
set_option linter.all false
set_option maxRecDepth 100000
set_option maxHeartbeats 1000000
namespace Pg
open PySem L2 Sb Vl
local macro_rules | `(tactic| walk_at "ev") => `(tactic| simp only [Vl.runV, Vl.mkEnv, Vl.Res.of, Vl.Res.quiet, Vl.Res.val, Vl.ioAt, Vl.fSeq, Vl.fIte, Vl.fAsg, Vl.fVar, Vl.fC, Vl.fOp, Vl.fIxO, Vl.fPutL, Vl.fRet, Vl.fRetW, Vl.fRetO, Vl.fRetN, Vl.fLst, Vl.fTup, Vl.fB, Vl.fTru, Vl.fCB, Vl.fCons, Vl.fNil, Vl.o1, Vl.o2, Vl.oI, Vl.oIC, Vl.slotL, Vl.slotO, Vl.own, Vl.Pat.put, Vl.Pat.puts, Vl.Out.bind, Vl.Out.opt, Vl.fNx, Vl.fCt, Vl.fBk, Vl.fPar, Vl.fCall, Vl.fCallN, Vl.fCallL, Vl.fSetN, Vl.gIo, Vl.gCn, Vl.gNl, Vl.agDs, Vl.agD, Vl.ioSlots, Vl.putAll, Vl.put1, Vl.Ag.isIo, Vl.fAnd, Vl.fOr, Vl.fNot, Vl.fAndT, Vl.fOrT, Vl.fNotT, Vl.fChain, Vl.fIsi, Vl.fIsi2, Vl.fUn, Vl.fDrop, Vl.fApp, Vl.fLenO, Vl.fMake, Vl.fRaise, Vl.fFldS, Vl.fDInO, Vl.fDPutO, Vl.fDGetO, Vl.fPop, Vl.fListD, Vl.fDOne, Vl.fDNewK, Vl.isi, Vl.bOf, Vl.sOf, Vl.fFmt, Vl.fJs, Vl.oFmt, Vl.fM1, Vl.fM0, Vl.fFor, Vl.fItems, Vl.fEnum, Vl.fSl, Vl.fPart, Vl.fNoPart, Vl.fNeg, Vl.fAugI, Vl.fInO, Vl.fYes, Vl.fTruO, Vl.fComp, Vl.fCompO, Vl.calmE, Vl.wipeE, Vl.backE, Vl.oIsN, Vl.oStr, Vl.fMakeL, Vl.fCM, Vl.fCMK, Vl.resE, Vl.fItemsS, Vl.fPar3, Vl.fTry2, Vl.hand1, Vl.gK, Vl.gF, Vl.gNil, Vl.gCons, Vl.gTup, Vl.gLst, Vl.gIte, Vl.fSlO, Vl.fStar, Vl.fDOneT, Vl.fDGet2, Vl.fDTwo, Vl.fCallK0, Vl.fSetDX, Vl.fDNewB, Vl.fPar3M, Vl.fIdx, ↓Vl.fRng1_one, Vl.oLen_lst, Vl.oLen_tup, Vl.oLen_ctup, Vl.oLen_scr, Vl.oIx_lst, Vl.oIx_tup, Vl.oIx_ctup, Vl.oIx_scr, Vl.oInt_int, Vl.oInt_bl, Vl.oAbs_int, Vl.oMax_int, Vl.oMin_int, Vl.oTuple_lst, Vl.oTuple_tup, Vl.oList_lst, Vl.oList_tup, Vl.oNeg_int, Vl.ty_non, Vl.ty_bl, Vl.ty_int, Vl.ty_str, Vl.ty_tup, Vl.ty_ctup, Vl.ty_lst, Vl.ty_dk, Vl.ty_scr, Vl.tru_non, Vl.tru_bl, Vl.tru_int, Vl.tru_lst, Vl.tru_tup, Vl.oEqS_int, Vl.oEqS_str, Vl.oEqS_bl, Vl.oCat_lst, Vl.oCatA_tup, Vl.oSlT_tup, Vl.oSlL_lst, Vl.keyOf_int, Vl.keyOf_str, Vl.isNon_non, Vl.isNon_bl, Vl.isNon_int, Vl.isNon_str, Vl.isNon_tup, Vl.isNon_lst, Vl.oFld_ob, Vl.isOb_ob', Vl.atI_0, Vl.atI_1, Vl.atI_2, Vl.atI_3, Vl.ixN_0, Vl.ixN_1, Vl.ixN_2, List.zipWith, List.replicate, List.append, List.cons_append, List.nil_append, List.append_nil, List.getElem?_cons_zero, List.getElem?_cons_succ, List.getElem?_nil, List.set_cons_zero, List.set_cons_succ, List.length_cons, List.length_nil, List.map_cons, List.map_nil, List.nodup_cons, List.nodup_nil, List.not_mem_nil, List.reverse_cons, List.reverse_nil, Bool.false_eq_true, ite_true, ite_false, if_true, if_false, reduceIte, decide_true, decide_false, Bool.true_and, Bool.and_true, Bool.false_and, Bool.and_false, Bool.not_true, Bool.not_false, Bool.or_false, Bool.false_or, Bool.or_true, Bool.true_or, reduceCtorEq, not_false_eq_true, not_true_eq_false, and_self, and_true, true_and, or_false, or_true, Nat.reduceSub, Nat.reduceAdd, Nat.reduceLeDiff, Nat.zero_add, Option.map_some, Option.map_none, Option.bind_some, Option.bind_none, Option.isSome_some, Option.isSome_none, List.mem_cons, List.all_cons, List.all_nil, eq_self, Int.cast_ofNat_Int, Int.natCast_zero, Int.natCast_one, Int.reduceEq, Int.reduceLT, Int.reduceLE, Int.reduceAdd, Int.reduceSub, Int.reduceNeg, Nat.reduceEqDiff, *])
local macro_rules | `(tactic| walk_at "e0") => `(tactic| simp only [Vl.runV, Vl.mkEnv, Vl.Res.of, Vl.Res.quiet, Vl.Res.val, Vl.ioAt, Vl.fSeq, Vl.fIte, Vl.fAsg, Vl.fVar, Vl.fC, Vl.fOp, Vl.fIxO, Vl.fPutL, Vl.fRet, Vl.fRetW, Vl.fRetO, Vl.fRetN, Vl.fLst, Vl.fTup, Vl.fB, Vl.fTru, Vl.fCB, Vl.fCons, Vl.fNil, Vl.o1, Vl.o2, Vl.oI, Vl.oIC, Vl.slotL, Vl.slotO, Vl.own, Vl.Pat.put, Vl.Pat.puts, Vl.Out.bind, Vl.Out.opt, Vl.fNx, Vl.fCt, Vl.fBk, Vl.fPar, Vl.fCall, Vl.fCallN, Vl.fCallL, Vl.fSetN, Vl.gIo, Vl.gCn, Vl.gNl, Vl.agDs, Vl.agD, Vl.ioSlots, Vl.putAll, Vl.put1, Vl.Ag.isIo, Vl.fAnd, Vl.fOr, Vl.fNot, Vl.fAndT, Vl.fOrT, Vl.fNotT, Vl.fChain, Vl.fIsi, Vl.fIsi2, Vl.fUn, Vl.fDrop, Vl.fApp, Vl.fLenO, Vl.fMake, Vl.fRaise, Vl.fFldS, Vl.fDInO, Vl.fDPutO, Vl.fDGetO, Vl.fPop, Vl.fListD, Vl.fDOne, Vl.fDNewK, Vl.isi, Vl.bOf, Vl.sOf, Vl.fFmt, Vl.fJs, Vl.oFmt, Vl.fM1, Vl.fM0, Vl.fFor, Vl.fItems, Vl.fEnum, Vl.fSl, Vl.fPart, Vl.fNoPart, Vl.fNeg, Vl.fAugI, Vl.fInO, Vl.fYes, Vl.fTruO, Vl.fComp, Vl.fCompO, Vl.calmE, Vl.wipeE, Vl.backE, Vl.oIsN, Vl.oStr, Vl.fMakeL, Vl.fCM, Vl.fCMK, Vl.resE, Vl.fItemsS, Vl.fPar3, Vl.fTry2, Vl.hand1, Vl.gK, Vl.gF, Vl.gNil, Vl.gCons, Vl.gTup, Vl.gLst, Vl.gIte, Vl.fSlO, Vl.fStar, Vl.fDOneT, Vl.fDGet2, Vl.fDTwo, Vl.fCallK0, Vl.fSetDX, Vl.fDNewB, Vl.fPar3M, Vl.fIdx, ↓Vl.fRng1_one, Vl.oLen_lst, Vl.oLen_tup, Vl.oLen_ctup, Vl.oLen_scr, Vl.oIx_lst, Vl.oIx_tup, Vl.oIx_ctup, Vl.oIx_scr, Vl.oInt_int, Vl.oInt_bl, Vl.oAbs_int, Vl.oMax_int, Vl.oMin_int, Vl.oTuple_lst, Vl.oTuple_tup, Vl.oList_lst, Vl.oList_tup, Vl.oNeg_int, Vl.ty_non, Vl.ty_bl, Vl.ty_int, Vl.ty_str, Vl.ty_tup, Vl.ty_ctup, Vl.ty_lst, Vl.ty_dk, Vl.ty_scr, Vl.tru_non, Vl.tru_bl, Vl.tru_int, Vl.tru_lst, Vl.tru_tup, Vl.oEqS_int, Vl.oEqS_str, Vl.oEqS_bl, Vl.oCat_lst, Vl.oCatA_tup, Vl.oSlT_tup, Vl.oSlL_lst, Vl.keyOf_int, Vl.keyOf_str, Vl.isNon_non, Vl.isNon_bl, Vl.isNon_int, Vl.isNon_str, Vl.isNon_tup, Vl.isNon_lst, Vl.oFld_ob, Vl.isOb_ob', Vl.atI_0, Vl.atI_1, Vl.atI_2, Vl.atI_3, Vl.ixN_0, Vl.ixN_1, Vl.ixN_2, List.zipWith, List.replicate, List.append, List.cons_append, List.nil_append, List.append_nil, List.getElem?_cons_zero, List.getElem?_cons_succ, List.getElem?_nil, List.set_cons_zero, List.set_cons_succ, List.length_cons, List.length_nil, List.map_cons, List.map_nil, List.nodup_cons, List.nodup_nil, List.not_mem_nil, List.reverse_cons, List.reverse_nil, Bool.false_eq_true, ite_true, ite_false, if_true, if_false, reduceIte, decide_true, decide_false, Bool.true_and, Bool.and_true, Bool.false_and, Bool.and_false, Bool.not_true, Bool.not_false, Bool.or_false, Bool.false_or, Bool.or_true, Bool.true_or, reduceCtorEq, not_false_eq_true, not_true_eq_false, and_self, and_true, true_and, or_false, or_true, Nat.reduceSub, Nat.reduceAdd, Nat.reduceLeDiff, Nat.zero_add, Option.map_some, Option.map_none, Option.bind_some, Option.bind_none, Option.isSome_some, Option.isSome_none, List.mem_cons, List.all_cons, List.all_nil, eq_self, Int.cast_ofNat_Int, Int.natCast_zero, Int.natCast_one, Int.reduceEq, Int.reduceLT, Int.reduceLE, Int.reduceAdd, Int.reduceSub, Int.reduceNeg, Nat.reduceEqDiff])
end Pg
set_option Elab.async false
set_option linter.all false
set_option maxRecDepth 100000
set_option maxHeartbeats 1000000
namespace Vl
open PySem L2 Sb
theorem comp_map {p : Pat} {fe : Ev D} {vs : List Nat} {ds ys : List D} {W : List Slot} (hl : ys.length = ds.length) (hs : ds.length ≤ 10000)
    (h : ∀ (i : Nat) (d y : D), ds[i]? = some d → ys[i]? = some y → ∃ e1 e2, p.put d W = some e1 ∧ fe e1 = .val y e2 ∧ wipeE e2 vs = W) {env : List Slot} (h0 : wipeE env vs = W) : ∃ env', compF p fYes fe vs ds [] env = .val ys env' ∧ wipeE env' vs = W := by
  obtain ⟨acc, env', e, rfl, hw⟩ := Vl.comp_ok (p := p) (ft := fYes) (fe := fe) (vs := vs) (ds := ds) (fun i acc env => acc = ys.take i ∧ wipeE env vs = W) (fun i d acc env hd hi => by
    obtain ⟨rfl, hw⟩ := hi
    have hlt : i < ys.length := by
      have := (List.getElem?_eq_some_iff.mp hd).1
      omega
    have hy : ys[i]? = some ys[i] := List.getElem?_eq_getElem hlt
    obtain ⟨e1, e2, g1, g2, g3⟩ := h i d ys[i] hd hy
    refine ⟨e1, true, e1, by rw [hw]; exact g1, rfl, fun _ => ⟨ys[i], e2, g2, ?_, ?_, g3⟩, fun z => by cases z⟩
    · rw [List.length_take]
      have : 10000 < sizeLine := by decide +kernel
      omega
    · rw [List.take_succ, hy]
      rfl) (env := env) ⟨by simp, h0⟩
  refine ⟨env', ?_, hw⟩
  rw [e, ← hl, List.take_length]
end Vl
namespace Pg
open PySem L2 Sb Vl
local macro_rules | `(tactic| walk_at "ev") => `(tactic| simp only [Vl.runV, Vl.mkEnv, Vl.Res.of, Vl.Res.quiet, Vl.Res.val, Vl.ioAt, Vl.fSeq, Vl.fIte, Vl.fAsg, Vl.fVar, Vl.fC, Vl.fOp, Vl.fIxO, Vl.fPutL, Vl.fRet, Vl.fRetW, Vl.fRetO, Vl.fRetN, Vl.fLst, Vl.fTup, Vl.fB, Vl.fTru, Vl.fCB, Vl.fCons, Vl.fNil, Vl.o1, Vl.o2, Vl.oI, Vl.oIC, Vl.slotL, Vl.slotO, Vl.own, Vl.Pat.put, Vl.Pat.puts, Vl.Out.bind, Vl.Out.opt, Vl.fNx, Vl.fCt, Vl.fBk, Vl.fPar, Vl.fCall, Vl.fCallN, Vl.fCallL, Vl.fSetN, Vl.gIo, Vl.gCn, Vl.gNl, Vl.agDs, Vl.agD, Vl.ioSlots, Vl.putAll, Vl.put1, Vl.Ag.isIo, Vl.fAnd, Vl.fOr, Vl.fNot, Vl.fAndT, Vl.fOrT, Vl.fNotT, Vl.fChain, Vl.fIsi, Vl.fIsi2, Vl.fUn, Vl.fDrop, Vl.fApp, Vl.fLenO, Vl.fMake, Vl.fRaise, Vl.fFldS, Vl.fDInO, Vl.fDPutO, Vl.fDGetO, Vl.fPop, Vl.fListD, Vl.fDOne, Vl.fDNewK, Vl.isi, Vl.bOf, Vl.sOf, Vl.fFmt, Vl.fJs, Vl.oFmt, Vl.fM1, Vl.fM0, Vl.fFor, Vl.fItems, Vl.fEnum, Vl.fSl, Vl.fPart, Vl.fNoPart, Vl.fNeg, Vl.fAugI, Vl.fInO, Vl.fYes, Vl.fTruO, Vl.fComp, Vl.fCompO, Vl.calmE, Vl.wipeE, Vl.backE, Vl.oIsN, Vl.oStr, Vl.fMakeL, Vl.fCM, Vl.fCMK, Vl.resE, Vl.fItemsS, Vl.fPar3, Vl.fTry2, Vl.hand1, Vl.gK, Vl.gF, Vl.gNil, Vl.gCons, Vl.gTup, Vl.gLst, Vl.gIte, Vl.fSlO, Vl.fStar, Vl.fDOneT, Vl.fDGet2, Vl.fDTwo, Vl.fCallK0, Vl.fSetDX, Vl.fDNewB, Vl.fPar3M, Vl.fIdx, ↓Vl.fRng1_one, Vl.oLen_lst, Vl.oLen_tup, Vl.oLen_ctup, Vl.oLen_scr, Vl.oIx_lst, Vl.oIx_tup, Vl.oIx_ctup, Vl.oIx_scr, Vl.oInt_int, Vl.oInt_bl, Vl.oAbs_int, Vl.oMax_int, Vl.oMin_int, Vl.oTuple_lst, Vl.oTuple_tup, Vl.oList_lst, Vl.oList_tup, Vl.oNeg_int, Vl.ty_non, Vl.ty_bl, Vl.ty_int, Vl.ty_str, Vl.ty_tup, Vl.ty_ctup, Vl.ty_lst, Vl.ty_dk, Vl.ty_scr, Vl.tru_non, Vl.tru_bl, Vl.tru_int, Vl.tru_lst, Vl.tru_tup, Vl.oEqS_int, Vl.oEqS_str, Vl.oEqS_bl, Vl.oCat_lst, Vl.oCatA_tup, Vl.oSlT_tup, Vl.oSlL_lst, Vl.keyOf_int, Vl.keyOf_str, Vl.isNon_non, Vl.isNon_bl, Vl.isNon_int, Vl.isNon_str, Vl.isNon_tup, Vl.isNon_lst, Vl.oFld_ob, Vl.isOb_ob', Vl.atI_0, Vl.atI_1, Vl.atI_2, Vl.atI_3, Vl.ixN_0, Vl.ixN_1, Vl.ixN_2, List.zipWith, List.replicate, List.append, List.cons_append, List.nil_append, List.append_nil, List.getElem?_cons_zero, List.getElem?_cons_succ, List.getElem?_nil, List.set_cons_zero, List.set_cons_succ, List.length_cons, List.length_nil, List.map_cons, List.map_nil, List.nodup_cons, List.nodup_nil, List.not_mem_nil, List.reverse_cons, List.reverse_nil, Bool.false_eq_true, ite_true, ite_false, if_true, if_false, reduceIte, decide_true, decide_false, Bool.true_and, Bool.and_true, Bool.false_and, Bool.and_false, Bool.not_true, Bool.not_false, Bool.or_false, Bool.false_or, Bool.or_true, Bool.true_or, reduceCtorEq, not_false_eq_true, not_true_eq_false, and_self, and_true, true_and, or_false, or_true, Nat.reduceSub, Nat.reduceAdd, Nat.reduceLeDiff, Nat.zero_add, Option.map_some, Option.map_none, Option.bind_some, Option.bind_none, Option.isSome_some, Option.isSome_none, List.mem_cons, List.all_cons, List.all_nil, eq_self, Int.cast_ofNat_Int, Int.natCast_zero, Int.natCast_one, Int.reduceEq, Int.reduceLT, Int.reduceLE, Int.reduceAdd, Int.reduceSub, Int.reduceNeg, Nat.reduceEqDiff, *])
local macro_rules | `(tactic| walk_at "e0") => `(tactic| simp only [Vl.runV, Vl.mkEnv, Vl.Res.of, Vl.Res.quiet, Vl.Res.val, Vl.ioAt, Vl.fSeq, Vl.fIte, Vl.fAsg, Vl.fVar, Vl.fC, Vl.fOp, Vl.fIxO, Vl.fPutL, Vl.fRet, Vl.fRetW, Vl.fRetO, Vl.fRetN, Vl.fLst, Vl.fTup, Vl.fB, Vl.fTru, Vl.fCB, Vl.fCons, Vl.fNil, Vl.o1, Vl.o2, Vl.oI, Vl.oIC, Vl.slotL, Vl.slotO, Vl.own, Vl.Pat.put, Vl.Pat.puts, Vl.Out.bind, Vl.Out.opt, Vl.fNx, Vl.fCt, Vl.fBk, Vl.fPar, Vl.fCall, Vl.fCallN, Vl.fCallL, Vl.fSetN, Vl.gIo, Vl.gCn, Vl.gNl, Vl.agDs, Vl.agD, Vl.ioSlots, Vl.putAll, Vl.put1, Vl.Ag.isIo, Vl.fAnd, Vl.fOr, Vl.fNot, Vl.fAndT, Vl.fOrT, Vl.fNotT, Vl.fChain, Vl.fIsi, Vl.fIsi2, Vl.fUn, Vl.fDrop, Vl.fApp, Vl.fLenO, Vl.fMake, Vl.fRaise, Vl.fFldS, Vl.fDInO, Vl.fDPutO, Vl.fDGetO, Vl.fPop, Vl.fListD, Vl.fDOne, Vl.fDNewK, Vl.isi, Vl.bOf, Vl.sOf, Vl.fFmt, Vl.fJs, Vl.oFmt, Vl.fM1, Vl.fM0, Vl.fFor, Vl.fItems, Vl.fEnum, Vl.fSl, Vl.fPart, Vl.fNoPart, Vl.fNeg, Vl.fAugI, Vl.fInO, Vl.fYes, Vl.fTruO, Vl.fComp, Vl.fCompO, Vl.calmE, Vl.wipeE, Vl.backE, Vl.oIsN, Vl.oStr, Vl.fMakeL, Vl.fCM, Vl.fCMK, Vl.resE, Vl.fItemsS, Vl.fPar3, Vl.fTry2, Vl.hand1, Vl.gK, Vl.gF, Vl.gNil, Vl.gCons, Vl.gTup, Vl.gLst, Vl.gIte, Vl.fSlO, Vl.fStar, Vl.fDOneT, Vl.fDGet2, Vl.fDTwo, Vl.fCallK0, Vl.fSetDX, Vl.fDNewB, Vl.fPar3M, Vl.fIdx, ↓Vl.fRng1_one, Vl.oLen_lst, Vl.oLen_tup, Vl.oLen_ctup, Vl.oLen_scr, Vl.oIx_lst, Vl.oIx_tup, Vl.oIx_ctup, Vl.oIx_scr, Vl.oInt_int, Vl.oInt_bl, Vl.oAbs_int, Vl.oMax_int, Vl.oMin_int, Vl.oTuple_lst, Vl.oTuple_tup, Vl.oList_lst, Vl.oList_tup, Vl.oNeg_int, Vl.ty_non, Vl.ty_bl, Vl.ty_int, Vl.ty_str, Vl.ty_tup, Vl.ty_ctup, Vl.ty_lst, Vl.ty_dk, Vl.ty_scr, Vl.tru_non, Vl.tru_bl, Vl.tru_int, Vl.tru_lst, Vl.tru_tup, Vl.oEqS_int, Vl.oEqS_str, Vl.oEqS_bl, Vl.oCat_lst, Vl.oCatA_tup, Vl.oSlT_tup, Vl.oSlL_lst, Vl.keyOf_int, Vl.keyOf_str, Vl.isNon_non, Vl.isNon_bl, Vl.isNon_int, Vl.isNon_str, Vl.isNon_tup, Vl.isNon_lst, Vl.oFld_ob, Vl.isOb_ob', Vl.atI_0, Vl.atI_1, Vl.atI_2, Vl.atI_3, Vl.ixN_0, Vl.ixN_1, Vl.ixN_2, List.zipWith, List.replicate, List.append, List.cons_append, List.nil_append, List.append_nil, List.getElem?_cons_zero, List.getElem?_cons_succ, List.getElem?_nil, List.set_cons_zero, List.set_cons_succ, List.length_cons, List.length_nil, List.map_cons, List.map_nil, List.nodup_cons, List.nodup_nil, List.not_mem_nil, List.reverse_cons, List.reverse_nil, Bool.false_eq_true, ite_true, ite_false, if_true, if_false, reduceIte, decide_true, decide_false, Bool.true_and, Bool.and_true, Bool.false_and, Bool.and_false, Bool.not_true, Bool.not_false, Bool.or_false, Bool.false_or, Bool.or_true, Bool.true_or, reduceCtorEq, not_false_eq_true, not_true_eq_false, and_self, and_true, true_and, or_false, or_true, Nat.reduceSub, Nat.reduceAdd, Nat.reduceLeDiff, Nat.zero_add, Option.map_some, Option.map_none, Option.bind_some, Option.bind_none, Option.isSome_some, Option.isSome_none, List.mem_cons, List.all_cons, List.all_nil, eq_self, Int.cast_ofNat_Int, Int.natCast_zero, Int.natCast_one, Int.reduceEq, Int.reduceLT, Int.reduceLE, Int.reduceAdd, Int.reduceSub, Int.reduceNeg, Nat.reduceEqDiff])
/-- equal sorts: alike up to k bits -/
structure SInv (rs : List Row) (k : Nat) (S : List Nat) (c : Nat) : Prop where
  len : S.length = rs.length
  nums : Nums S c
  sim : ∀ i j, i < rs.length → j < rs.length → (S[i]? = S[j]? ↔ simN rs k i j)
theorem SInv.pos {rs : List Row} {k : Nat} {S : List Nat} {c : Nat} (I : SInv rs k S c) (h : 0 < rs.length) : 0 < c := by
  have := I.nums.lt _ (List.getElem_mem (l := S) (n := 0) (by rw [I.len]; exact h))
  omega
end Pg
set_option Elab.async false
set_option linter.all false
set_option maxRecDepth 100000
set_option maxHeartbeats 1000000
namespace Vl
open PySem L2 Sb
end Vl
set_option Elab.async false
set_option linter.all false
set_option maxRecDepth 100000
set_option maxHeartbeats 4000000
namespace Pg
open PySem L2 Sb Vl
def F_is_numeral : Ev Fl := (fSeq (fIte (fOrT (fNotT (fB (fM0 oIsAscii (fVar 0)))) (fOrT (fNotT (fB (fM0 oIsDigit (fVar 0)))) (fB (fOp (oI fun i j => .bl (decide (j < i))) (fCB (o1 oLen) (fCons (fVar 0) fNil)) (fC (.int 9)))))) (fRet (fC (.bl false))) fNx)
  (fRet (fOr (fOp (oEqS false) (fVar 0) (fC (.str "0"))) (fNot (fM1 oStarts (fVar 0) (fC (.str "0")))))))
def Φ_is_numeral : List D → Res := fun ds => (runV [false] 1 F_is_numeral ds).quiet
def F_read_follower : Ev Fl := (fSeq (fIte (fOrT (fB (fOp (oInT false) (fVar 0) (fC (.ctup [(.str "taken"), (.str "lost")])))) (fB (fOp (oInT false) (fVar 0) (fC (.ctup [(.str "done"), (.str "again")]))))) (fRet (fVar 0)) fNx)
  (fSeq (fIte (fB (fCall [false] Φ_is_numeral [] (gCn (fVar 0) gNl))) (fRet (fCB (o1 oIntS) (fCons (fVar 0) fNil))) fNx)
  (fRet (fC .non))))
def Φ_read_follower : List D → Res := fun ds => (runV [false] 1 F_read_follower ds).quiet
def F_read_row : Ev Fl := (fSeq (fAsg (.nm 1) (fM1 oSplit (fVar 0) (fC (.str " "))))
  (fSeq (fIte (fOrT (fB (fOp (oEqS true) (fCB (o1 oLen) (fCons (fVar 1) fNil)) (fC (.int 3)))) (fB (fOp (oInT true) (fOp oIx (fVar 1) (fC (.int 0))) (fTup (fCons (fC (.str "0")) (fCons (fC (.str "1")) fNil)))))) (fRet (fC .non)) fNx)
  (fSeq (fAsg (.nm 2) (fCall [false] Φ_read_follower [] (gCn (fOp oIx (fVar 1) (fC (.int 1))) gNl)))
  (fSeq (fAsg (.nm 3) (fCall [false] Φ_read_follower [] (gCn (fOp oIx (fVar 1) (fC (.int 2))) gNl)))
  (fSeq (fIte (fOrT (fB (fOp (oIsN false) (fVar 2) (fC .non))) (fB (fOp (oIsN false) (fVar 3) (fC .non)))) (fRet (fC .non)) fNx)
  (fRet (fTup (fCons (fCB (o1 oIntS) (fCons (fOp oIx (fVar 1) (fC (.int 0))) fNil)) (fCons (fVar 2) (fCons (fVar 3) fNil))))))))))
def Φ_read_row : List D → Res := fun ds => (runV [false] 4 F_read_row ds).quiet
def E_read_machines_1 : Ev D := (fCall [false] Φ_read_row [] (gCn (fVar 3) gNl))
def E_read_machines_2 : Ev D := (fComp (fItems (fM1 oSplit (fVar 2) (fC (.str ", ")))) (.nm 3) fYes E_read_machines_1 [3])
def F_read_machines : Ev Fl := (fSeq (fIte (fNotT (fB (fIsi .str (fVar 0)))) (fRet (fC .non)) fNx)
  (fSeq (fAsg (.nm 1) (fComp (fItems (fM1 oSplit (fVar 0) (fC (.str " | ")))) (.nm 2) fYes E_read_machines_2 [2]))
  (fSeq (fIte (fOrT (fB (fOp (oEqS true) (fCB (o1 oLen) (fCons (fVar 1) fNil)) (fC (.int 2)))) (fOrT (fB (fOp (oIn false) (fC .non) (fOp oIx (fVar 1) (fC (.int 0))))) (fB (fOp (oIn false) (fC .non) (fOp oIx (fVar 1) (fC (.int 1))))))) (fRet (fC .non)) fNx)
  (fRet (fVar 1)))))
def Φ_read_machines : List D → Res := fun ds => (runV [false] 4 F_read_machines ds).quiet
def F_End_from_text : Ev Fl := (fSeq (fAsg (.nm 2) (fCall [false] Φ_read_machines [] (gCn (fVar 1) gNl)))
  (fSeq (fIte (fB (fOp (oIsN false) (fVar 2) (fC .non))) (fRaise "BadText" (fCons (fVar 1) fNil)) fNx)
  (fSeq (fAsg (.ul [(.nm 3), (.nm 4)]) (fVar 2))
  (fRet (fMakeL 0 "End" [true, false, false] Φ_End_init [] (fCons (fVar 3) (fCons (fVar 4) fNil)))))))
def Φ_End_from_text : List D → Res := fun ds => (runV [false, false] 5 F_End_from_text ds)
end Pg
set_option Elab.async false
set_option linter.all false
set_option maxRecDepth 100000
set_option maxHeartbeats 4000000
namespace K07
open PySem L2 Sb Vl Pg
def top (i : Nat) : Stmt := PySem.Challenge.pw_strongbit_k07_whole_one_text_one_end.main.body.getD i (.Pass ⟨0, 0, 0, 0⟩)
abbrev sis_number : Stmt := top 6
theorem scis_number : FnScope ["value"] ["value"] (defScope sis_number) := ⟨rfl, rfl, rfl, by decide +kernel, rfl, by decide +kernel, by decide +kernel⟩
abbrev sis_follower : Stmt := top 7
theorem scis_follower : FnScope ["value", "size", "words"] ["value", "size", "words"] (defScope sis_follower) := ⟨rfl, rfl, rfl, by decide +kernel, rfl, by decide +kernel, by decide +kernel⟩
abbrev sis_row : Stmt := top 8
theorem scis_row : FnScope ["value", "size", "words", "put", "on_strong", "on_weak"] ["value", "size", "words"] (defScope sis_row) := ⟨rfl, rfl, rfl, by decide +kernel, rfl, by decide +kernel, by decide +kernel⟩
abbrev sreached : Stmt := top 9
theorem screached : FnScope ["rows", "begin", "found", "ahead", "place", "follower"] ["rows", "begin"] (defScope sreached) := ⟨rfl, rfl, rfl, by decide +kernel, rfl, by decide +kernel, by decide +kernel⟩
abbrev scheck_machine : Stmt := top 18
theorem sccheck_machine : FnScope ["part", "machine", "fewest", "most", "words", "index", "row"] ["part", "machine", "fewest", "most", "words"] (defScope scheck_machine) := ⟨rfl, rfl, rfl, by decide +kernel, rfl, by decide +kernel, by decide +kernel⟩
abbrev snumbered_rows : Stmt := top 19
theorem scnumbered_rows : FnScope ["part", "machine", "index", "row"] ["part", "machine"] (defScope snumbered_rows) := ⟨rfl, rfl, rfl, by decide +kernel, rfl, by decide +kernel, by decide +kernel⟩
abbrev sEnd_init : Stmt := inClass (top 20) 1
theorem scEnd_init : FnScope ["self", "hearer", "sender"] ["self", "hearer", "sender"] (defScope sEnd_init) := ⟨rfl, rfl, rfl, by decide +kernel, rfl, by decide +kernel, by decide +kernel⟩
abbrev sEnd_eq : Stmt := inClass (top 20) 5
theorem scEnd_eq : FnScope ["self", "other"] ["self", "other"] (defScope sEnd_eq) := ⟨rfl, rfl, rfl, by decide +kernel, rfl, by decide +kernel, by decide +kernel⟩
abbrev sEnd_contains : Stmt := inClass (top 20) 10
theorem scEnd_contains : FnScope ["self", "x", "item"] ["self", "x"] (defScope sEnd_contains) := ⟨rfl, rfl, rfl, by decide +kernel, rfl, by decide +kernel, by decide +kernel⟩
abbrev sEnd_len : Stmt := inClass (top 20) 6
theorem scEnd_len : FnScope ["self"] ["self"] (defScope sEnd_len) := ⟨rfl, rfl, rfl, by decide +kernel, rfl, by decide +kernel, by decide +kernel⟩
abbrev sEnd_iter : Stmt := inClass (top 20) 9
theorem scEnd_iter : FnScope ["self"] ["self"] (defScope sEnd_iter) := ⟨rfl, rfl, rfl, by decide +kernel, rfl, by decide +kernel, by decide +kernel⟩
abbrev smachine_text : Stmt := top 12
theorem scmachine_text : FnScope ["rows", "put", "on_strong", "on_weak"] ["rows"] (defScope smachine_text) := ⟨rfl, rfl, rfl, by decide +kernel, rfl, by decide +kernel, by decide +kernel⟩
abbrev sEnd_str : Stmt := inClass (top 20) 8
theorem scEnd_str : FnScope ["self"] ["self"] (defScope sEnd_str) := ⟨rfl, rfl, rfl, by decide +kernel, rfl, by decide +kernel, by decide +kernel⟩
abbrev sis_numeral : Stmt := top 13
theorem scis_numeral : FnScope ["piece"] ["piece"] (defScope sis_numeral) := ⟨rfl, rfl, rfl, by decide +kernel, rfl, by decide +kernel, by decide +kernel⟩
abbrev sread_follower : Stmt := top 14
theorem scread_follower : FnScope ["piece"] ["piece"] (defScope sread_follower) := ⟨rfl, rfl, rfl, by decide +kernel, rfl, by decide +kernel, by decide +kernel⟩
abbrev sread_row : Stmt := top 15
theorem scread_row : FnScope ["text", "pieces", "on_strong", "on_weak"] ["text"] (defScope sread_row) := ⟨rfl, rfl, rfl, by decide +kernel, rfl, by decide +kernel, by decide +kernel⟩
abbrev sread_machines : Stmt := top 16
theorem scread_machines : FnScope ["text", "machines", "machine", "row"] ["text"] (defScope sread_machines) := ⟨rfl, rfl, rfl, by decide +kernel, rfl, by decide +kernel, by decide +kernel⟩
abbrev sEnd_from_text : Stmt := inClass (top 20) 2
theorem scEnd_from_text : FnScope ["cls", "text", "machines", "hearer", "sender"] ["cls", "text"] (defScope sEnd_from_text) := ⟨rfl, rfl, rfl, by decide +kernel, rfl, by decide +kernel, by decide +kernel⟩
abbrev sL_bag : Stmt := top 22
theorem scL_bag : FnScope ["_law_script", "_law_at", "_law_cell", "_law_great"] ["_law_script", "_law_at"] (defScope sL_bag) := ⟨rfl, rfl, rfl, by decide +kernel, rfl, by decide +kernel, by decide +kernel⟩
abbrev sL_take : Stmt := top 23
theorem scL_take : FnScope ["_law_bag_here", "_law_many", "_law_digit", "_law_mixed"] ["_law_bag_here", "_law_many"] (defScope sL_take) := ⟨rfl, rfl, rfl, by decide +kernel, rfl, by decide +kernel, by decide +kernel⟩
abbrev sL_place : Stmt := top 24
theorem scL_place : FnScope ["_law_bag_here", "_law_many", "_law_words", "_law_way"] ["_law_bag_here", "_law_many", "_law_words"] (defScope sL_place) := ⟨rfl, rfl, rfl, by decide +kernel, rfl, by decide +kernel, by decide +kernel⟩
abbrev sL_rows : Stmt := top 25
theorem scL_rows : FnScope ["_law_bag_here", "_law_many", "_law_words", "_law_k"] ["_law_bag_here", "_law_many", "_law_words"] (defScope sL_rows) := ⟨rfl, rfl, rfl, by decide +kernel, rfl, by decide +kernel, by decide +kernel⟩
abbrev sL_led : Stmt := top 26
theorem scL_led : FnScope ["_law_rows_here", "_law_first", "_law_found", "_law_at", "_law_place_here"] ["_law_rows_here", "_law_first"] (defScope sL_led) := ⟨rfl, rfl, rfl, by decide +kernel, rfl, by decide +kernel, by decide +kernel⟩
abbrev sL_hearer : Stmt := top 27
theorem scL_hearer : FnScope ["_law_bag_here", "_law_many", "_law_rows_here", "_law_at", "_law_put", "_law_strong", "_law_weak"] ["_law_bag_here", "_law_many"] (defScope sL_hearer) := ⟨rfl, rfl, rfl, by decide +kernel, rfl, by decide +kernel, by decide +kernel⟩
abbrev sL_sender : Stmt := top 28
theorem scL_sender : FnScope ["_law_bag_here", "_law_many"] ["_law_bag_here", "_law_many"] (defScope sL_sender) := ⟨rfl, rfl, rfl, by decide +kernel, rfl, by decide +kernel, by decide +kernel⟩
abbrev sL_rows_of : Stmt := top 29
theorem scL_rows_of : FnScope ["_law_end", "_law_name", "_law_part"] ["_law_end", "_law_name"] (defScope sL_rows_of) := ⟨rfl, rfl, rfl, by decide +kernel, rfl, by decide +kernel, by decide +kernel⟩
abbrev sL_tried : Stmt := top 30
theorem scL_tried : FnScope ["_law_call", "e"] ["_law_call"] (defScope sL_tried) := ⟨rfl, rfl, rfl, by decide +kernel, rfl, by decide +kernel, by decide +kernel⟩
abbrev sL_pair_right : Stmt := top 31
theorem scL_pair_right : FnScope ["_law_one", "_law_other", "_law_found", "_law_left", "_law_right", "_law_whole", "_law_due", "_law_turned", "_law_part"] ["_law_one", "_law_other"] (defScope sL_pair_right) := ⟨rfl, rfl, rfl, by decide +kernel, rfl, by decide +kernel, by decide +kernel⟩
abbrev sL_alone_right : Stmt := top 32
theorem scL_alone_right : FnScope ["_law_end", "_law_hearer_here", "_law_sender_here", "_law_part", "_law_row"] ["_law_end"] (defScope sL_alone_right) := ⟨rfl, rfl, rfl, by decide +kernel, rfl, by decide +kernel, by decide +kernel⟩
abbrev slaw : Stmt := top 33
theorem sclaw : FnScope ["_law_script", "_law_k", "_law_bag_here", "_law_turn", "_law_some", "_law_more", "_law_rows_here", "_law_last", "_law_one", "_law_other"] ["_law_script"] (defScope slaw) := ⟨rfl, rfl, rfl, by decide +kernel, rfl, by decide +kernel, by decide +kernel⟩
structure Txt (K : PySem.W.Frag) (mg : Str → Option Value) (ct : Ct) : Prop where
  b_abs : mg "abs" = none
  b_any : mg "any" = none
  b_bool : mg "bool" = none
  b_enumerate : mg "enumerate" = none
  b_int : mg "int" = none
  b_isinstance : mg "isinstance" = none
  b_iter : mg "iter" = none
  b_len : mg "len" = none
  b_list : mg "list" = none
  b_max : mg "max" = none
  b_min : mg "min" = none
  b_range : mg "range" = none
  b_str : mg "str" = none
  b_tuple : mg "tuple" = none
  m_HEARER_WORDS : GC K mg ct "HEARER_WORDS" (.ctup [(.str "taken"), (.str "lost")])
  m_MOST_DIGITS : GC K mg ct "MOST_DIGITS" (.int 9)
  m_SENDER_WORDS : GC K mg ct "SENDER_WORDS" (.ctup [(.str "done"), (.str "again")])
  c_BadEnd : ct "BadEnd" = some (cA ct "BadEnd", (["row", "part"] : List Str))
  c_BadText : ct "BadText" = some (cA ct "BadText", (["text"] : List Str))
  c_End : ct "End" = some (cA ct "End", (["hearer_rows", "sender_rows", "rows"] : List Str))
  mc_End : mg "End" = some (.ref (cA ct "End"))
  o_End : OwC K (cA ct "End")
  me_BadEnd : mg "BadEnd" = some (.ref (cA ct "BadEnd"))
  x_BadEnd : XfC K (cA ct "BadEnd")
  te_BadEnd : PySem.W.exmOne K (.ref (cA ct "BadEnd")) (.ref (cA ct "BadEnd")) = some true
  xn_BadEnd_part : PySem.W.findIn K (.ref (cA ct "BadEnd")) "part" = some none
  xn_BadEnd_row : PySem.W.findIn K (.ref (cA ct "BadEnd")) "row" = some none
  n_End_hearer_rows : NoAttr K (cA ct "End") "hearer_rows"
  n_End_rows : NoAttr K (cA ct "End") "rows"
  n_End_sender_rows : NoAttr K (cA ct "End") "sender_rows"
  cv_End_MOST : ∃ mc u, ClX.CRead K (cA ct "End") mc ∧ ClX.CVal K (cA ct "End") mc "MOST" (.int 100) u
section
variable {P : Program} {w : World} {K : PySem.W.Frag} {mg : Str → Option Value} {base : Heap}
theorem dv_is_number {ct : Ct} {f : Addr} {fd : FuncData} (T : Txt K mg ct) (F : Fun K "is_number" "is_number" sis_number f fd) : FnG P w K mg base CX0 1 f fd ["value"] (spV K ct [false] Φ_is_number) :=
  okVg F scis_number rfl fun io cdv A out s H E hg hr hu66 => by
    have hu65 : (A.deeper (PyProof.Rows.envOfC "is_number" (defScope sis_number) s.heap.objs.size f cdv)).units + 65 < cLine := by omega
    exact (dss_one (ds_ret (de_and (de_isi (n := .int) rfl (by decide) T.b_isinstance (by rfl) (dv 0) (pe_bltn (v := .ty "int") (by rfl) T.b_int (by decide +kernel) rfl)) (de_one (de_not (de_isi (n := .bool) rfl (by decide) T.b_isinstance (by rfl) (dv 0) (pe_bltn (v := .ty "bool") (by rfl) T.b_bool (by decide +kernel) rfl)))))))
theorem dv_is_follower {ct : Ct} {f : Addr} {fd : FuncData} {f_is_number : Addr} {fd_is_number : FuncData} (T : Txt K mg ct) (V_is_number : Vx P w K mg base 1 "is_number" f_is_number fd_is_number ["value"] ct [false] Φ_is_number) (F : Fun K "is_follower" "is_follower" sis_follower f fd) : FnG P w K mg base CX0 2 f fd ["value", "size", "words"] (spV K ct [false, false, false] Φ_is_follower) :=
  okVg F scis_follower rfl fun io cdv A out s H E hg hr hu66 => by
    have hu65 : (A.deeper (PyProof.Rows.envOfC "is_follower" (defScope sis_follower) s.heap.objs.size f cdv)).units + 65 < cLine := by omega
    exact (dss_cons (ds_if (dt_val (de_isi (n := .str) rfl (by decide) T.b_isinstance (by rfl) (dv 0) (pe_bltn (v := .ty "str") (by rfl) T.b_str (by decide +kernel) rfl))) (dss_one (ds_ret (de_cmp (op_inT hu66) opv_inT (dv 0) (dv 2) (by rfl)))) dss_nil)
  (dss_one (ds_ret (de_and (de_call V_is_number.ok hg (hr.mono (by decide)) (by rfl) V_is_number.mg V_is_number.kp V_is_number.bd .nil (fun _ => .nil) (E := E0v) pass0 zno_any (dai_cons (dv 0) dai_nil)) (de_one (de_chain op_le opv_le op_lt opv_lt de_int (dv 0) (dv 1)))))))
theorem dv_is_row {ct : Ct} {f : Addr} {fd : FuncData} {f_is_follower : Addr} {fd_is_follower : FuncData} {f_is_number : Addr} {fd_is_number : FuncData} (T : Txt K mg ct) (V_is_follower : Vx P w K mg base 2 "is_follower" f_is_follower fd_is_follower ["value", "size", "words"] ct [false, false, false] Φ_is_follower) (V_is_number : Vx P w K mg base 1 "is_number" f_is_number fd_is_number ["value"] ct [false] Φ_is_number) (F : Fun K "is_row" "is_row" sis_row f fd) : FnG P w K mg base CX0 3 f fd ["value", "size", "words"] (spV K ct [false, false, false] Φ_is_row) :=
  okVg F scis_row rfl fun io cdv A out s H E hg hr hu66 => by
    have hu65 : (A.deeper (PyProof.Rows.envOfC "is_row" (defScope sis_row) s.heap.objs.size f cdv)).units + 65 < cLine := by omega
    exact (dss_cons (ds_if (DW.dt (dw_or (dt_not (dt_val (de_isi (n := .tuple) rfl (by decide) T.b_isinstance (by rfl) (dv 0) (pe_bltn (v := .ty "tuple") (by rfl) T.b_tuple (by decide +kernel) rfl)))) (dw_or1 (dt_cmp op_ne opv_neS (de_callB call_lenA cv_len (by rfl) T.b_len (by decide +kernel) (da_cons (dv 0) da_nil)) de_int (nomark _))))) (dss_one (ds_ret de_bl)) dss_nil)
  (dss_cons (ds_asg (dv 0) (dg_tup rfl (dgs_cons (dgn 3 scis_row.nd) (dgs_cons (dgn 4 scis_row.nd) (dgs_cons (dgn 5 scis_row.nd) dgs_nil)))))
  (dss_cons (ds_if (DW.dt (dw_or (dt_not (dt_val (de_call V_is_number.ok hg (hr.mono (by decide)) (by rfl) V_is_number.mg V_is_number.kp V_is_number.bd .nil (fun _ => .nil) (E := E0v) pass0 zno_any (dai_cons (dv 3) dai_nil)))) (dw_or1 (dt_cmp (op_notInT hu66) opv_notInT (dv 3) (de_tup (da_cons de_int (da_cons de_int da_nil))) (by rfl))))) (dss_one (ds_ret de_bl)) dss_nil)
  (dss_one (ds_ret (de_and (de_call V_is_follower.ok hg (hr.mono (by decide)) (by rfl) V_is_follower.mg V_is_follower.kp V_is_follower.bd .nil (fun _ => .nil) (E := E0v) pass0 zno_any (dai_cons (dv 4) (dai_cons (dv 1) (dai_cons (dv 2) dai_nil)))) (de_one (de_call V_is_follower.ok hg (hr.mono (by decide)) (by rfl) V_is_follower.mg V_is_follower.kp V_is_follower.bd .nil (fun _ => .nil) (E := E0v) pass0 zno_any (dai_cons (dv 5) (dai_cons (dv 1) (dai_cons (dv 2) dai_nil)))))))))))
theorem dv_reached {ct : Ct} {f : Addr} {fd : FuncData} {f_is_number : Addr} {fd_is_number : FuncData} (T : Txt K mg ct) (V_is_number : Vx P w K mg base 1 "is_number" f_is_number fd_is_number ["value"] ct [false] Φ_is_number) (F : Fun K "reached" "reached" sreached f fd) : FnG P w K mg base CX0 2 f fd ["rows", "begin"] (spV K ct [false, false] Φ_reached) :=
  okVg F screached rfl fun io cdv A out s H E hg hr hu66 => by
    have hu65 : (A.deeper (PyProof.Rows.envOfC "reached" (defScope sreached) s.heap.objs.size f cdv)).units + 65 < cLine := by omega
    exact (dss_cons (ds_new (i := 2) screached.nd rfl (by first | exact Or.inl rfl | exact Or.inr rfl) (dn_oneK (dv 1) de_bl))
  (dss_cons (ds_new (i := 3) screached.nd rfl (by first | exact Or.inl rfl | exact Or.inr rfl) (dn_lst (da_cons (dv 1) da_nil)))
  (dss_cons (ds_while 100000 PassesOwn.never (dt_truO 3) (dss_cons (dset 4 screached.nd (dpop 3))
  (dss_one (ds_for PassesOwn.never rfl (di_seq (de_slice sl_tupA sv_tup (dix (dv 0) (dv 4)) (do_some de_int) do_none)) (dgn 5 screached.nd) (dss_cons (ds_if (dt_dinO (i := 2) hu65 rfl (by first | exact Or.inl rfl | exact Or.inr (Or.inl rfl) | exact Or.inr (Or.inr rfl)) (dv 5)) (dss_one ds_continue) dss_nil)
  (dss_cons (ds_dputO (i := 2) hu65 rfl (by first | exact Or.inl rfl | exact Or.inr (Or.inl rfl) | exact Or.inr (Or.inr rfl)) de_bl (dv 5))
  (dss_one (ds_if (dt_val (de_call V_is_number.ok hg (hr.mono (by decide)) (by rfl) V_is_number.mg V_is_number.kp V_is_number.bd .nil (fun _ => .nil) (E := E0v) pass0 zno_any (dai_cons (dv 5) dai_nil))) (dss_one (dapp 3 (dv 5))) dss_nil))))))))
  (dss_one (ds_retW (dnlistD 2 (hm := T.b_list)))))))
theorem dv_check_machine {ct : Ct} {f : Addr} {fd : FuncData} {f_is_row : Addr} {fd_is_row : FuncData} {f_BadEnd_i : Addr} {fd_BadEnd_i : FuncData} (T : Txt K mg ct) (V_is_row : Vx P w K mg base 3 "is_row" f_is_row fd_is_row ["value", "size", "words"] ct [false, false, false] Φ_is_row) (O_BadEnd : Ox P w K mg base 1 "BadEnd" (cA ct "BadEnd") f_BadEnd_i fd_BadEnd_i ["self", "part", "row"] (spXI (cA ct "BadEnd") ["row", "part"])) (F : Fun K "check_machine" "check_machine" scheck_machine f fd) : FnG P w K mg base (L2.CX P w) 4 f fd ["part", "machine", "fewest", "most", "words"] (spV K ct [false, false, false, false, false] Φ_check_machine) :=
  okXV F sccheck_machine rfl fun io cdv A out s H E hg hr hu66 => by
    have hu65 : (A.deeper (PyProof.Rows.envOfC "check_machine" (defScope scheck_machine) s.heap.objs.size f cdv)).units + 65 < cLine := by omega
    exact (dss_cons (ds_if (DW.dt (dw_or (dt_not (dt_val (de_isi2 (n1 := .list) (n2 := .tuple) rfl rfl (by decide) (by decide) T.b_isinstance (by rfl) (dv 1) (pe_bltn (v := .ty "list") (by rfl) T.b_list (by decide +kernel) rfl) (pe_bltn (v := .ty "tuple") (by rfl) T.b_tuple (by decide +kernel) rfl)))) (dw_or1 (dt_not (dt_chain op_le opv_le op_le opv_le (dv 2) (de_callB call_lenA cv_len (by rfl) T.b_len (by decide +kernel) (da_cons (dv 1) da_nil)) (dv 3)))))) (dss_one (ds_raise O_BadEnd T.c_BadEnd rfl tk_of (hr.mono (by decide)) (by rfl) zE (da_cons (dv 0) (da_cons de_non da_nil)) (len_cons (len_cons len_nil)))) dss_nil)
  (dss_one (ds_for pw_of rfl (di_enum (by rfl) T.b_enumerate (da_cons (dv 1) da_nil)) (dg_tup rfl (dgs_cons (dgn 5 sccheck_machine.nd) (dgs_cons (dgn 6 sccheck_machine.nd) dgs_nil))) (dss_one (ds_if (dt_not (dt_val (de_call V_is_row.ok.up hg (hr.mono (by decide)) (by rfl) V_is_row.mg V_is_row.kp V_is_row.bd .nil (fun _ => .nil) (E := E) ps_of zE (dai_cons (dv 6) (dai_cons (de_callB call_lenA cv_len (by rfl) T.b_len (by decide +kernel) (da_cons (dv 1) da_nil)) (dai_cons (dv 4) dai_nil)))))) (dss_one (ds_raise O_BadEnd T.c_BadEnd rfl tk_of (hr.mono (by decide)) (by rfl) zE (da_cons (dv 0) (da_cons (dv 5) da_nil)) (len_cons (len_cons len_nil)))) dss_nil)))))
theorem dv_numbered_rows {ct : Ct} {f : Addr} {fd : FuncData} (T : Txt K mg ct) (F : Fun K "numbered_rows" "numbered_rows" snumbered_rows f fd) : FnG P w K mg base CX0 1 f fd ["part", "machine"] (spV K ct [false, false] Φ_numbered_rows) :=
  okVg F scnumbered_rows rfl fun io cdv A out s H E hg hr hu66 => by
    have hu65 : (A.deeper (PyProof.Rows.envOfC "numbered_rows" (defScope snumbered_rows) s.heap.objs.size f cdv)).units + 65 < cLine := by omega
    exact (dss_one (ds_retW (dn_comp (own := [("index", 2), ("row", 3)]) (Zb := ZNo) rfl scnumbered_rows.nd (di_enum (by rfl) T.b_enumerate (da_cons (dv 1) da_nil)) (blkOk_by (N := ["part", "machine", "index", "row"]) (own := [("index", 2), ("row", 3)]) (sc := defScope snumbered_rows) (by decide +kernel)) (by rfl) (fun _ _ _ _ _ => (dg_tup rfl (dgs_cons (dgn 2 scnumbered_rows.nd) (dgs_cons (dgn 3 scnumbered_rows.nd) dgs_nil)))) (fun _ _ _ _ _ => dts_nil) (fun _ _ _ _ _ => (de_tup (da_cons (dv 0) (da_cons (dv 2) (da_cons (dv 3) da_nil))))))))
theorem dv_End_init {ct : Ct} {f : Addr} {fd : FuncData} {f_check_machine : Addr} {fd_check_machine : FuncData} {f_numbered_rows : Addr} {fd_numbered_rows : FuncData} {f_reached : Addr} {fd_reached : FuncData} {f_BadEnd_i : Addr} {fd_BadEnd_i : FuncData} (T : Txt K mg ct) (V_check_machine : VxX P w K mg base 4 "check_machine" f_check_machine fd_check_machine ["part", "machine", "fewest", "most", "words"] ct [false, false, false, false, false] Φ_check_machine) (V_numbered_rows : Vx P w K mg base 1 "numbered_rows" f_numbered_rows fd_numbered_rows ["part", "machine"] ct [false, false] Φ_numbered_rows) (V_reached : Vx P w K mg base 2 "reached" f_reached fd_reached ["rows", "begin"] ct [false, false] Φ_reached) (O_BadEnd : Ox P w K mg base 1 "BadEnd" (cA ct "BadEnd") f_BadEnd_i fd_BadEnd_i ["self", "part", "row"] (spXI (cA ct "BadEnd") ["row", "part"])) (F : Fun K "__init__" "End.__init__" sEnd_init f fd) : FnG P w K mg base (L2.CX P w) 5 f fd ["self", "hearer", "sender"] (spV K ct [true, false, false] Φ_End_init) :=
  okXV F scEnd_init rfl fun io cdv A out s H E hg hr hu66 => by
    have hu65 : (A.deeper (PyProof.Rows.envOfC "End.__init__" (defScope sEnd_init) s.heap.objs.size f cdv)).units + 65 < cLine := by omega
    exact (dss_cons (ds_expr (de_call V_check_machine.ok hg (hr.mono (by decide)) (by rfl) V_check_machine.mg V_check_machine.kp V_check_machine.bd .nil (fun _ => .nil) (E := E) ps_of zE (dai_cons de_str (dai_cons (dv 1) (dai_cons de_int (dai_cons (de_cval (v := (.int 100)) (d := (.int 100)) T.mc_End T.cv_End_MOST (by exact fun _ => .int _)) (dai_cons (de_gc T.m_HEARER_WORDS) dai_nil)))))))
  (dss_cons (ds_expr (de_call V_check_machine.ok hg (hr.mono (by decide)) (by rfl) V_check_machine.mg V_check_machine.kp V_check_machine.bd .nil (fun _ => .nil) (E := E) ps_of zE (dai_cons de_str (dai_cons (dv 2) (dai_cons de_int (dai_cons (de_cval (v := (.int 100)) (d := (.int 100)) T.mc_End T.cv_End_MOST (by exact fun _ => .int _)) (dai_cons (de_gc T.m_SENDER_WORDS) dai_nil)))))))
  (dss_cons (ds_if (dt_cmp (op_inD hu65) opv_inD de_str (de_call V_reached.ok.up hg (hr.mono (by decide)) (by rfl) V_reached.mg V_reached.kp V_reached.bd .nil (fun _ => .nil) (E := E) ps_of zE (dai_cons (dv 1) (dai_cons de_int dai_nil))) (by rfl)) (dss_one (ds_raise O_BadEnd T.c_BadEnd rfl tk_of (hr.mono (by decide)) (by rfl) zE (da_cons de_str (da_cons de_non da_nil)) (len_cons (len_cons len_nil)))) dss_nil)
  (dss_cons (ds_fldS (i := 0) T.o_End.cl T.n_End_hearer_rows T.c_End (by decide) rfl (by decide) rfl (Or.inl rfl) (de_callTy call_tuple_of cv_tuple (by rfl) T.b_tuple (by decide +kernel) (da_cons (dv 1) da_nil)))
  (dss_cons (ds_fldS (i := 0) T.o_End.cl T.n_End_sender_rows T.c_End (by decide) rfl (by decide) rfl (Or.inl rfl) (de_callTy call_tuple_of cv_tuple (by rfl) T.b_tuple (by decide +kernel) (da_cons (dv 2) da_nil)))
  (dss_one (ds_fldS (i := 0) T.o_End.cl T.n_End_rows T.c_End (by decide) rfl (by decide) rfl (Or.inl rfl) (de_callTy call_tuple_of cv_tuple (by rfl) T.b_tuple (by decide +kernel) (da_cons (de_op op_cat opv_cat (de_call V_numbered_rows.ok.up hg (hr.mono (by decide)) (by rfl) V_numbered_rows.mg V_numbered_rows.kp V_numbered_rows.bd .nil (fun _ => .nil) (E := E) ps_of zE (dai_cons de_str (dai_cons (dv 1) dai_nil))) (de_call V_numbered_rows.ok.up hg (hr.mono (by decide)) (by rfl) V_numbered_rows.mg V_numbered_rows.kp V_numbered_rows.bd .nil (fun _ => .nil) (E := E) ps_of zE (dai_cons de_str (dai_cons (dv 2) dai_nil)))) da_nil)))))))))
theorem dv_End_eq {ct : Ct} {f : Addr} {fd : FuncData} (T : Txt K mg ct) (F : Fun K "__eq__" "End.__eq__" sEnd_eq f fd) : FnG P w K mg base CX0 1 f fd ["self", "other"] (spV K ct [false, false] Φ_End_eq) :=
  okVg F scEnd_eq rfl fun io cdv A out s H E hg hr hu66 => by
    have hu65 : (A.deeper (PyProof.Rows.envOfC "End.__eq__" (defScope sEnd_eq) s.heap.objs.size f cdv)).units + 65 < cLine := by omega
    exact (dss_one (ds_ret (de_and (de_isO T.o_End T.c_End T.b_isinstance (by rfl) (dv 1) (by rfl) T.mc_End) (de_and (de_cmp (op_eqD hr.units) opv_eqD (de_fld (j := 0) T.o_End.cl T.n_End_hearer_rows T.c_End (by decide) rfl (dv 0)) (de_fld (j := 0) T.o_End.cl T.n_End_hearer_rows T.c_End (by decide) rfl (dv 1)) (nomark _)) (de_one (de_cmp (op_eqD hr.units) opv_eqD (de_fld (j := 1) T.o_End.cl T.n_End_sender_rows T.c_End (by decide) rfl (dv 0)) (de_fld (j := 1) T.o_End.cl T.n_End_sender_rows T.c_End (by decide) rfl (dv 1)) (nomark _)))))))
theorem dv_End_contains {ct : Ct} {f : Addr} {fd : FuncData} (T : Txt K mg ct) (F : Fun K "__contains__" "End.__contains__" sEnd_contains f fd) : FnG P w K mg base CX0 1 f fd ["self", "x"] (spV K ct [false, false] Φ_End_contains) :=
  okVg F scEnd_contains rfl fun io cdv A out s H E hg hr hu66 => by
    have hu65 : (A.deeper (PyProof.Rows.envOfC "End.__contains__" (defScope sEnd_contains) s.heap.objs.size f cdv)).units + 65 < cLine := by omega
    exact (dss_cons (ds_if (DW.dt (dw_or (dt_not (dt_val (de_isi (n := .tuple) rfl (by decide) T.b_isinstance (by rfl) (dv 1) (pe_bltn (v := .ty "tuple") (by rfl) T.b_tuple (by decide +kernel) rfl)))) (dw_or1 (dt_val (de_callB (call_anyB hr.hd) cv_any (by rfl) T.b_any (by decide +kernel) (da_cons (de_comp (own := [("item", 2)]) (Zb := ZNo) rfl scEnd_contains.nd (di_seq (dv 1)) (blkOk_by (N := ["self", "x", "item"]) (own := [("item", 2)]) (sc := defScope sEnd_contains) (by decide +kernel)) (by rfl) (fun _ _ _ _ _ => (dgn 2 scEnd_contains.nd)) (fun _ _ _ _ _ => dts_nil) (fun _ _ _ _ _ => (de_isi (n := .bool) rfl (by decide) T.b_isinstance (by rfl) (dv 2) (pe_bltn (v := .ty "bool") (by rfl) T.b_bool (by decide +kernel) rfl)))) da_nil)))))) (dss_one (ds_ret de_bl)) dss_nil)
  (dss_one (ds_ret (de_or (de_cmp (op_inT hu66) opv_inT (dv 1) (de_fld (j := 0) T.o_End.cl T.n_End_hearer_rows T.c_End (by decide) rfl (dv 0)) (by rfl)) (de_one (de_cmp (op_inT hu66) opv_inT (dv 1) (de_fld (j := 1) T.o_End.cl T.n_End_sender_rows T.c_End (by decide) rfl (dv 0)) (by rfl)))))))
def F_End_len : Ev Fl := (fRet (fCB (o1 oLen) (fCons (fUn (oFld "End" 2) (fVar 0)) fNil)))
def Φ_End_len : List D → Res := fun ds => (runV [false] 1 F_End_len ds).quiet
theorem dv_End_len {ct : Ct} {f : Addr} {fd : FuncData} (T : Txt K mg ct) (F : Fun K "__len__" "End.__len__" sEnd_len f fd) : FnG P w K mg base CX0 1 f fd ["self"] (spV K ct [false] Φ_End_len) :=
  okVg F scEnd_len rfl fun io cdv A out s H E hg hr hu66 => by
    have hu65 : (A.deeper (PyProof.Rows.envOfC "End.__len__" (defScope sEnd_len) s.heap.objs.size f cdv)).units + 65 < cLine := by omega
    exact (dss_one (ds_ret (de_callB call_lenA cv_len (by rfl) T.b_len (by decide +kernel) (da_cons (de_fld (j := 2) T.o_End.cl T.n_End_rows T.c_End (by decide) rfl (dv 0)) da_nil))))
theorem dv_End_iter {ct : Ct} {f : Addr} {fd : FuncData} (T : Txt K mg ct) (F : Fun K "__iter__" "End.__iter__" sEnd_iter f fd) : FnN P w K mg base CX0 1 f fd ["self"] (spIterOf K (cA ct "End") "rows") := by
  refine okN F scEnd_iter (fun n vs H Q E h => ?_) (fun cdv A outer s H vs Q E hr h => ?_)
  · obtain ⟨a, dx, t, fs, xs, rfl, _⟩ := h
    rfl
  · obtain ⟨a, dx, t, fs, xs, rfl, ea, el, et, k⟩ := h
    refine ⟨_, (pss_one (ps_ret (pe_callB call_iterT (by rfl) T.b_iter (by decide +kernel) (pa_cons (pe_fld (pv 0) rfl) pa_nil)))), ?_⟩
    exact ⟨_, rfl, a, _, dx, fs, _, rfl, ea, T.o_End.cl, T.n_End_rows, el, t, xs, rfl, et, k⟩
theorem dv_machine_text {ct : Ct} {f : Addr} {fd : FuncData} (T : Txt K mg ct) (F : Fun K "machine_text" "machine_text" smachine_text f fd) : FnG P w K mg base CX0 1 f fd ["rows"] (spV K ct [false] Φ_machine_text) :=
  okVg F scmachine_text rfl fun io cdv A out s H E hg hr hu66 => by
    have hu65 : (A.deeper (PyProof.Rows.envOfC "machine_text" (defScope smachine_text) s.heap.objs.size f cdv)).units + 65 < cLine := by omega
    exact (dss_one (ds_ret (de_join de_str (de_comp (own := [("put", 1), ("on_strong", 2), ("on_weak", 3)]) (Zb := ZNo) rfl scmachine_text.nd (di_seq (dv 0)) (blkOk_by (N := ["rows", "put", "on_strong", "on_weak"]) (own := [("put", 1), ("on_strong", 2), ("on_weak", 3)]) (sc := defScope smachine_text) (by decide +kernel)) (by rfl) (fun _ _ _ _ _ => (dg_tup rfl (dgs_cons (dgn 1 scmachine_text.nd) (dgs_cons (dgn 2 scmachine_text.nd) (dgs_cons (dgn 3 scmachine_text.nd) dgs_nil))))) (fun _ _ _ _ _ => dts_nil) (fun _ _ _ _ _ => (de_joined (.cons (de_fmt (dv 1)) (.cons de_str (.cons (de_fmt (dv 2)) (.cons de_str (.cons (de_fmt (dv 3)) .nil)))))))))))
theorem dv_End_str {ct : Ct} {f : Addr} {fd : FuncData} {f_machine_text : Addr} {fd_machine_text : FuncData} (T : Txt K mg ct) (V_machine_text : Vx P w K mg base 1 "machine_text" f_machine_text fd_machine_text ["rows"] ct [false] Φ_machine_text) (F : Fun K "__str__" "End.__str__" sEnd_str f fd) : FnG P w K mg base CX0 2 f fd ["self"] (spV K ct [false] Φ_End_str) :=
  okVg F scEnd_str rfl fun io cdv A out s H E hg hr hu66 => by
    have hu65 : (A.deeper (PyProof.Rows.envOfC "End.__str__" (defScope sEnd_str) s.heap.objs.size f cdv)).units + 65 < cLine := by omega
    exact (dss_one (ds_ret (de_joined (.cons (de_fmt (de_call V_machine_text.ok hg (hr.mono (by decide)) (by rfl) V_machine_text.mg V_machine_text.kp V_machine_text.bd .nil (fun _ => .nil) (E := E0v) pass0 zno_any (dai_cons (de_fld (j := 0) T.o_End.cl T.n_End_hearer_rows T.c_End (by decide) rfl (dv 0)) dai_nil))) (.cons de_str (.cons (de_fmt (de_call V_machine_text.ok hg (hr.mono (by decide)) (by rfl) V_machine_text.mg V_machine_text.kp V_machine_text.bd .nil (fun _ => .nil) (E := E0v) pass0 zno_any (dai_cons (de_fld (j := 1) T.o_End.cl T.n_End_sender_rows T.c_End (by decide) rfl (dv 0)) dai_nil))) .nil))))))
theorem dv_is_numeral {ct : Ct} {f : Addr} {fd : FuncData} (T : Txt K mg ct) (F : Fun K "is_numeral" "is_numeral" sis_numeral f fd) : FnG P w K mg base CX0 1 f fd ["piece"] (spV K ct [false] Φ_is_numeral) :=
  okVg F scis_numeral rfl fun io cdv A out s H E hg hr hu66 => by
    have hu65 : (A.deeper (PyProof.Rows.envOfC "is_numeral" (defScope sis_numeral) s.heap.objs.size f cdv)).units + 65 < cLine := by omega
    exact (dss_cons (ds_if (DW.dt (dw_or (dt_not (dt_val (de_isascii (dv 0)))) (dw_or (dt_not (dt_val (de_isdigit (dv 0)))) (dw_or1 (dt_cmp op_gt opv_gt (de_callB call_lenA cv_len (by rfl) T.b_len (by decide +kernel) (da_cons (dv 0) da_nil)) (de_gc T.m_MOST_DIGITS) (nomark _)))))) (dss_one (ds_ret de_bl)) dss_nil)
  (dss_one (ds_ret (de_or (de_cmp op_eq opv_eqS (dv 0) de_str (nomark _)) (de_one (de_not (de_starts (dv 0) de_str)))))))
theorem dv_read_follower {ct : Ct} {f : Addr} {fd : FuncData} {f_is_numeral : Addr} {fd_is_numeral : FuncData} (T : Txt K mg ct) (V_is_numeral : Vx P w K mg base 1 "is_numeral" f_is_numeral fd_is_numeral ["piece"] ct [false] Φ_is_numeral) (F : Fun K "read_follower" "read_follower" sread_follower f fd) : FnG P w K mg base CX0 2 f fd ["piece"] (spV K ct [false] Φ_read_follower) :=
  okVg F scread_follower rfl fun io cdv A out s H E hg hr hu66 => by
    have hu65 : (A.deeper (PyProof.Rows.envOfC "read_follower" (defScope sread_follower) s.heap.objs.size f cdv)).units + 65 < cLine := by omega
    exact (dss_cons (ds_if (DW.dt (dw_or (dt_cmp (op_inT hu66) opv_inT (dv 0) (de_gc T.m_HEARER_WORDS) (by rfl)) (dw_or1 (dt_cmp (op_inT hu66) opv_inT (dv 0) (de_gc T.m_SENDER_WORDS) (by rfl))))) (dss_one (ds_ret (dv 0))) dss_nil)
  (dss_cons (ds_if (dt_val (de_call V_is_numeral.ok hg (hr.mono (by decide)) (by rfl) V_is_numeral.mg V_is_numeral.kp V_is_numeral.bd .nil (fun _ => .nil) (E := E0v) pass0 zno_any (dai_cons (dv 0) dai_nil))) (dss_one (ds_ret (de_callTy call_int_str cv_intS (by rfl) T.b_int (by decide +kernel) (da_cons (dv 0) da_nil)))) dss_nil)
  (dss_one (ds_ret de_non))))
theorem dv_read_row {ct : Ct} {f : Addr} {fd : FuncData} {f_read_follower : Addr} {fd_read_follower : FuncData} (T : Txt K mg ct) (V_read_follower : Vx P w K mg base 2 "read_follower" f_read_follower fd_read_follower ["piece"] ct [false] Φ_read_follower) (F : Fun K "read_row" "read_row" sread_row f fd) : FnG P w K mg base CX0 3 f fd ["text"] (spV K ct [false] Φ_read_row) :=
  okVg F scread_row rfl fun io cdv A out s H E hg hr hu66 => by
    have hu65 : (A.deeper (PyProof.Rows.envOfC "read_row" (defScope sread_row) s.heap.objs.size f cdv)).units + 65 < cLine := by omega
    exact (dss_cons (dset 1 scread_row.nd (de_split (dv 0) de_str))
  (dss_cons (ds_if (DW.dt (dw_or (dt_cmp op_ne opv_neS (de_callB call_lenA cv_len (by rfl) T.b_len (by decide +kernel) (da_cons (dv 1) da_nil)) de_int (nomark _)) (dw_or1 (dt_cmp (op_notInT hu66) opv_notInT (dix (dv 1) de_int) (de_tup (da_cons de_str (da_cons de_str da_nil))) (by rfl))))) (dss_one (ds_ret de_non)) dss_nil)
  (dss_cons (dset 2 scread_row.nd (de_call V_read_follower.ok hg (hr.mono (by decide)) (by rfl) V_read_follower.mg V_read_follower.kp V_read_follower.bd .nil (fun _ => .nil) (E := E0v) pass0 zno_any (dai_cons (dix (dv 1) de_int) dai_nil)))
  (dss_cons (dset 3 scread_row.nd (de_call V_read_follower.ok hg (hr.mono (by decide)) (by rfl) V_read_follower.mg V_read_follower.kp V_read_follower.bd .nil (fun _ => .nil) (E := E0v) pass0 zno_any (dai_cons (dix (dv 1) de_int) dai_nil)))
  (dss_cons (ds_if (DW.dt (dw_or (dt_cmp op_isN opv_isN (dv 2) de_non (nomark _)) (dw_or1 (dt_cmp op_isN opv_isN (dv 3) de_non (nomark _))))) (dss_one (ds_ret de_non)) dss_nil)
  (dss_one (ds_ret (de_tup (da_cons (de_callTy call_int_str cv_intS (by rfl) T.b_int (by decide +kernel) (da_cons (dix (dv 1) de_int) da_nil)) (da_cons (dv 2) (da_cons (dv 3) da_nil)))))))))))
theorem dv_read_machines {ct : Ct} {f : Addr} {fd : FuncData} {f_read_row : Addr} {fd_read_row : FuncData} (T : Txt K mg ct) (V_read_row : Vx P w K mg base 3 "read_row" f_read_row fd_read_row ["text"] ct [false] Φ_read_row) (F : Fun K "read_machines" "read_machines" sread_machines f fd) : FnG P w K mg base CX0 4 f fd ["text"] (spV K ct [false] Φ_read_machines) :=
  okVg F scread_machines rfl fun io cdv A out s H E hg hr hu66 => by
    have hu65 : (A.deeper (PyProof.Rows.envOfC "read_machines" (defScope sread_machines) s.heap.objs.size f cdv)).units + 65 < cLine := by omega
    exact (dss_cons (ds_if (dt_not (dt_val (de_isi (n := .str) rfl (by decide) T.b_isinstance (by rfl) (dv 0) (pe_bltn (v := .ty "str") (by rfl) T.b_str (by decide +kernel) rfl)))) (dss_one (ds_ret de_non)) dss_nil)
  (dss_cons (ds_comp (i := 1) (own := [("machine", 2)]) (Zb := ZNo) rfl scread_machines.nd rfl rfl (sw_true rfl rfl rfl (by decide +kernel)) (di_seq (de_split (dv 0) de_str)) (blkOk_by (N := ["text", "machines", "machine", "row"]) (own := [("machine", 2)]) (sc := defScope sread_machines) (by decide +kernel)) (by rfl) (fun _ _ _ _ _ => (dgn 2 scread_machines.nd)) (fun _ _ _ _ _ => dts_nil) (fun _ _ _ _ _ => (de_comp (own := [("row", 3)]) (Zb := ZNo) rfl scread_machines.nd (di_seq (de_split (dv 2) de_str)) (blkOk_by (N := ["text", "machines", "machine", "row"]) (own := [("row", 3)]) (sc := ({ kind := PySem.ScopeKind.function, names := [(PySem.Str.ofString ".0", PySem.NameKind.local), (PySem.Str.ofString "machine", PySem.NameKind.local)], isGenerator := false, isCoroutine := false, more := [] : PySem.Scope })) (by decide +kernel)) (by rfl) (fun _ _ _ _ _ => (dgn 3 scread_machines.nd)) (fun _ _ _ _ _ => dts_nil) (fun _ _ _ _ _ => (de_call V_read_row.ok hg (hr.mono (by decide)) (by rfl) V_read_row.mg V_read_row.kp V_read_row.bd .nil (fun _ => .nil) (E := E0v) pass0 zno_any (dai_cons (dv 3) dai_nil))))))
  (dss_cons (ds_if (DW.dt (dw_or (dt_cmp op_ne opv_neS (de_callB call_lenA cv_len (by rfl) T.b_len (by decide +kernel) (da_cons (dv 1) da_nil)) de_int (nomark _)) (dw_or (dt_cmp (op_inD hu65) opv_inD de_non (dix (dv 1) de_int) (by rfl)) (dw_or1 (dt_cmp (op_inD hu65) opv_inD de_non (dix (dv 1) de_int) (by rfl)))))) (dss_one (ds_ret de_non)) dss_nil)
  (dss_one (ds_ret (dv 1))))))
theorem dv_End_from_text {ct : Ct} {f : Addr} {fd : FuncData} {f_End_init : Addr} {fd_End_init : FuncData} {f_read_machines : Addr} {fd_read_machines : FuncData} {f_BadText_i : Addr} {fd_BadText_i : FuncData} (T : Txt K mg ct) (V_End_init : Vc P w K mg base (L2.CX P w) 5 "End" (cA ct "End") f_End_init fd_End_init ["self", "hearer", "sender"] ct [true, false, false] Φ_End_init) (V_read_machines : Vx P w K mg base 4 "read_machines" f_read_machines fd_read_machines ["text"] ct [false] Φ_read_machines) (O_BadText : Ox P w K mg base 1 "BadText" (cA ct "BadText") f_BadText_i fd_BadText_i ["self", "text"] (spXI (cA ct "BadText") ["text"])) (F : Fun K "from_text" "End.from_text" sEnd_from_text f fd) : FnG P w K mg base (L2.CX P w) 7 f fd ["cls", "text"] (spV K ct [false, false] Φ_End_from_text) :=
  okXV F scEnd_from_text rfl fun io cdv A out s H E hg hr hu66 => by
    have hu65 : (A.deeper (PyProof.Rows.envOfC "End.from_text" (defScope sEnd_from_text) s.heap.objs.size f cdv)).units + 65 < cLine := by omega
    exact (dss_cons (dset 2 scEnd_from_text.nd (de_call V_read_machines.ok.up hg (hr.mono (by decide)) (by rfl) V_read_machines.mg V_read_machines.kp V_read_machines.bd .nil (fun _ => .nil) (E := E) ps_of zE (dai_cons (dv 1) dai_nil)))
  (dss_cons (ds_if (dt_cmp op_isN opv_isN (dv 2) de_non (nomark _)) (dss_one (ds_raise O_BadText T.c_BadText rfl tk_of (hr.mono (by decide)) (by rfl) zE (da_cons (dv 1) da_nil) (len_cons len_nil))) dss_nil)
  (dss_cons (ds_asg (dv 2) (dg_unl rfl (dgs_cons (dgn 3 scEnd_from_text.nd) (dgs_cons (dgn 4 scEnd_from_text.nd) dgs_nil))))
  (dss_one (ds_ret (de_makeL (i := 0) (M := V_End_init.mkC) V_End_init.ok T.c_End hg (hr.mono (by decide)) rfl (by first | exact Or.inl rfl | exact Or.inr (Or.inl rfl) | exact Or.inr (Or.inr rfl)) V_End_init.bd .nil (fun _ => .nil) (E := fun _ => E) (pT ps_of) zE (da_cons (dv 3) (da_cons (dv 4) da_nil))))))))
def F_L_bag : Ev Fl := (fSeq (fAsg (.nm 2) (fIte (fB (fOp (oI fun i j => .bl (decide (i < j))) (fVar 1) (fCB (o1 oLen) (fCons (fVar 0) fNil)))) (fOp oIx (fVar 0) (fVar 1)) (fC (.int 0))))
  (fSeq (fAsg (.nm 3) (fIte (fB (fOp (oI fun i j => .bl (decide (j ≤ i))) (fCB (o1 oAbs) (fCons (fVar 2) fNil)) (fOp (oIC (fun i j => decide (0 ≤ j) && decide ((Builtin.Int.intBits i : Int) * j ≤ 2 ^ 27)) fun i j => .int (i ^ j.toNat)) (fC (.int 10)) (fC (.int 18))))) (fCB (o1 oAbs) (fCons (fVar 2) fNil)) (fC (.int 0))))
  (fRetW (fLst (fCons (fVar 3) (fCons (fOp (oI fun i j => .int (i + j)) (fOp (oI fun i j => .int (i + j)) (fOp (oIC cMul fun i j => .int (i * j)) (fOp (oIC (fun _ j => decide (0 < j)) fun i j => .int (i % j)) (fCB (o1 oInt) (fCons (fVar 2) fNil)) (fC (.int 2305843009213693951))) (fC (.int 45991))) (fOp (oIC cMul fun i j => .int (i * j)) (fC (.int 5407)) (fVar 1))) (fC (.int 31))) (fCons (fC (.int 0)) fNil)))))))
def Φ_L_bag : List D → Res := fun ds => (runV [false, false] 4 F_L_bag ds).quiet
theorem dv_L_bag {ct : Ct} {f : Addr} {fd : FuncData} (T : Txt K mg ct) (F : Fun K "_law_bag" "_law_bag" sL_bag f fd) : FnG P w K mg base CX0 1 f fd ["_law_script", "_law_at"] (spV K ct [false, false] Φ_L_bag) :=
  okVg F scL_bag rfl fun io cdv A out s H E hg hr hu66 => by
    have hu65 : (A.deeper (PyProof.Rows.envOfC "_law_bag" (defScope sL_bag) s.heap.objs.size f cdv)).units + 65 < cLine := by omega
    exact (dss_cons (dset 2 scL_bag.nd (de_ite (dt_cmp op_lt opv_lt (dv 1) (de_callB call_lenA cv_len (by rfl) T.b_len (by decide +kernel) (da_cons (dv 0) da_nil)) (nomark _)) (dix (dv 0) (dv 1)) de_int))
  (dss_cons (dset 3 scL_bag.nd (de_ite (dt_cmp op_ge opv_ge (de_callB call_abs cv_abs (by rfl) T.b_abs (by decide +kernel) (da_cons (dv 2) da_nil)) (de_op Sb.op_powB opv_pow de_int de_int) (nomark _)) (de_callB call_abs cv_abs (by rfl) T.b_abs (by decide +kernel) (da_cons (dv 2) da_nil)) de_int))
  (dss_one (ds_retW (dn_lst (da_cons (dv 3) (da_cons (de_op op_add opv_add (de_op op_add opv_add (de_op op_mul opv_mul (de_op op_mod opv_mod (de_callTy call_int1 cv_int (by rfl) T.b_int (by decide +kernel) (da_cons (dv 2) da_nil)) de_int) de_int) (de_op op_mul opv_mul de_int (dv 1))) de_int) (da_cons de_int da_nil))))))))
theorem dv_L_take {ct : Ct} {f : Addr} {fd : FuncData} (T : Txt K mg ct) (F : Fun K "_law_take" "_law_take" sL_take f fd) : FnG P w K mg base CX0 1 f fd ["_law_bag_here", "_law_many"] (spV K ct [true, false] Φ_L_take) :=
  okVg F scL_take rfl fun io cdv A out s H E hg hr hu66 => by
    have hu65 : (A.deeper (PyProof.Rows.envOfC "_law_take" (defScope sL_take) s.heap.objs.size f cdv)).units + 65 < cLine := by omega
    exact (dss_cons (ds_if (dt_cmp op_gt opv_gt (dixO 0 de_int) de_int (nomark _)) (dss_cons (dset 2 scL_take.nd (de_op op_mod opv_mod (de_callTy call_int1 cv_int (by rfl) T.b_int (by decide +kernel) (da_cons (dixO 0 de_int) da_nil)) (dv 1)))
  (dss_cons (dputL 0 (de_op op_fdiv opv_fdiv (dixO 0 de_int) (dv 1)) de_int)
  (dss_one (ds_ret (dv 2))))) dss_nil)
  (dss_cons (dputL 0 (de_op op_add opv_add (dixO 0 de_int) de_int) de_int)
  (dss_cons (dset 3 scL_take.nd (de_op op_mod opv_mod (de_callTy call_int1 cv_int (by rfl) T.b_int (by decide +kernel) (da_cons (de_op Sb.op_powB opv_pow (de_op op_add opv_add (dixO 0 de_int) (de_op op_mul opv_mul de_int (dixO 0 de_int))) de_int) da_nil)) de_int))
  (dss_cons (dset 3 scL_take.nd (de_op op_mod opv_mod (de_callTy call_int1 cv_int (by rfl) T.b_int (by decide +kernel) (da_cons (de_op Sb.op_powB opv_pow (de_op op_add opv_add (dv 3) (de_op op_mul opv_mul de_int (dixO 0 de_int))) de_int) da_nil)) de_int))
  (dss_one (ds_ret (de_op op_mod opv_mod (de_op op_fdiv opv_fdiv (dv 3) de_int) (dv 1))))))))
theorem dv_L_place {ct : Ct} {f : Addr} {fd : FuncData} {f_L_take : Addr} {fd_L_take : FuncData} (T : Txt K mg ct) (V__law_take : Vx P w K mg base 1 "_law_take" f_L_take fd_L_take ["_law_bag_here", "_law_many"] ct [true, false] Φ_L_take) (F : Fun K "_law_place" "_law_place" sL_place f fd) : FnG P w K mg base CX0 2 f fd ["_law_bag_here", "_law_many", "_law_words"] (spV K ct [true, false, false] Φ_L_place) :=
  okVg F scL_place rfl fun io cdv A out s H E hg hr hu66 => by
    have hu65 : (A.deeper (PyProof.Rows.envOfC "_law_place" (defScope sL_place) s.heap.objs.size f cdv)).units + 65 < cLine := by omega
    exact (dss_cons (dset 3 scL_place.nd (de_call V__law_take.ok hg (hr.mono (by decide)) (by rfl) V__law_take.mg V__law_take.kp V__law_take.bd .nil (fun _ => .nil) (E := E0v) pass0 zno_any (dio 0 (dai_cons (de_op op_add opv_add (dv 1) de_int) dai_nil))))
  (dss_one (ds_ret (de_ite (dt_cmp op_lt opv_lt (dv 3) (dv 1) (nomark _)) (dv 3) (dix (dv 2) (de_op op_mod opv_mod (de_callTy call_int1 cv_int (by rfl) T.b_int (by decide +kernel) (da_cons (dv 3) da_nil)) de_int))))))
theorem dv_L_rows {ct : Ct} {f : Addr} {fd : FuncData} {f_L_place : Addr} {fd_L_place : FuncData} {f_L_take : Addr} {fd_L_take : FuncData} (T : Txt K mg ct) (V__law_place : Vx P w K mg base 2 "_law_place" f_L_place fd_L_place ["_law_bag_here", "_law_many", "_law_words"] ct [true, false, false] Φ_L_place) (V__law_take : Vx P w K mg base 1 "_law_take" f_L_take fd_L_take ["_law_bag_here", "_law_many"] ct [true, false] Φ_L_take) (F : Fun K "_law_rows" "_law_rows" sL_rows f fd) : FnG P w K mg base CX0 3 f fd ["_law_bag_here", "_law_many", "_law_words"] (spV K ct [true, false, false] Φ_L_rows) :=
  okVg F scL_rows rfl fun io cdv A out s H E hg hr hu66 => by
    have hu65 : (A.deeper (PyProof.Rows.envOfC "_law_rows" (defScope sL_rows) s.heap.objs.size f cdv)).units + 65 < cLine := by omega
    exact (dss_one (ds_retW (dn_comp (own := [("_law_k", 3)]) (Zb := ZNo) rfl scL_rows.nd (di_rng1 (by rfl) T.b_range (da_cons (dv 1) da_nil)) (blkOk_by (N := ["_law_bag_here", "_law_many", "_law_words", "_law_k"]) (own := [("_law_k", 3)]) (sc := defScope sL_rows) (by decide +kernel)) (by rfl) (fun _ _ _ _ _ => (dgn 3 scL_rows.nd)) (fun _ _ _ _ _ => dts_nil) (fun _ _ _ _ _ => (de_tup (da_cons (de_call V__law_take.ok hg (hr.mono (by decide)) (by rfl) V__law_take.mg V__law_take.kp V__law_take.bd .nil (fun _ => .nil) (E := E0v) pass0 zno_any (dio 0 (dai_cons de_int dai_nil))) (da_cons (de_call V__law_place.ok hg (hr.mono (by decide)) (by rfl) V__law_place.mg V__law_place.kp V__law_place.bd .nil (fun _ => .nil) (E := E0v) pass0 zno_any (dio 0 (dai_cons (dv 1) (dai_cons (dv 2) dai_nil)))) (da_cons (de_call V__law_place.ok hg (hr.mono (by decide)) (by rfl) V__law_place.mg V__law_place.kp V__law_place.bd .nil (fun _ => .nil) (E := E0v) pass0 zno_any (dio 0 (dai_cons (dv 1) (dai_cons (dv 2) dai_nil)))) da_nil))))))))
theorem dv_L_led {ct : Ct} {f : Addr} {fd : FuncData} (T : Txt K mg ct) (F : Fun K "_law_led" "_law_led" sL_led f fd) : FnG P w K mg base CX0 1 f fd ["_law_rows_here", "_law_first"] (spV K ct [false, false] Φ_L_led) :=
  okVg F scL_led rfl fun io cdv A out s H E hg hr hu66 => by
    have hu65 : (A.deeper (PyProof.Rows.envOfC "_law_led" (defScope sL_led) s.heap.objs.size f cdv)).units + 65 < cLine := by omega
    exact (dss_cons (ds_par (i := 2) (j := 3) rfl scL_led.nd rfl rfl (by decide) rfl rfl (DN.q (dn_lst (da_cons (dv 1) da_nil))) (DE.q de_int) (hp := fun ha => ps_par rfl scL_led.nd rfl rfl (by decide) rfl rfl ha (by rfl)))
  (dss_cons (ds_while 100000 PassesOwn.never (dt_cmp op_lt opv_lt (dv 3) (dlenO 2 T.b_len) (nomark _)) (dss_cons (ds_for PassesOwn.never rfl (di_seq (de_slice sl_tupA sv_tup (dix (dv 0) (dixO 2 (dv 3))) (do_some de_int) do_none)) (dgn 4 scL_led.nd) (dss_one (ds_if (DW.dt (dw_and (dt_not (dt_val (de_isi (n := .str) rfl (by decide) T.b_isinstance (by rfl) (dv 4) (pe_bltn (v := .ty "str") (by rfl) T.b_str (by decide +kernel) rfl)))) (dw_and1 (dtnotInO 2 hu65 (dv 4))))) (dss_one (dapp 2 (dv 4))) dss_nil)))
  (dss_one (dset 3 scL_led.nd (de_op op_add opv_add (dv 3) de_int)))))
  (dss_one (ds_retO (i := 2) (by rfl) (by first | exact Or.inl rfl | exact Or.inr (Or.inl rfl))))))
theorem dv_L_hearer {ct : Ct} {f : Addr} {fd : FuncData} {f_L_led : Addr} {fd_L_led : FuncData} {f_L_rows : Addr} {fd_L_rows : FuncData} (T : Txt K mg ct) (V__law_led : Vx P w K mg base 1 "_law_led" f_L_led fd_L_led ["_law_rows_here", "_law_first"] ct [false, false] Φ_L_led) (V__law_rows : Vx P w K mg base 3 "_law_rows" f_L_rows fd_L_rows ["_law_bag_here", "_law_many", "_law_words"] ct [true, false, false] Φ_L_rows) (F : Fun K "_law_hearer" "_law_hearer" sL_hearer f fd) : FnG P w K mg base CX0 4 f fd ["_law_bag_here", "_law_many"] (spV K ct [true, false] Φ_L_hearer) :=
  okVg F scL_hearer rfl fun io cdv A out s H E hg hr hu66 => by
    have hu65 : (A.deeper (PyProof.Rows.envOfC "_law_hearer" (defScope sL_hearer) s.heap.objs.size f cdv)).units + 65 < cLine := by omega
    exact (dss_cons (ds_new (i := 2) scL_hearer.nd rfl (by first | exact Or.inl rfl | exact Or.inr rfl) (dn_call V__law_rows.ok hg (hr.mono (by decide)) (by rfl) V__law_rows.mg V__law_rows.kp V__law_rows.bd .nil (fun _ => .nil) (E := E0v) pass0 zno_any (dio 0 (dai_cons (dv 1) (dai_cons (de_lst (da_cons de_str (da_cons de_str da_nil))) dai_nil)))))
  (dss_cons (ds_for PassesOwn.never rfl (di_seq (de_callL V__law_led.ok hg (hr.mono (by decide)) (by rfl) V__law_led.mg V__law_led.kp V__law_led.bd .nil (E := E0v) pass0 (dio 2 (dai_cons de_int dai_nil)))) (dgn 3 scL_hearer.nd) (dss_cons (ds_asg (dixO 2 (dv 3)) (dg_tup rfl (dgs_cons (dgn 4 scL_hearer.nd) (dgs_cons (dgn 5 scL_hearer.nd) (dgs_cons (dgn 6 scL_hearer.nd) dgs_nil)))))
  (dss_one (dputL 2 (de_tup (da_cons (dv 4) (da_cons (de_ite (dt_cmp (op_eqD hr.units) opv_eqD (dv 5) de_str (nomark _)) de_str (dv 5)) (da_cons (de_ite (dt_cmp (op_eqD hr.units) opv_eqD (dv 6) de_str (nomark _)) de_str (dv 6)) da_nil)))) (dv 3)))))
  (dss_one (ds_retO (i := 2) (by rfl) (by first | exact Or.inl rfl | exact Or.inr (Or.inl rfl))))))
theorem dv_L_sender {ct : Ct} {f : Addr} {fd : FuncData} {f_L_rows : Addr} {fd_L_rows : FuncData} (T : Txt K mg ct) (V__law_rows : Vx P w K mg base 3 "_law_rows" f_L_rows fd_L_rows ["_law_bag_here", "_law_many", "_law_words"] ct [true, false, false] Φ_L_rows) (F : Fun K "_law_sender" "_law_sender" sL_sender f fd) : FnG P w K mg base CX0 4 f fd ["_law_bag_here", "_law_many"] (spV K ct [true, false] Φ_L_sender) :=
  okVg F scL_sender rfl fun io cdv A out s H E hg hr hu66 => by
    have hu65 : (A.deeper (PyProof.Rows.envOfC "_law_sender" (defScope sL_sender) s.heap.objs.size f cdv)).units + 65 < cLine := by omega
    exact (dss_one (ds_retW (dn_call V__law_rows.ok hg (hr.mono (by decide)) (by rfl) V__law_rows.mg V__law_rows.kp V__law_rows.bd .nil (fun _ => .nil) (E := E0v) pass0 zno_any (dio 0 (dai_cons (dv 1) (dai_cons (de_lst (da_cons de_str (da_cons de_str da_nil))) dai_nil))))))
def E_L_rows_of_1 : Ev D := (fOp oIx (fVar 2) (fC (.int 2)))
def T_L_rows_of_1 : Ev Bool := (fB (fOp (oEqS false) (fOp oIx (fVar 2) (fC (.int 0))) (fVar 1)))
def F_L_rows_of : Ev Fl := (fRetW (fComp (fItOwn "End" 2 (fVar 0)) (.nm 2) T_L_rows_of_1 E_L_rows_of_1 [2]))
def Φ_L_rows_of : List D → Res := fun ds => (runV [false, false] 3 F_L_rows_of ds).quiet
theorem dv_L_rows_of {ct : Ct} {f : Addr} {fd : FuncData} {i_End : Addr} {fdi_End : FuncData} (T : Txt K mg ct) (I_End : Vit P w K mg base 1 (cA ct "End") i_End fdi_End "rows") (F : Fun K "_law_rows_of" "_law_rows_of" sL_rows_of f fd) : FnG P w K mg base CX0 2 f fd ["_law_end", "_law_name"] (spV K ct [false, false] Φ_L_rows_of) :=
  okVg F scL_rows_of rfl fun io cdv A out s H E hg hr hu66 => by
    have hu65 : (A.deeper (PyProof.Rows.envOfC "_law_rows_of" (defScope sL_rows_of) s.heap.objs.size f cdv)).units + 65 < cLine := by omega
    exact (dss_one (ds_retW (dn_comp (own := [("_law_part", 2)]) (Zb := ZNo) rfl scL_rows_of.nd (di_own (j := 2) T.c_End (by decide) rfl I_End.mt I_End.ok (hr.mono (by decide)) I_End.bd (dv 0)) (blkOk_by (N := ["_law_end", "_law_name", "_law_part"]) (own := [("_law_part", 2)]) (sc := defScope sL_rows_of) (by decide +kernel)) (by rfl) (fun _ _ _ _ _ => (dgn 2 scL_rows_of.nd)) (fun _ _ _ _ _ => dts_one (dt_cmp op_eq opv_eqS (dix (dv 2) de_int) (dv 1) (nomark _))) (fun _ _ _ _ _ => (dix (dv 2) de_int)))))
theorem tx_L_tried {ct : Ct} {f : Addr} {fd : FuncData} {f_End_str : Addr} {fd_End_str : FuncData} (T : Txt K mg ct) (V_End_str : Vm P w K mg base CX0 2 (cA ct "End") "__str__" f_End_str fd_End_str ["self"] ct [false] Φ_End_str) (F : Fun K "_law_tried" "_law_tried" sL_tried f fd) (hm : mg "_law_tried" = some (.ref f)) (kp : PySem.W.keepIn K (.ref f) = true) (bd : Binds K fd ["_law_call"] []) : Tx P w K mg base 12 "_law_tried" f fd "_law_call" ct (fun d => o1 (oStrOwn "End" Φ_End_str) [d]) (exOne "BadEnd" (gTup (gCons (gF 1) (gCons (gF 0) gNil)))) :=
  ⟨⟨sL_tried, ["_law_call", "e"], F, scL_tried, rfl, (by first | exact Or.inl rfl | exact Or.inr (Or.inl rfl) | exact Or.inr (Or.inr rfl)), fun cdv A out s H hg hr => tells_one (i := 1) scL_tried.nd rfl rfl (wrap_ty (fun pn xe => call_strG V_End_str.mt V_End_str.ok hg (hr.mono (by decide)) V_End_str.bd (E := E0v) pass0) (cv_strOwn T.c_End) (by rfl) T.b_str (by decide +kernel)) (fun _ => rfl) rfl rfl ⟨(by rfl), by decide, .inl T.me_BadEnd⟩ T.c_BadEnd T.te_BadEnd (fun a oe d pn hz hf => (xd_tup (xds_cons (xd_fld T.x_BadEnd T.c_BadEnd (by decide) rfl T.xn_BadEnd_part hz hf rfl (by first | exact Or.inl rfl | exact Or.inr (Or.inl rfl) | exact Or.inr (Or.inr rfl))) (xds_cons (xd_fld T.x_BadEnd T.c_BadEnd (by decide) rfl T.xn_BadEnd_row hz hf rfl (by first | exact Or.inl rfl | exact Or.inr (Or.inl rfl) | exact Or.inr (Or.inr rfl))) xds_nil))))⟩, hm, kp, bd⟩
def E_L_pair_right_1 : Ev D := (fVar 8)
def E_L_pair_right_2 : Ev D := (fVar 8)
def H_L_pair_right_1 : Ev Fl := (fAsg (.nm 6) (fTold (fun d => o1 (oStrOwn "End" Φ_End_str) [d]) (exOne "BadEnd" (gTup (gCons (gF 1) (gCons (gF 0) gNil)))) (fMake "End" [true, false, false] Φ_End_init [] (fCons (fUn (oFld "End" 1) (fVar 0)) (fCons (fUn (oFld "End" 0) (fVar 1)) fNil)))))
def R_L_pair_right_1 : Ev Fl := (fRet (fOp (oEq false) (fTold (fun d => o1 (oStrOwn "End" Φ_End_str) [d]) (exOne "BadEnd" (gTup (gCons (gF 1) (gCons (gF 0) gNil)))) (fCM "End" [false, false] Φ_End_from_text (fCons (fVar 7) fNil))) (fVar 6)))
def H_L_pair_right_2 : Ev Fl := (fAsg (.nm 7) (fOp oAddS (fOp oAddS (fOp oIx (fM1 oSplit (fCB (o1 (oStrOwn "End" Φ_End_str)) (fCons (fVar 0) fNil)) (fC (.str " | "))) (fC (.int 1))) (fC (.str " | "))) (fOp oIx (fM1 oSplit (fCB (o1 (oStrOwn "End" Φ_End_str)) (fCons (fVar 1) fNil)) (fC (.str " | "))) (fC (.int 0)))))
def R_L_pair_right_2 : Ev Fl := (fSeq H_L_pair_right_1
  R_L_pair_right_1)
def H_L_pair_right_3 : Ev Fl := (fIte (fOrT (fNotT (fB (fOp (oEqOwn "End" Φ_End_eq) (fVar 5) (fMake "End" [true, false, false] Φ_End_init [] (fCons (fUn (oFld "End" 0) (fVar 0)) (fCons (fUn (oFld "End" 1) (fVar 1)) fNil)))))) (fB (fOp (oEqS true) (fCB (o1 (oStrOwn "End" Φ_End_str)) (fCons (fVar 5) fNil)) (fOp oAddS (fOp oAddS (fVar 3) (fC (.str " | "))) (fVar 4))))) (fRet (fC (.bl false))) fNx)
def R_L_pair_right_3 : Ev Fl := (fSeq H_L_pair_right_2
  R_L_pair_right_2)
def H_L_pair_right_4 : Ev Fl := (fAsg (.nm 5) (fCM "End" [false, false] Φ_End_from_text (fCons (fOp oAddS (fOp oAddS (fVar 3) (fC (.str " | "))) (fVar 4)) fNil)))
def R_L_pair_right_4 : Ev Fl := (fSeq H_L_pair_right_3
  R_L_pair_right_3)
def H_L_pair_right_5 : Ev Fl := (fPar 3 4 (fOp oIx (fM1 oSplit (fCB (o1 (oStrOwn "End" Φ_End_str)) (fCons (fVar 0) fNil)) (fC (.str " | "))) (fC (.int 0))) (fOp oIx (fM1 oSplit (fCB (o1 (oStrOwn "End" Φ_End_str)) (fCons (fVar 1) fNil)) (fC (.str " | "))) (fC (.int 1))) false false)
def R_L_pair_right_5 : Ev Fl := (fSeq H_L_pair_right_4
  R_L_pair_right_4)
def H_L_pair_right_6 : Ev Fl := (fIte (fOrT (fB (fOp (oEq true) (fVar 2) (fOp oRep (fLst (fCons (fOp (oEqOwn "End" Φ_End_eq) (fVar 0) (fVar 1)) fNil)) (fC (.int 2))))) (fB (fOp (oEqS true) (fOp (oEqOwn "End" Φ_End_eq) (fVar 0) (fVar 1)) (fOp (oEqOwn "End" Φ_End_eq) (fVar 1) (fVar 0))))) (fRet (fC (.bl false))) fNx)
def R_L_pair_right_6 : Ev Fl := (fSeq H_L_pair_right_5
  R_L_pair_right_5)
def H_L_pair_right_7 : Ev Fl := (fAsg (.nm 2) (fLst (fCons (fOp (oEqS false) (fCB (o1 (oStrOwn "End" Φ_End_str)) (fCons (fVar 0) fNil)) (fCB (o1 (oStrOwn "End" Φ_End_str)) (fCons (fVar 1) fNil))) (fCons (fOp (oEq false) (fComp (fItOwn "End" 2 (fVar 0)) (.nm 8) fYes E_L_pair_right_1 [8]) (fComp (fItOwn "End" 2 (fVar 1)) (.nm 8) fYes E_L_pair_right_2 [8])) fNil))))
def R_L_pair_right_7 : Ev Fl := (fSeq H_L_pair_right_6
  R_L_pair_right_6)
def F_L_pair_right : Ev Fl := (fSeq H_L_pair_right_7
  R_L_pair_right_7)
def Φ_L_pair_right : List D → Res := fun ds => (runV [false, false] 9 F_L_pair_right ds).quiet
theorem dv_L_pair_right {ct : Ct} {f : Addr} {fd : FuncData} {c_ P_ : Addr} {tb : List Nat → Option Addr} {i_End : Addr} {fdi_End : FuncData} {f_End_eq : Addr} {fd_End_eq : FuncData} {f_End_init : Addr} {fd_End_init : FuncData} {f_End_str : Addr} {fd_End_str : FuncData} {f_End_from_text : Addr} {fd_End_from_text : FuncData} {f_L_tried : Addr} {fd_L_tried : FuncData} {p_End_hearer g_End_hearer : Addr} {fdg_End_hearer : FuncData} {p_End_sender g_End_sender : Addr} {fdg_End_sender : FuncData} (T : Txt K mg ct) (I_End : Vit P w K mg base 1 (cA ct "End") i_End fdi_End "rows") (V_End_eq : Vm P w K mg base CX0 1 (cA ct "End") "__eq__" f_End_eq fd_End_eq ["self", "other"] ct [false, false] Φ_End_eq) (V_End_init : Vc P w K mg base (L2.CX P w) 5 "End" (cA ct "End") f_End_init fd_End_init ["self", "hearer", "sender"] ct [true, false, false] Φ_End_init) (V_End_str : Vm P w K mg base CX0 2 (cA ct "End") "__str__" f_End_str fd_End_str ["self"] ct [false] Φ_End_str) (V_End_from_text : Vcm P w K mg base (L2.CX P w) 7 (cA ct "End") "from_text" f_End_from_text fd_End_from_text ["cls", "text"] ct [false, false] Φ_End_from_text) (TX__law_tried : Tx P w K mg base 12 "_law_tried" f_L_tried fd_L_tried "_law_call" ct (fun d => o1 (oStrOwn "End" Φ_End_str) [d]) (exOne "BadEnd" (gTup (gCons (gF 1) (gCons (gF 0) gNil))))) (P_End_hearer : Px P w K mg base (cA ct "End") p_End_hearer g_End_hearer fdg_End_hearer "hearer" "hearer_rows") (P_End_sender : Px P w K mg base (cA ct "End") p_End_sender g_End_sender fdg_End_sender "sender" "sender_rows") (TB : LamX.TabB base mg c_ P_) (hq : tb (enc ("_law_pair_right" ++ ".<locals>." ++ "<lambda>" : Str)) = some P_) (F : FunC K "_law_pair_right" "_law_pair_right" sL_pair_right f fd (.ref c_)) : FnG P w K mg base CX0 14 f fd ["_law_one", "_law_other"] (spVT K ct tb [false, false] Φ_L_pair_right) :=
  okVT F scL_pair_right rfl fun io A out s H E hg hr hu66 => by
    have hu65 : (A.deeper (PyProof.Rows.envOfC "_law_pair_right" (defScope sL_pair_right) s.heap.objs.size f (.ref c_))).units + 65 < cLine := by omega
    exact (dss_cons (dset 2 scL_pair_right.nd (de_lst (da_cons (de_cmp op_eq opv_eqS (de_callTy (call_strG V_End_str.mt V_End_str.ok hg (hr.mono (by decide)) V_End_str.bd (E := E0v) pass0) (cv_strOwn T.c_End) (by rfl) T.b_str (by decide +kernel) (da_cons (dv 0) da_nil)) (de_callTy (call_strG V_End_str.mt V_End_str.ok hg (hr.mono (by decide)) V_End_str.bd (E := E0v) pass0) (cv_strOwn T.c_End) (by rfl) T.b_str (by decide +kernel) (da_cons (dv 1) da_nil)) (nomark _)) (da_cons (de_cmp (op_eqD hr.units) opv_eqD (de_comp (own := [("_law_part", 8)]) (Zb := ZNo) rfl scL_pair_right.nd (di_own (j := 2) T.c_End (by decide) rfl I_End.mt I_End.ok (hr.mono (by decide)) I_End.bd (dv 0)) (blkOk_by (N := ["_law_one", "_law_other", "_law_found", "_law_left", "_law_right", "_law_whole", "_law_due", "_law_turned", "_law_part"]) (own := [("_law_part", 8)]) (sc := defScope sL_pair_right) (by decide +kernel)) (by rfl) (fun _ _ _ _ _ => (dgn 8 scL_pair_right.nd)) (fun _ _ _ _ _ => dts_nil) (fun _ _ _ _ _ => (dv 8))) (de_comp (own := [("_law_part", 8)]) (Zb := ZNo) rfl scL_pair_right.nd (di_own (j := 2) T.c_End (by decide) rfl I_End.mt I_End.ok (hr.mono (by decide)) I_End.bd (dv 1)) (blkOk_by (N := ["_law_one", "_law_other", "_law_found", "_law_left", "_law_right", "_law_whole", "_law_due", "_law_turned", "_law_part"]) (own := [("_law_part", 8)]) (sc := defScope sL_pair_right) (by decide +kernel)) (by rfl) (fun _ _ _ _ _ => (dgn 8 scL_pair_right.nd)) (fun _ _ _ _ _ => dts_nil) (fun _ _ _ _ _ => (dv 8))) (nomark _)) da_nil))))
  (dss_cons (ds_if (DW.dt (dw_or (dt_cmp (op_neD hr.units) opv_neD (dv 2) (de_op op_rep opv_rep (de_lst (da_cons (de_cmp (op_eqG V_End_eq.mt V_End_eq.ok hg (hr.mono (by decide)) V_End_eq.bd (E := E0v) pass0) (opv_eqOwn T.o_End T.c_End) (dv 0) (dv 1) (nomark _)) da_nil)) de_int) (nomark _)) (dw_or1 (dt_cmp op_ne opv_neS (de_cmp (op_eqG V_End_eq.mt V_End_eq.ok hg (hr.mono (by decide)) V_End_eq.bd (E := E0v) pass0) (opv_eqOwn T.o_End T.c_End) (dv 0) (dv 1) (nomark _)) (de_cmp (op_eqG V_End_eq.mt V_End_eq.ok hg (hr.mono (by decide)) V_End_eq.bd (E := E0v) pass0) (opv_eqOwn T.o_End T.c_End) (dv 1) (dv 0) (nomark _)) (nomark _))))) (dss_one (ds_ret de_bl)) dss_nil)
  (dss_cons (ds_par (i := 3) (j := 4) rfl scL_pair_right.nd rfl rfl (by decide) rfl rfl (DE.q (dix (de_split (de_callTy (call_strG V_End_str.mt V_End_str.ok hg (hr.mono (by decide)) V_End_str.bd (E := E0v) pass0) (cv_strOwn T.c_End) (by rfl) T.b_str (by decide +kernel) (da_cons (dv 0) da_nil)) de_str) de_int)) (DE.q (dix (de_split (de_callTy (call_strG V_End_str.mt V_End_str.ok hg (hr.mono (by decide)) V_End_str.bd (E := E0v) pass0) (cv_strOwn T.c_End) (by rfl) T.b_str (by decide +kernel) (da_cons (dv 1) da_nil)) de_str) de_int)) (hp := fun ha => ps_par rfl scL_pair_right.nd rfl rfl (by decide) rfl rfl ha (by rfl)))
  (dss_cons (dset 5 scL_pair_right.nd (de_cm V_End_from_text.cm V_End_from_text.ok T.c_End hg (hr.mono (by decide)) (by rfl) T.mc_End V_End_from_text.bd (E := fun _ => E0) (pT passNo) zno_any (da_cons (de_op op_add_str opv_addS (de_op op_add_str opv_addS (dv 3) de_str) (dv 4)) da_nil)))
  (dss_cons (ds_if (DW.dt (dw_or (dt_not (dt_cmp (op_eqG V_End_eq.mt V_End_eq.ok hg (hr.mono (by decide)) V_End_eq.bd (E := E0v) pass0) (opv_eqOwn T.o_End T.c_End) (dv 5) (de_make (M := V_End_init.mkC) V_End_init.ok T.c_End hg (hr.mono (by decide)) (by rfl) V_End_init.mg V_End_init.bd .nil (fun _ => .nil) (E := E0) passNo zno_any (da_cons (de_prop (E := E0) (j := 0) P_End_hearer T.o_End.cl T.c_End (by decide) rfl (hr.mono (by decide)) (dv 0)) (da_cons (de_prop (E := E0) (j := 1) P_End_sender T.o_End.cl T.c_End (by decide) rfl (hr.mono (by decide)) (dv 1)) da_nil))) (nomark _))) (dw_or1 (dt_cmp op_ne opv_neS (de_callTy (call_strG V_End_str.mt V_End_str.ok hg (hr.mono (by decide)) V_End_str.bd (E := E0v) pass0) (cv_strOwn T.c_End) (by rfl) T.b_str (by decide +kernel) (da_cons (dv 5) da_nil)) (de_op op_add_str opv_addS (de_op op_add_str opv_addS (dv 3) de_str) (dv 4)) (nomark _))))) (dss_one (ds_ret de_bl)) dss_nil)
  (dss_cons (dset 7 scL_pair_right.nd (de_op op_add_str opv_addS (de_op op_add_str opv_addS (dix (de_split (de_callTy (call_strG V_End_str.mt V_End_str.ok hg (hr.mono (by decide)) V_End_str.bd (E := E0v) pass0) (cv_strOwn T.c_End) (by rfl) T.b_str (by decide +kernel) (da_cons (dv 0) da_nil)) de_str) de_int) de_str) (dix (de_split (de_callTy (call_strG V_End_str.mt V_End_str.ok hg (hr.mono (by decide)) V_End_str.bd (E := E0v) pass0) (cv_strOwn T.c_End) (by rfl) T.b_str (by decide +kernel) (da_cons (dv 1) da_nil)) de_str) de_int)))
  (dss_cons (dset 6 scL_pair_right.nd (de_told (kb := 11) TX__law_tried hg (hr.mono (by decide)) (by decide) (by rfl) TB rfl (tbT_ph.trans hq) (LamX.lamS_by (show LamX.lamSB (defScope sL_pair_right) _ = true from by decide +kernel)) rfl (fun _ _ _ _ _ => rfl) (fun A out s H E f cc hg hr => (de_make (M := V_End_init.mkC) V_End_init.ok T.c_End hg (hr.mono (by decide)) (by rfl) V_End_init.mg V_End_init.bd .nil (fun _ => .nil) (E := E) ps_lam zE (da_cons (de_prop (E := E0) (j := 1) P_End_sender T.o_End.cl T.c_End (by decide) rfl (hr.mono (by decide)) (dv 0)) (da_cons (de_prop (E := E0) (j := 0) P_End_hearer T.o_End.cl T.c_End (by decide) rfl (hr.mono (by decide)) (dv 1)) da_nil))))))
  (dss_one (ds_ret (de_cmp (op_eqD hr.units) opv_eqD (de_told (kb := 11) TX__law_tried hg (hr.mono (by decide)) (by decide) (by rfl) TB rfl (tbT_ph.trans hq) (LamX.lamS_by (show LamX.lamSB (defScope sL_pair_right) _ = true from by decide +kernel)) rfl (fun _ _ _ _ _ => rfl) (fun A out s H E f cc hg hr => (de_cm V_End_from_text.cm V_End_from_text.ok T.c_End hg (hr.mono (by decide)) (by rfl) T.mc_End V_End_from_text.bd (E := fun _ => E) (pT ps_lam) zE (da_cons (dv 7) da_nil)))) (dv 6) (nomark _)))))))))))
def E_L_alone_right_1 : Ev D := (fOp oIx (fVar 3) (fC (.int 2)))
def E_L_alone_right_2 : Ev D := (fOp oIx (fVar 3) (fC (.int 1)))
def E_L_alone_right_3 : Ev D := (fVar 4)
def T_L_alone_right_1 : Ev Bool := (fB (fOp (oInOwn "End" true Φ_End_contains) (fVar 4) (fVar 0)))
def H_L_alone_right_1 : Ev Fl := (fIte (fOrT (fB (fOp (oEqS true) (fOp (oI fun i j => .int (i + j)) (fM1 oCntS (fCB (o1 (oStrOwn "End" Φ_End_str)) (fCons (fVar 0) fNil)) (fC (.str ", "))) (fC (.int 2))) (fCB (o1 (oLenOwn "End" Φ_End_len)) (fCons (fVar 0) fNil)))) (fB (fOp (oEqS true) (fM1 oCntS (fCB (o1 (oStrOwn "End" Φ_End_str)) (fCons (fVar 0) fNil)) (fC (.str " "))) (fOp (oIC cMul fun i j => .int (i * j)) (fC (.int 3)) (fCB (o1 (oLenOwn "End" Φ_End_len)) (fCons (fVar 0) fNil)))))) (fRet (fC (.bl false))) fNx)
def R_L_alone_right_1 : Ev Fl := (fRet (fOp (oEq false) (fComp (fItems (fOp oCat (fVar 1) (fVar 2))) (.nm 4) T_L_alone_right_1 E_L_alone_right_3 [4]) (fLst fNil)))
def H_L_alone_right_2 : Ev Fl := (fIte (fB (fOp (oEq true) (fComp (fItOwn "End" 2 (fVar 0)) (.nm 3) fYes E_L_alone_right_2 [3]) (fOp oCat (fListRg1 (fCB (o1 oLen) (fCons (fVar 1) fNil))) (fListRg1 (fCB (o1 oLen) (fCons (fVar 2) fNil)))))) (fRet (fC (.bl false))) fNx)
def R_L_alone_right_2 : Ev Fl := (fSeq H_L_alone_right_1
  R_L_alone_right_1)
def H_L_alone_right_3 : Ev Fl := (fIte (fOrT (fNotT (fB (fOp (oEqOwn "End" Φ_End_eq) (fMake "End" [true, false, false] Φ_End_init [] (fCons (fVar 1) (fCons (fVar 2) fNil))) (fVar 0)))) (fB (fOp (oEq true) (fOp oCat (fVar 1) (fVar 2)) (fComp (fItOwn "End" 2 (fVar 0)) (.nm 3) fYes E_L_alone_right_1 [3])))) (fRet (fC (.bl false))) fNx)
def R_L_alone_right_3 : Ev Fl := (fSeq H_L_alone_right_2
  R_L_alone_right_2)
def H_L_alone_right_4 : Ev Fl := (fPar 1 2 (fCall [false, false] Φ_L_rows_of [] (gCn (fVar 0) (gCn (fC (.str "hearer")) gNl))) (fCall [false, false] Φ_L_rows_of [] (gCn (fVar 0) (gCn (fC (.str "sender")) gNl))) false false)
def R_L_alone_right_4 : Ev Fl := (fSeq H_L_alone_right_3
  R_L_alone_right_3)
def F_L_alone_right : Ev Fl := (fSeq H_L_alone_right_4
  R_L_alone_right_4)
def Φ_L_alone_right : List D → Res := fun ds => (runV [false] 5 F_L_alone_right ds).quiet
theorem dv_L_alone_right {ct : Ct} {f : Addr} {fd : FuncData} {i_End : Addr} {fdi_End : FuncData} {f_End_contains : Addr} {fd_End_contains : FuncData} {f_End_eq : Addr} {fd_End_eq : FuncData} {f_End_init : Addr} {fd_End_init : FuncData} {f_End_len : Addr} {fd_End_len : FuncData} {f_End_str : Addr} {fd_End_str : FuncData} {f_L_rows_of : Addr} {fd_L_rows_of : FuncData} (T : Txt K mg ct) (I_End : Vit P w K mg base 1 (cA ct "End") i_End fdi_End "rows") (V_End_contains : Vm P w K mg base CX0 1 (cA ct "End") "__contains__" f_End_contains fd_End_contains ["self", "x"] ct [false, false] Φ_End_contains) (V_End_eq : Vm P w K mg base CX0 1 (cA ct "End") "__eq__" f_End_eq fd_End_eq ["self", "other"] ct [false, false] Φ_End_eq) (V_End_init : Vc P w K mg base (L2.CX P w) 5 "End" (cA ct "End") f_End_init fd_End_init ["self", "hearer", "sender"] ct [true, false, false] Φ_End_init) (V_End_len : Vm P w K mg base CX0 1 (cA ct "End") "__len__" f_End_len fd_End_len ["self"] ct [false] Φ_End_len) (V_End_str : Vm P w K mg base CX0 2 (cA ct "End") "__str__" f_End_str fd_End_str ["self"] ct [false] Φ_End_str) (V__law_rows_of : Vx P w K mg base 2 "_law_rows_of" f_L_rows_of fd_L_rows_of ["_law_end", "_law_name"] ct [false, false] Φ_L_rows_of) (F : Fun K "_law_alone_right" "_law_alone_right" sL_alone_right f fd) : FnG P w K mg base CX0 7 f fd ["_law_end"] (spV K ct [false] Φ_L_alone_right) :=
  okVg F scL_alone_right rfl fun io cdv A out s H E hg hr hu66 => by
    have hu65 : (A.deeper (PyProof.Rows.envOfC "_law_alone_right" (defScope sL_alone_right) s.heap.objs.size f cdv)).units + 65 < cLine := by omega
    exact (dss_cons (ds_par (i := 1) (j := 2) rfl scL_alone_right.nd rfl rfl (by decide) rfl rfl (DE.q (de_call V__law_rows_of.ok hg (hr.mono (by decide)) (by rfl) V__law_rows_of.mg V__law_rows_of.kp V__law_rows_of.bd .nil (fun _ => .nil) (E := E0v) pass0 zno_any (dai_cons (dv 0) (dai_cons de_str dai_nil)))) (DE.q (de_call V__law_rows_of.ok hg (hr.mono (by decide)) (by rfl) V__law_rows_of.mg V__law_rows_of.kp V__law_rows_of.bd .nil (fun _ => .nil) (E := E0v) pass0 zno_any (dai_cons (dv 0) (dai_cons de_str dai_nil)))) (hp := fun ha => ps_par rfl scL_alone_right.nd rfl rfl (by decide) rfl rfl ha (by rfl)))
  (dss_cons (ds_if (DW.dt (dw_or (dt_not (dt_cmp (op_eqG V_End_eq.mt V_End_eq.ok hg (hr.mono (by decide)) V_End_eq.bd (E := E0v) pass0) (opv_eqOwn T.o_End T.c_End) (de_make (M := V_End_init.mkC) V_End_init.ok T.c_End hg (hr.mono (by decide)) (by rfl) V_End_init.mg V_End_init.bd .nil (fun _ => .nil) (E := E0) passNo zno_any (da_cons (dv 1) (da_cons (dv 2) da_nil))) (dv 0) (nomark _))) (dw_or1 (dt_cmp (op_neD hr.units) opv_neD (de_op op_cat opv_cat (dv 1) (dv 2)) (de_comp (own := [("_law_part", 3)]) (Zb := ZNo) rfl scL_alone_right.nd (di_own (j := 2) T.c_End (by decide) rfl I_End.mt I_End.ok (hr.mono (by decide)) I_End.bd (dv 0)) (blkOk_by (N := ["_law_end", "_law_hearer_here", "_law_sender_here", "_law_part", "_law_row"]) (own := [("_law_part", 3)]) (sc := defScope sL_alone_right) (by decide +kernel)) (by rfl) (fun _ _ _ _ _ => (dgn 3 scL_alone_right.nd)) (fun _ _ _ _ _ => dts_nil) (fun _ _ _ _ _ => (dix (dv 3) de_int))) (nomark _))))) (dss_one (ds_ret de_bl)) dss_nil)
  (dss_cons (ds_if (dt_cmp (op_neD hr.units) opv_neD (de_comp (own := [("_law_part", 3)]) (Zb := ZNo) rfl scL_alone_right.nd (di_own (j := 2) T.c_End (by decide) rfl I_End.mt I_End.ok (hr.mono (by decide)) I_End.bd (dv 0)) (blkOk_by (N := ["_law_end", "_law_hearer_here", "_law_sender_here", "_law_part", "_law_row"]) (own := [("_law_part", 3)]) (sc := defScope sL_alone_right) (by decide +kernel)) (by rfl) (fun _ _ _ _ _ => (dgn 3 scL_alone_right.nd)) (fun _ _ _ _ _ => dts_nil) (fun _ _ _ _ _ => (dix (dv 3) de_int))) (de_op op_cat opv_cat (de_listRg1 rfl (by rfl) T.b_list (by rfl) T.b_range (de_callB call_lenA cv_len (by rfl) T.b_len (by decide +kernel) (da_cons (dv 1) da_nil))) (de_listRg1 rfl (by rfl) T.b_list (by rfl) T.b_range (de_callB call_lenA cv_len (by rfl) T.b_len (by decide +kernel) (da_cons (dv 2) da_nil)))) (nomark _)) (dss_one (ds_ret de_bl)) dss_nil)
  (dss_cons (ds_if (DW.dt (dw_or (dt_cmp op_ne opv_neS (de_op op_add opv_add (de_cntS (de_callTy (call_strG V_End_str.mt V_End_str.ok hg (hr.mono (by decide)) V_End_str.bd (E := E0v) pass0) (cv_strOwn T.c_End) (by rfl) T.b_str (by decide +kernel) (da_cons (dv 0) da_nil)) de_str) de_int) (de_callB (call_lenG V_End_len.mt V_End_len.ok hg (hr.mono (by decide)) V_End_len.bd (E := E0v) pass0) (cv_lenOwn T.c_End) (by rfl) T.b_len (by decide +kernel) (da_cons (dv 0) da_nil)) (nomark _)) (dw_or1 (dt_cmp op_ne opv_neS (de_cntS (de_callTy (call_strG V_End_str.mt V_End_str.ok hg (hr.mono (by decide)) V_End_str.bd (E := E0v) pass0) (cv_strOwn T.c_End) (by rfl) T.b_str (by decide +kernel) (da_cons (dv 0) da_nil)) de_str) (de_op op_mul opv_mul de_int (de_callB (call_lenG V_End_len.mt V_End_len.ok hg (hr.mono (by decide)) V_End_len.bd (E := E0v) pass0) (cv_lenOwn T.c_End) (by rfl) T.b_len (by decide +kernel) (da_cons (dv 0) da_nil))) (nomark _))))) (dss_one (ds_ret de_bl)) dss_nil)
  (dss_one (ds_ret (de_cmp (op_eqD hr.units) opv_eqD (de_comp (own := [("_law_row", 4)]) (Zb := ZNo) rfl scL_alone_right.nd (di_seq (de_op op_cat opv_cat (dv 1) (dv 2))) (blkOk_by (N := ["_law_end", "_law_hearer_here", "_law_sender_here", "_law_part", "_law_row"]) (own := [("_law_row", 4)]) (sc := defScope sL_alone_right) (by decide +kernel)) (by rfl) (fun _ _ _ _ _ => (dgn 4 scL_alone_right.nd)) (fun _ _ _ _ _ => dts_one (dt_cmp (op_notInG V_End_contains.mt V_End_contains.ok hg (hr.mono (by decide)) V_End_contains.bd (E := E0v) pass0) (opv_inOwn T.c_End) (dv 4) (dv 0) (by rfl))) (fun _ _ _ _ _ => (dv 4))) (de_lst da_nil) (nomark _))))))))
def H_law_1 : Ev Fl := (fAsg (.nm 7) (fIxO 4 (fOp (oI fun i j => .int (i - j)) (fVar 5) (fC (.int 1)))))
def R_law_1 : Ev Fl := (fPutL 4 (fVar 5) (fMake "End" [true, false, false] Φ_End_init [] (fCons (fUn (oFld "End" 0) (fVar 7)) (fCons (fIte (fB (fOp (oEqS false) (fCall [true, false] Φ_L_take [] (gIo 2 (gCn (fC (.int 2)) gNl))) (fC (.int 0)))) (fOp oIx (fVar 6) (fC (.int 1))) (fUn (oFld "End" 1) (fVar 7))) fNil))))
def H_law_2 : Ev Fl := (fApp 4 (fMake "End" [true, false, false] Φ_End_init [] (fCons (fOp oIx (fVar 6) (fC (.int 0))) (fCons (fOp oIx (fVar 6) (fC (.int 1))) fNil))))
def R_law_2 : Ev Fl := (fIte (fAndT (fB (fOp (oI fun i j => .bl (decide (j < i))) (fVar 5) (fC (.int 0)))) (fB (fOp (oEqS false) (fCall [true, false] Φ_L_take [] (gIo 2 (gCn (fC (.int 2)) gNl))) (fC (.int 0))))) (fSeq H_law_1
  R_law_1) fNx)
def H_law_3 : Ev Fl := (fAsg (.nm 6) (fTup (fCons (fCall [true, false] Φ_L_hearer [] (gIo 2 (gCn (fOp (oI fun i j => .int (i + j)) (fC (.int 2)) (fCall [true, false] Φ_L_take [] (gIo 2 (gCn (fC (.int 3)) gNl)))) gNl))) (fCons (fCall [true, false] Φ_L_sender [] (gIo 2 (gCn (fOp (oI fun i j => .int (i + j)) (fC (.int 1)) (fCall [true, false] Φ_L_take [] (gIo 2 (gCn (fC (.int 3)) gNl)))) gNl))) fNil))))
def R_law_3 : Ev Fl := (fSeq H_law_2
  R_law_2)
def B_law_1 : Ev Fl := (fSeq H_law_3
  R_law_3)
def L_law_1 : Ev Fl := (fFor (fRng1 (fCons (fC (.int 3)) fNil)) (.nm 5) B_law_1)
def B_law_2 : Ev Fl := (fIte (fNotT (fB (fCall [false, false] (fun ds => (Φ_L_pair_right ds).plain) [] (gCn (fVar 8) (gCn (fVar 9) gNl))))) (fRet (fC (.bl false))) fNx)
def L_law_2 : Ev Fl := (fFor (fItems (fVar 4)) (.nm 9) B_law_2)
def H_law_4 : Ev Fl := (fIte (fNotT (fB (fCall [false] Φ_L_alone_right [] (gCn (fVar 8) gNl)))) (fRet (fC (.bl false))) fNx)
def R_law_4 : Ev Fl := L_law_2
def B_law_3 : Ev Fl := (fSeq H_law_4
  R_law_4)
def L_law_3 : Ev Fl := (fFor (fItems (fVar 4)) (.nm 8) B_law_3)
def H_law_5 : Ev Fl := L_law_1
def R_law_5 : Ev Fl := L_law_3
def H_law_6 : Ev Fl := (fSetN 4 (fLst fNil))
def R_law_6 : Ev Fl := (fSeq H_law_5
  R_law_5)
def B_law_4 : Ev Fl := (fSeq H_law_6
  R_law_6)
def L_law_4 : Ev Fl := (fFor (fRng1 (fCons (fC (.int 5)) fNil)) (.nm 3) B_law_4)
def H_law_7 : Ev Fl := (fSetN 2 (fCallN [false, false] Φ_L_bag [] (gCn (fVar 0) (gCn (fVar 1) gNl))))
def R_law_7 : Ev Fl := L_law_4
def B_law_5 : Ev Fl := (fSeq H_law_7
  R_law_7)
def L_law_5 : Ev Fl := (fFor (fRng1 (fCons (fCB (o2 oMax) (fCons (fC (.int 2)) (fCons (fCB (o2 oMin) (fCons (fC (.int 4)) (fCons (fCB (o1 oLen) (fCons (fVar 0) fNil)) fNil))) fNil))) fNil)) (.nm 1) B_law_5)
def H_law_8 : Ev Fl := L_law_5
def R_law_8 : Ev Fl := (fRet (fC (.bl true)))
def F_law : Ev Fl := (fSeq H_law_8
  R_law_8)
def Φ_law : List D → Res := fun ds => (runV [false] 10 F_law ds).quiet
theorem dv_law {ct : Ct} {f : Addr} {fd : FuncData} {cdv : Value} {tb : List Nat → Option Addr} {f_End_init : Addr} {fd_End_init : FuncData} {f_L_alone_right : Addr} {fd_L_alone_right : FuncData} {f_L_bag : Addr} {fd_L_bag : FuncData} {f_L_hearer : Addr} {fd_L_hearer : FuncData} {f_L_pair_right : Addr} {fd_L_pair_right : FuncData} {f_L_sender : Addr} {fd_L_sender : FuncData} {f_L_take : Addr} {fd_L_take : FuncData} {p_End_hearer g_End_hearer : Addr} {fdg_End_hearer : FuncData} {p_End_sender g_End_sender : Addr} {fdg_End_sender : FuncData} (T : Txt K mg ct) (V_End_init : Vc P w K mg base (L2.CX P w) 5 "End" (cA ct "End") f_End_init fd_End_init ["self", "hearer", "sender"] ct [true, false, false] Φ_End_init) (V__law_alone_right : Vx P w K mg base 7 "_law_alone_right" f_L_alone_right fd_L_alone_right ["_law_end"] ct [false] Φ_L_alone_right) (V__law_bag : Vx P w K mg base 1 "_law_bag" f_L_bag fd_L_bag ["_law_script", "_law_at"] ct [false, false] Φ_L_bag) (V__law_hearer : Vx P w K mg base 4 "_law_hearer" f_L_hearer fd_L_hearer ["_law_bag_here", "_law_many"] ct [true, false] Φ_L_hearer) (V__law_pair_right : VxL P w K mg base 14 "_law_pair_right" f_L_pair_right fd_L_pair_right ["_law_one", "_law_other"] ct tb [false, false] Φ_L_pair_right) (V__law_sender : Vx P w K mg base 4 "_law_sender" f_L_sender fd_L_sender ["_law_bag_here", "_law_many"] ct [true, false] Φ_L_sender) (V__law_take : Vx P w K mg base 1 "_law_take" f_L_take fd_L_take ["_law_bag_here", "_law_many"] ct [true, false] Φ_L_take) (P_End_hearer : Px P w K mg base (cA ct "End") p_End_hearer g_End_hearer fdg_End_hearer "hearer" "hearer_rows") (P_End_sender : Px P w K mg base (cA ct "End") p_End_sender g_End_sender fdg_End_sender "sender" "sender_rows") (F : FunC K "law" "law" slaw f fd cdv) : FnG P w K mg base CX0 15 f fd ["_law_script"] (spVT K ct tb [false] Φ_law) :=
  okVT F sclaw rfl fun io A out s H E hg hr hu66 => by
    have hu65 : (A.deeper (PyProof.Rows.envOfC "law" (defScope slaw) s.heap.objs.size f cdv)).units + 65 < cLine := by omega
    exact (dss_cons (ds_for PassesOwn.never rfl (di_rng1 (by rfl) T.b_range (da_cons (de_callB (call_max2 rfl) cv_max (by rfl) T.b_max (by decide +kernel) (da_cons de_int (da_cons (de_callB (call_min2 rfl) cv_min (by rfl) T.b_min (by decide +kernel) (da_cons de_int (da_cons (de_callB call_lenA cv_len (by rfl) T.b_len (by decide +kernel) (da_cons (dv 0) da_nil)) da_nil))) da_nil))) da_nil)) (dgn 1 sclaw.nd) (dss_cons (ds_new (i := 2) sclaw.nd rfl (by first | exact Or.inl rfl | exact Or.inr rfl) (dn_call V__law_bag.ok hg (hr.mono (by decide)) (by rfl) V__law_bag.mg V__law_bag.kp V__law_bag.bd .nil (fun _ => .nil) (E := E0v) pass0 zno_any (dai_cons (dv 0) (dai_cons (dv 1) dai_nil))))
  (dss_one (ds_for PassesOwn.never rfl (di_rng1 (by rfl) T.b_range (da_cons de_int da_nil)) (dgn 3 sclaw.nd) (dss_cons (ds_new (i := 4) sclaw.nd rfl (by first | exact Or.inl rfl | exact Or.inr rfl) (dn_lst da_nil))
  (dss_cons (ds_for PassesOwn.never rfl (di_rng1 (by rfl) T.b_range (da_cons de_int da_nil)) (dgn 5 sclaw.nd) (dss_cons (dset 6 sclaw.nd (de_tup (da_cons (de_call V__law_hearer.ok hg (hr.mono (by decide)) (by rfl) V__law_hearer.mg V__law_hearer.kp V__law_hearer.bd .nil (fun _ => .nil) (E := E0v) pass0 zno_any (dio 2 (dai_cons (de_op op_add opv_add de_int (de_call V__law_take.ok hg (hr.mono (by decide)) (by rfl) V__law_take.mg V__law_take.kp V__law_take.bd .nil (fun _ => .nil) (E := E0v) pass0 zno_any (dio 2 (dai_cons de_int dai_nil)))) dai_nil))) (da_cons (de_call V__law_sender.ok hg (hr.mono (by decide)) (by rfl) V__law_sender.mg V__law_sender.kp V__law_sender.bd .nil (fun _ => .nil) (E := E0v) pass0 zno_any (dio 2 (dai_cons (de_op op_add opv_add de_int (de_call V__law_take.ok hg (hr.mono (by decide)) (by rfl) V__law_take.mg V__law_take.kp V__law_take.bd .nil (fun _ => .nil) (E := E0v) pass0 zno_any (dio 2 (dai_cons de_int dai_nil)))) dai_nil))) da_nil))))
  (dss_cons (dapp 4 (de_make (M := V_End_init.mkC) V_End_init.ok T.c_End hg (hr.mono (by decide)) (by rfl) V_End_init.mg V_End_init.bd .nil (fun _ => .nil) (E := E0) passNo zno_any (da_cons (dix (dv 6) de_int) (da_cons (dix (dv 6) de_int) da_nil))))
  (dss_one (ds_if (DW.dt (dw_and (dt_cmp op_gt opv_gt (dv 5) de_int (nomark _)) (dw_and1 (dt_cmp op_eq opv_eqS (de_call V__law_take.ok hg (hr.mono (by decide)) (by rfl) V__law_take.mg V__law_take.kp V__law_take.bd .nil (fun _ => .nil) (E := E0v) pass0 zno_any (dio 2 (dai_cons de_int dai_nil))) de_int (nomark _))))) (dss_cons (dset 7 sclaw.nd (dixO 4 (de_op op_sub opv_sub (dv 5) de_int)))
  (dss_one (dputL 4 (de_make (M := V_End_init.mkC) V_End_init.ok T.c_End hg (hr.mono (by decide)) (by rfl) V_End_init.mg V_End_init.bd .nil (fun _ => .nil) (E := E0) passNo zno_any (da_cons (de_prop (E := E0) (j := 0) P_End_hearer T.o_End.cl T.c_End (by decide) rfl (hr.mono (by decide)) (dv 7)) (da_cons (de_ite (dt_cmp op_eq opv_eqS (de_call V__law_take.ok hg (hr.mono (by decide)) (by rfl) V__law_take.mg V__law_take.kp V__law_take.bd .nil (fun _ => .nil) (E := E0v) pass0 zno_any (dio 2 (dai_cons de_int dai_nil))) de_int (nomark _)) (dix (dv 6) de_int) (de_prop (E := E0) (j := 1) P_End_sender T.o_End.cl T.c_End (by decide) rfl (hr.mono (by decide)) (dv 7))) da_nil))) (dv 5)))) dss_nil)))))
  (dss_one (ds_for PassesOwn.never rfl (di_seq (dv 4)) (dgn 8 sclaw.nd) (dss_cons (ds_if (dt_not (dt_val (de_call V__law_alone_right.ok hg (hr.mono (by decide)) (by rfl) V__law_alone_right.mg V__law_alone_right.kp V__law_alone_right.bd .nil (fun _ => .nil) (E := E0v) pass0 zno_any (dai_cons (dv 8) dai_nil)))) (dss_one (ds_ret de_bl)) dss_nil)
  (dss_one (ds_for PassesOwn.never rfl (di_seq (dv 4)) (dgn 9 sclaw.nd) (dss_one (ds_if (dt_not (dt_val (de_callVT V__law_pair_right.ok (fun _ => tbT_ph) hg (hr.mono (by decide)) (by rfl) V__law_pair_right.mg V__law_pair_right.kp V__law_pair_right.bd (dai_cons (dv 8) (dai_cons (dv 9) dai_nil))))) (dss_one (ds_ret de_bl)) dss_nil)))))))))))))
  (dss_one (ds_ret de_bl)))
end
end K07
set_option Elab.async false
set_option linter.all false
set_option maxRecDepth 100000
set_option maxHeartbeats 2000000
namespace Sb
open PySem PySem.Spec PyProof.Rows L2 TL
inductive At where
  | int (i : Int) | str (s : Str) | bl (b : Bool) | non
  deriving DecidableEq
def At.v : At → V
  | .int i => .int i
  | .str s => .str s
  | .bl b => .bl b
  | .non => .non
def At.d : At → PyData
  | .int i => .int i
  | .str s => .str s
  | .bl b => .bool b
  | .non => .none
def At.isB : At → Bool
  | .bl _ => true
  | _ => false
def Pl.at : Pl → At
  | .num n => .int (n : Int)
  | .word s => .str s
def Row.ats (r : Row) : List At := [.int (r.put : Int), r.a.at, r.b.at]
/-- those that a law draws -/
def atoms : List At := [.int (-1), .int 0, .int 1, .int 2, .int 3, .int 4, .int 5, .int 6, .str "taken", .str "lost", .str "done", .str "again", .str "1", .bl true, .bl false, .non]
/-- the text of one -/
def At.t (a : At) : List Nat := (a.d.shown).cps.toList
end Sb
set_option Elab.async false
set_option linter.all false
set_option maxRecDepth 100000
set_option maxHeartbeats 1000000
namespace Pg
open PySem L2 Sb Vl
local macro_rules | `(tactic| walk_at "ev") => `(tactic| simp only [Vl.runV, Vl.mkEnv, Vl.Res.of, Vl.Res.quiet, Vl.Res.val, Vl.ioAt, Vl.fSeq, Vl.fIte, Vl.fAsg, Vl.fVar, Vl.fC, Vl.fOp, Vl.fIxO, Vl.fPutL, Vl.fRet, Vl.fRetW, Vl.fRetO, Vl.fRetN, Vl.fLst, Vl.fTup, Vl.fB, Vl.fTru, Vl.fCB, Vl.fCons, Vl.fNil, Vl.o1, Vl.o2, Vl.oI, Vl.oIC, Vl.slotL, Vl.slotO, Vl.own, Vl.Pat.put, Vl.Pat.puts, Vl.Out.bind, Vl.Out.opt, Vl.fNx, Vl.fCt, Vl.fBk, Vl.fPar, Vl.fCall, Vl.fCallN, Vl.fCallL, Vl.fSetN, Vl.gIo, Vl.gCn, Vl.gNl, Vl.agDs, Vl.agD, Vl.ioSlots, Vl.putAll, Vl.put1, Vl.Ag.isIo, Vl.fAnd, Vl.fOr, Vl.fNot, Vl.fAndT, Vl.fOrT, Vl.fNotT, Vl.fChain, Vl.fIsi, Vl.fIsi2, Vl.fUn, Vl.fDrop, Vl.fApp, Vl.fLenO, Vl.fMake, Vl.fRaise, Vl.fFldS, Vl.fDInO, Vl.fDPutO, Vl.fDGetO, Vl.fPop, Vl.fListD, Vl.fDOne, Vl.fDNewK, Vl.isi, Vl.bOf, Vl.sOf, Vl.fFmt, Vl.fJs, Vl.oFmt, Vl.fM1, Vl.fM0, Vl.fFor, Vl.fItems, Vl.fEnum, Vl.fSl, Vl.fPart, Vl.fNoPart, Vl.fNeg, Vl.fAugI, Vl.fInO, Vl.fYes, Vl.fTruO, Vl.fComp, Vl.fCompO, Vl.calmE, Vl.wipeE, Vl.backE, Vl.oIsN, Vl.oStr, ↓Vl.fRng1_one, Vl.oLen_lst, Vl.oLen_tup, Vl.oLen_ctup, Vl.oLen_scr, Vl.oIx_lst, Vl.oIx_tup, Vl.oIx_ctup, Vl.oIx_scr, Vl.oInt_int, Vl.oInt_bl, Vl.oAbs_int, Vl.oMax_int, Vl.oMin_int, Vl.oTuple_lst, Vl.oTuple_tup, Vl.oList_lst, Vl.oList_tup, Vl.oNeg_int, Vl.ty_non, Vl.ty_bl, Vl.ty_int, Vl.ty_str, Vl.ty_tup, Vl.ty_ctup, Vl.ty_lst, Vl.ty_dk, Vl.ty_scr, Vl.tru_non, Vl.tru_bl, Vl.tru_int, Vl.tru_lst, Vl.tru_tup, Vl.oEqS_int, Vl.oEqS_str, Vl.oEqS_bl, Vl.oCat_lst, Vl.oCatA_tup, Vl.oSlT_tup, Vl.oSlL_lst, Vl.keyOf_int, Vl.keyOf_str, Vl.isNon_non, Vl.isNon_bl, Vl.isNon_int, Vl.isNon_str, Vl.isNon_tup, Vl.isNon_lst, Vl.oFld_ob, Vl.isOb_ob', Vl.atI_0, Vl.atI_1, Vl.atI_2, Vl.atI_3, Vl.ixN_0, Vl.ixN_1, Vl.ixN_2, List.zipWith, List.replicate, List.append, List.cons_append, List.nil_append, List.append_nil, List.getElem?_cons_zero, List.getElem?_cons_succ, List.getElem?_nil, List.set_cons_zero, List.set_cons_succ, List.length_cons, List.length_nil, List.map_cons, List.map_nil, List.nodup_cons, List.nodup_nil, List.not_mem_nil, List.reverse_cons, List.reverse_nil, Bool.false_eq_true, ite_true, ite_false, if_true, if_false, reduceIte, decide_true, decide_false, Bool.true_and, Bool.and_true, Bool.false_and, Bool.and_false, Bool.not_true, Bool.not_false, Bool.or_false, Bool.false_or, Bool.or_true, Bool.true_or, reduceCtorEq, not_false_eq_true, not_true_eq_false, and_self, and_true, true_and, or_false, or_true, Nat.reduceSub, Nat.reduceAdd, Nat.reduceLeDiff, Nat.zero_add, Option.map_some, Option.map_none, Option.bind_some, Option.bind_none, Option.isSome_some, Option.isSome_none, List.mem_cons, List.all_cons, List.all_nil, eq_self, Int.cast_ofNat_Int, Int.natCast_zero, Int.natCast_one, Int.reduceEq, Int.reduceLT, Int.reduceLE, Int.reduceAdd, Int.reduceSub, Int.reduceNeg, Nat.reduceEqDiff, *])
local macro_rules | `(tactic| walk_at "e0") => `(tactic| simp only [Vl.runV, Vl.mkEnv, Vl.Res.of, Vl.Res.quiet, Vl.Res.val, Vl.ioAt, Vl.fSeq, Vl.fIte, Vl.fAsg, Vl.fVar, Vl.fC, Vl.fOp, Vl.fIxO, Vl.fPutL, Vl.fRet, Vl.fRetW, Vl.fRetO, Vl.fRetN, Vl.fLst, Vl.fTup, Vl.fB, Vl.fTru, Vl.fCB, Vl.fCons, Vl.fNil, Vl.o1, Vl.o2, Vl.oI, Vl.oIC, Vl.slotL, Vl.slotO, Vl.own, Vl.Pat.put, Vl.Pat.puts, Vl.Out.bind, Vl.Out.opt, Vl.fNx, Vl.fCt, Vl.fBk, Vl.fPar, Vl.fCall, Vl.fCallN, Vl.fCallL, Vl.fSetN, Vl.gIo, Vl.gCn, Vl.gNl, Vl.agDs, Vl.agD, Vl.ioSlots, Vl.putAll, Vl.put1, Vl.Ag.isIo, Vl.fAnd, Vl.fOr, Vl.fNot, Vl.fAndT, Vl.fOrT, Vl.fNotT, Vl.fChain, Vl.fIsi, Vl.fIsi2, Vl.fUn, Vl.fDrop, Vl.fApp, Vl.fLenO, Vl.fMake, Vl.fRaise, Vl.fFldS, Vl.fDInO, Vl.fDPutO, Vl.fDGetO, Vl.fPop, Vl.fListD, Vl.fDOne, Vl.fDNewK, Vl.isi, Vl.bOf, Vl.sOf, Vl.fFmt, Vl.fJs, Vl.oFmt, Vl.fM1, Vl.fM0, Vl.fFor, Vl.fItems, Vl.fEnum, Vl.fSl, Vl.fPart, Vl.fNoPart, Vl.fNeg, Vl.fAugI, Vl.fInO, Vl.fYes, Vl.fTruO, Vl.fComp, Vl.fCompO, Vl.calmE, Vl.wipeE, Vl.backE, Vl.oIsN, Vl.oStr, ↓Vl.fRng1_one, Vl.oLen_lst, Vl.oLen_tup, Vl.oLen_ctup, Vl.oLen_scr, Vl.oIx_lst, Vl.oIx_tup, Vl.oIx_ctup, Vl.oIx_scr, Vl.oInt_int, Vl.oInt_bl, Vl.oAbs_int, Vl.oMax_int, Vl.oMin_int, Vl.oTuple_lst, Vl.oTuple_tup, Vl.oList_lst, Vl.oList_tup, Vl.oNeg_int, Vl.ty_non, Vl.ty_bl, Vl.ty_int, Vl.ty_str, Vl.ty_tup, Vl.ty_ctup, Vl.ty_lst, Vl.ty_dk, Vl.ty_scr, Vl.tru_non, Vl.tru_bl, Vl.tru_int, Vl.tru_lst, Vl.tru_tup, Vl.oEqS_int, Vl.oEqS_str, Vl.oEqS_bl, Vl.oCat_lst, Vl.oCatA_tup, Vl.oSlT_tup, Vl.oSlL_lst, Vl.keyOf_int, Vl.keyOf_str, Vl.isNon_non, Vl.isNon_bl, Vl.isNon_int, Vl.isNon_str, Vl.isNon_tup, Vl.isNon_lst, Vl.oFld_ob, Vl.isOb_ob', Vl.atI_0, Vl.atI_1, Vl.atI_2, Vl.atI_3, Vl.ixN_0, Vl.ixN_1, Vl.ixN_2, List.zipWith, List.replicate, List.append, List.cons_append, List.nil_append, List.append_nil, List.getElem?_cons_zero, List.getElem?_cons_succ, List.getElem?_nil, List.set_cons_zero, List.set_cons_succ, List.length_cons, List.length_nil, List.map_cons, List.map_nil, List.nodup_cons, List.nodup_nil, List.not_mem_nil, List.reverse_cons, List.reverse_nil, Bool.false_eq_true, ite_true, ite_false, if_true, if_false, reduceIte, decide_true, decide_false, Bool.true_and, Bool.and_true, Bool.false_and, Bool.and_false, Bool.not_true, Bool.not_false, Bool.or_false, Bool.false_or, Bool.or_true, Bool.true_or, reduceCtorEq, not_false_eq_true, not_true_eq_false, and_self, and_true, true_and, or_false, or_true, Nat.reduceSub, Nat.reduceAdd, Nat.reduceLeDiff, Nat.zero_add, Option.map_some, Option.map_none, Option.bind_some, Option.bind_none, Option.isSome_some, Option.isSome_none, List.mem_cons, List.all_cons, List.all_nil, eq_self, Int.cast_ofNat_Int, Int.natCast_zero, Int.natCast_one, Int.reduceEq, Int.reduceLT, Int.reduceLE, Int.reduceAdd, Int.reduceSub, Int.reduceNeg, Nat.reduceEqDiff])
def atD : At → D
  | .int i => .int i
  | .str s => .str s
  | .bl b => .bl b
  | .non => .non
def okAt : At → Prop
  | .str s => PyData.strOk s = true
  | _ => True
theorem atD_py (a : At) : (atD a).py = a.d := by cases a <;> simp [atD, D.py, At.d]
def atsD (as : List At) : List D := as.map atD
theorem atsD_py : ∀ as : List At, D.pyAll (atsD as) = as.map At.d
  | [] => by simp [atsD, D.pyAll]
  | a :: as => by
    have := atsD_py as
    simp only [atsD] at this
    simp [atsD, D.pyAll, atD_py, this]
theorem atD_eokN {a : At} (h : okAt a) : eokN 0 (atD a) := by
  cases a with
  | int i => exact eokN_int i
  | str s => exact eokN_str h
  | bl b => exact eokN_bl b
  | non => exact eokN_non
theorem plD_ats (p : Pl) : plD p = atD p.at := by cases p <;> rfl
theorem rowD_ats (r : Row) : rowD r = .tup (atsD r.ats) := by
  obtain ⟨p, a, b⟩ := r
  show D.tup [.int (p : Int), plD a, plD b] = _
  rw [plD_ats, plD_ats]
  rfl
theorem atsD_eokN {as : List At} (h : ∀ a, a ∈ as → okAt a) : eokN 1 (.tup (atsD as)) := eokN_tup fun d hd => by
  obtain ⟨a, ha, rfl⟩ := List.mem_map.mp hd
  exact atD_eokN (h a ha)
/-- without truths they are equal if they are the same -/
theorem eqv_at {a b : At} (ha : a.isB = false) (hb : b.isB = false) : PyData.eqv a.d b.d = decide (a = b) := by
  cases a <;> cases b <;> first | (cases ha; done) | (cases hb; done) | simp [At.d, PyData.eqv] <;> exact Bool.beq_eq_decide_eq _ _
theorem eqv_ats : ∀ {as bs : List At}, as.any At.isB = false → bs.any At.isB = false → PyData.eqvAll (as.map At.d) (bs.map At.d) = decide (as = bs)
  | [], [], _, _ => by simp [PyData.eqvAll]
  | [], _ :: _, _, _ => by simp [PyData.eqvAll]
  | _ :: _, [], _, _ => by simp [PyData.eqvAll]
  | a :: as, b :: bs, ha, hb => by
    rw [List.any_cons, Bool.or_eq_false_iff] at ha hb
    have ih := eqv_ats ha.2 hb.2
    have e : PyData.eqvAll ((a :: as).map At.d) ((b :: bs).map At.d) = (PyData.eqv a.d b.d && PyData.eqvAll (as.map At.d) (bs.map At.d)) := by simp [PyData.eqvAll]
    rw [e, ih, eqv_at ha.1 hb.1]
    by_cases h1 : a = b
    · by_cases h2 : as = bs <;> simp [h1, h2]
    · simp [h1]
theorem ats_noB (r : Row) : r.ats.any At.isB = false := by
  obtain ⟨p, a, b⟩ := r
  cases a <;> cases b <;> rfl
theorem eqv_row {as : List At} (h : as.any At.isB = false) (r : Row) : PyData.eqv (rowD r).py (D.tup (atsD as)).py = decide (as = r.ats) := by
  have e : PyData.eqv (rowD r).py (D.tup (atsD as)).py = PyData.eqvAll (r.ats.map At.d) (as.map At.d) := by
    rw [rowD_ats]
    simp only [D.py, atsD_py, PyData.eqv]
  rw [e, eqv_ats (ats_noB r) h]
  by_cases c : as = r.ats
  · subst c
    simp
  · rw [decide_eq_false c, decide_eq_false fun z => c z.symm]
/-- what is looked for in an end -/
inductive Th where
  | t (as : List At) | l (as : List At) | n (r : Row)
def Th.D : Th → D
  | .t as => .tup (atsD as)
  | .l as => .lst (atsD as)
  | .n r => .tup [rowD r]
def Th.is (x : Th) (r : Row) : Bool := match x with
  | .t as => decide (as = r.ats)
  | _ => false
def Th.Ok : Th → Prop
  | .t as => ∀ a, a ∈ as → okAt a
  | .l as => True
  | .n r => eokN 1 (rowD r)
theorem in_rows {n : Nat} {ws : List Str} (h : okWords ws) {rs : List Row} (hr : ∀ r, r ∈ rs → r.Ok n ws) {x : Th} (hx : x.Ok) (hb : ∀ as, x = .t as → as.any At.isB = false) (hl : ∀ as, x ≠ .l as) : oInT false x.D (.tup (rowsD rs)) = some (.bl (rs.any x.is)) := by
  have e1 : (D.tup (rowsD rs)).eok = true := rows_tup_eok h hr
  have e2 : x.D.eok = true := by
    cases x with
    | t as => exact (atsD_eokN hx).eok (by omega)
    | l as => exact absurd rfl (hl as)
    | n r => exact (eokN_tup (n := 1) fun d hd => by simp at hd; subst hd; exact hx).eok (by omega)
  unfold oInT
  simp only []
  rw [if_pos (by rw [e1, e2]; rfl)]
  simp only [Bool.false_eq_true, if_false]
  congr 2
  unfold rowsD
  rw [List.any_map]
  apply List.any_congr rfl
  intro r
  show PyData.eqv (rowD r).py x.D.py = x.is r
  cases x with
  | t as => exact eqv_row (hb as rfl) r
  | l as => exact absurd rfl (hl as)
  | n r' =>
    show PyData.eqv (rowD r).py (D.tup [rowD r']).py = false
    rw [rowD_ats]
    obtain ⟨p, a, b⟩ := r
    simp [D.py, atsD_py, PyData.eqv, D.pyAll, Row.ats, PyData.eqvAll]
theorem isi_tup : isi .tuple .tuple = true := rfl
theorem bls_of (l : List Bool) : blsOf (l.map D.bl) = some l := by
  induction l with
  | nil => rfl
  | cons b l ih =>
    show (blsOf (l.map D.bl)).map (b :: ·) = _
    rw [ih]
    rfl
theorem any_ats (as : List At) : oAny (.lst (as.map fun a => D.bl a.isB)) = some (.bl (as.any At.isB)) := by
  have e : (as.map fun a => D.bl a.isB) = (as.map At.isB).map D.bl := by rw [List.map_map]; rfl
  rw [e]
  show Option.map (fun bs => D.bl (bs.any id)) (blsOf ((as.map At.isB).map D.bl)) = _
  rw [bls_of, Option.map_some, List.any_map]
  rfl
theorem isB_elt {e d : D} {a : At} : E_End_contains_1 [.sh e, .sh d, .sh (atD a)] = .val (.bl a.isB) [.sh e, .sh d, .sh (atD a)] := by
  cases a <;> rfl
theorem isB_all (e d : D) (as : List At) (hl : as.length ≤ 1000) : ∃ s, compF (.nm 2) fYes E_End_contains_1 [2] (atsD as) [] [.sh e, .sh d, .un] = .val (as.map fun a => D.bl a.isB) [.sh e, .sh d, s] := by
  obtain ⟨acc, env', h, s, rfl, rfl⟩ := comp_ok (p := .nm 2) (ft := fYes) (fe := E_End_contains_1) (vs := [2]) (ds := atsD as) (fun i acc env => ∃ s, acc = ((as.take i).map fun a => D.bl a.isB) ∧ env = [.sh e, .sh d, s]) (fun i y acc env hd hi => by
    obtain ⟨s, rfl, rfl⟩ := hi
    unfold atsD at hd
    rw [List.getElem?_map] at hd
    cases ha : as[i]? with
    | none =>
      rw [ha] at hd
      cases hd
    | some a =>
      rw [ha] at hd
      cases hd
      refine ⟨_, true, _, rfl, rfl, fun _ => ⟨_, _, isB_elt, ?_, _, ?_, rfl⟩, fun z => by cases z⟩
      · rw [List.length_map, List.length_take]
        have := (List.getElem?_eq_some_iff.mp ha).1
        exact Nat.lt_of_le_of_lt (show min i as.length ≤ 1000 by omega) (by decide)
      · rw [List.take_succ, ha, List.map_append]
        rfl) (env := [.sh e, .sh d, .un]) ⟨.un, by rw [List.take_zero]; rfl, rfl⟩
  have et : as.take (atsD as).length = as := by
    unfold atsD
    rw [List.length_map, List.take_length]
  rw [et] at h
  exact ⟨s, h⟩
theorem endD_0 (hs ss : List Row) : oFld "End" 0 (endD hs ss) = some (.tup (rowsD hs)) := rfl
theorem endD_1 (hs ss : List Row) : oFld "End" 1 (endD hs ss) = some (.tup (rowsD ss)) := rfl
/-- a tuple of things that are no truths, once it is known whether it is in the one or the other -/
theorem contains_2 {e : D} {l H S : List D} {h s : Bool} {t : Slot} {bs : List D} {b : Bool} (e0 : oFld "End" 0 e = some (.tup H)) (e1 : oFld "End" 1 e = some (.tup S)) (hc : compF (.nm 2) fYes E_End_contains_1 [2] l [] [.sh e, .sh (.tup l), .un] = .val bs [.sh e, .sh (.tup l), t]) (ha : oAny (.lst bs) = some (.bl b))
    (h0 : b = false → oInT false (.tup l) (.tup H) = some (.bl h)) (h1 : b = false → oInT false (.tup l) (.tup S) = some (.bl s)) : Φ_End_contains [e, .tup l] = .ret false (.bl (!b && (h || s))) [.non, .non] := by
  unfold Φ_End_contains F_End_contains
  cases b with
  | true =>
    clear h0 h1
    have z := isi_tup
    walk_at "ev"
  | false =>
    have h0 := h0 rfl
    have h1 := h1 rfl
    have z := isi_tup
    cases h <;> cases s <;> walk_at "ev"
theorem contains_no {e d : D} {t : Ty} (h : d.ty = some t) (ht : isi t .tuple = false) : Φ_End_contains [e, d] = .ret false (.bl false) [.non, .non] := by
  unfold Φ_End_contains F_End_contains
  cases t <;> first | (cases ht; done) | walk_at "ev"
theorem is_noB {as : List At} {rs : List Row} (h : as.any At.isB = true) : rs.any (Th.t as).is = false := by
  rw [List.any_eq_false]
  intro r _ z
  have z := of_decide_eq_true z
  rw [z, ats_noB] at h
  cases h
theorem contains_ok {hs ss : List Row} (k1 : HearerOk hs) (k2 : SenderOk ss) {x : Th} (hx : x.Ok) (hn : ∀ as, x = .t as → as.length ≤ 1000) : Φ_End_contains [endD hs ss, x.D] = .ret false (.bl ((hs ++ ss).any x.is)) [.non, .non] := by
  rw [List.any_append]
  cases x with
  | t as =>
    obtain ⟨s, hc⟩ := isB_all (endD hs ss) (.tup (atsD as)) as (hn as rfl)
    have h := contains_2 (h := hs.any (Th.t as).is) (s := ss.any (Th.t as).is) (endD_0 hs ss) (endD_1 hs ss) hc (any_ats as) (fun hb => in_rows (x := .t as) (.inl rfl) k1.2.2.1 hx (fun as' z => by cases z; exact hb) (fun _ z => by cases z)) (fun hb => in_rows (x := .t as) (.inr rfl) k2.2.2 hx (fun as' z => by cases z; exact hb) (fun _ z => by cases z))
    refine h.trans ?_
    cases hb : as.any At.isB with
    | false => rfl
    | true =>
      rw [is_noB hb, is_noB hb]
      rfl
  | l as =>
    have e : ∀ rs : List Row, rs.any (Th.l as).is = false := fun rs => by
      rw [List.any_eq_false]
      intro r _ z
      cases z
    rw [e, e]
    exact contains_no (t := .list) rfl rfl
  | n r =>
    have e : ∀ rs : List Row, rs.any (Th.n r).is = false := fun rs => by
      rw [List.any_eq_false]
      intro r _ z
      cases z
    have h := contains_2 (t := .sh (rowD r)) (h := hs.any (Th.n r).is) (s := ss.any (Th.n r).is) (b := false) (bs := [.bl false]) (l := [rowD r]) (endD_0 hs ss) (endD_1 hs ss) rfl rfl (fun hb => in_rows (x := .n r) (.inl rfl) k1.2.2.1 hx (fun as' z => by cases z) (fun _ z => by cases z)) (fun hb => in_rows (x := .n r) (.inr rfl) k2.2.2 hx (fun as' z => by cases z) (fun _ z => by cases z))
    exact h
end Pg
set_option Elab.async false
set_option linter.all false
set_option maxRecDepth 100000
set_option maxHeartbeats 1000000
namespace Pg
open PySem L2 Sb Vl
local macro_rules | `(tactic| walk_at "ev") => `(tactic| simp only [Vl.runV, Vl.mkEnv, Vl.Res.of, Vl.Res.quiet, Vl.Res.val, Vl.ioAt, Vl.fSeq, Vl.fIte, Vl.fAsg, Vl.fVar, Vl.fC, Vl.fOp, Vl.fIxO, Vl.fPutL, Vl.fRet, Vl.fRetW, Vl.fRetO, Vl.fRetN, Vl.fLst, Vl.fTup, Vl.fB, Vl.fTru, Vl.fCB, Vl.fCons, Vl.fNil, Vl.o1, Vl.o2, Vl.oI, Vl.oIC, Vl.slotL, Vl.slotO, Vl.own, Vl.Pat.put, Vl.Pat.puts, Vl.Out.bind, Vl.Out.opt, Vl.fNx, Vl.fCt, Vl.fBk, Vl.fPar, Vl.fCall, Vl.fCallN, Vl.fCallL, Vl.fSetN, Vl.gIo, Vl.gCn, Vl.gNl, Vl.agDs, Vl.agD, Vl.ioSlots, Vl.putAll, Vl.put1, Vl.Ag.isIo, Vl.fAnd, Vl.fOr, Vl.fNot, Vl.fAndT, Vl.fOrT, Vl.fNotT, Vl.fChain, Vl.fIsi, Vl.fIsi2, Vl.fUn, Vl.fDrop, Vl.fApp, Vl.fLenO, Vl.fMake, Vl.fRaise, Vl.fFldS, Vl.fDInO, Vl.fDPutO, Vl.fDGetO, Vl.fPop, Vl.fListD, Vl.fDOne, Vl.fDNewK, Vl.isi, Vl.bOf, Vl.sOf, Vl.fFmt, Vl.fJs, Vl.oFmt, Vl.fM1, Vl.fM0, Vl.fFor, Vl.fItems, Vl.fEnum, Vl.fSl, Vl.fPart, Vl.fNoPart, Vl.fNeg, Vl.fAugI, Vl.fInO, Vl.fYes, Vl.fTruO, Vl.fComp, Vl.fCompO, Vl.calmE, Vl.wipeE, Vl.backE, Vl.oIsN, Vl.oStr, ↓Vl.fRng1_one, Vl.oLen_lst, Vl.oLen_tup, Vl.oLen_ctup, Vl.oLen_scr, Vl.oIx_lst, Vl.oIx_tup, Vl.oIx_ctup, Vl.oIx_scr, Vl.oInt_int, Vl.oInt_bl, Vl.oAbs_int, Vl.oMax_int, Vl.oMin_int, Vl.oTuple_lst, Vl.oTuple_tup, Vl.oList_lst, Vl.oList_tup, Vl.oNeg_int, Vl.ty_non, Vl.ty_bl, Vl.ty_int, Vl.ty_str, Vl.ty_tup, Vl.ty_ctup, Vl.ty_lst, Vl.ty_dk, Vl.ty_scr, Vl.tru_non, Vl.tru_bl, Vl.tru_int, Vl.tru_lst, Vl.tru_tup, Vl.oEqS_int, Vl.oEqS_str, Vl.oEqS_bl, Vl.oCat_lst, Vl.oCatA_tup, Vl.oSlT_tup, Vl.oSlL_lst, Vl.keyOf_int, Vl.keyOf_str, Vl.isNon_non, Vl.isNon_bl, Vl.isNon_int, Vl.isNon_str, Vl.isNon_tup, Vl.isNon_lst, Vl.oFld_ob, Vl.isOb_ob', Vl.atI_0, Vl.atI_1, Vl.atI_2, Vl.atI_3, Vl.ixN_0, Vl.ixN_1, Vl.ixN_2, List.zipWith, List.replicate, List.append, List.cons_append, List.nil_append, List.append_nil, List.getElem?_cons_zero, List.getElem?_cons_succ, List.getElem?_nil, List.set_cons_zero, List.set_cons_succ, List.length_cons, List.length_nil, List.map_cons, List.map_nil, List.nodup_cons, List.nodup_nil, List.not_mem_nil, List.reverse_cons, List.reverse_nil, Bool.false_eq_true, ite_true, ite_false, if_true, if_false, reduceIte, decide_true, decide_false, Bool.true_and, Bool.and_true, Bool.false_and, Bool.and_false, Bool.not_true, Bool.not_false, Bool.or_false, Bool.false_or, Bool.or_true, Bool.true_or, reduceCtorEq, not_false_eq_true, not_true_eq_false, and_self, and_true, true_and, or_false, or_true, Nat.reduceSub, Nat.reduceAdd, Nat.reduceLeDiff, Nat.zero_add, Option.map_some, Option.map_none, Option.bind_some, Option.bind_none, Option.isSome_some, Option.isSome_none, List.mem_cons, List.all_cons, List.all_nil, eq_self, Int.cast_ofNat_Int, Int.natCast_zero, Int.natCast_one, Int.reduceEq, Int.reduceLT, Int.reduceLE, Int.reduceAdd, Int.reduceSub, Int.reduceNeg, Nat.reduceEqDiff, *])
local macro_rules | `(tactic| walk_at "e0") => `(tactic| simp only [Vl.runV, Vl.mkEnv, Vl.Res.of, Vl.Res.quiet, Vl.Res.val, Vl.ioAt, Vl.fSeq, Vl.fIte, Vl.fAsg, Vl.fVar, Vl.fC, Vl.fOp, Vl.fIxO, Vl.fPutL, Vl.fRet, Vl.fRetW, Vl.fRetO, Vl.fRetN, Vl.fLst, Vl.fTup, Vl.fB, Vl.fTru, Vl.fCB, Vl.fCons, Vl.fNil, Vl.o1, Vl.o2, Vl.oI, Vl.oIC, Vl.slotL, Vl.slotO, Vl.own, Vl.Pat.put, Vl.Pat.puts, Vl.Out.bind, Vl.Out.opt, Vl.fNx, Vl.fCt, Vl.fBk, Vl.fPar, Vl.fCall, Vl.fCallN, Vl.fCallL, Vl.fSetN, Vl.gIo, Vl.gCn, Vl.gNl, Vl.agDs, Vl.agD, Vl.ioSlots, Vl.putAll, Vl.put1, Vl.Ag.isIo, Vl.fAnd, Vl.fOr, Vl.fNot, Vl.fAndT, Vl.fOrT, Vl.fNotT, Vl.fChain, Vl.fIsi, Vl.fIsi2, Vl.fUn, Vl.fDrop, Vl.fApp, Vl.fLenO, Vl.fMake, Vl.fRaise, Vl.fFldS, Vl.fDInO, Vl.fDPutO, Vl.fDGetO, Vl.fPop, Vl.fListD, Vl.fDOne, Vl.fDNewK, Vl.isi, Vl.bOf, Vl.sOf, Vl.fFmt, Vl.fJs, Vl.oFmt, Vl.fM1, Vl.fM0, Vl.fFor, Vl.fItems, Vl.fEnum, Vl.fSl, Vl.fPart, Vl.fNoPart, Vl.fNeg, Vl.fAugI, Vl.fInO, Vl.fYes, Vl.fTruO, Vl.fComp, Vl.fCompO, Vl.calmE, Vl.wipeE, Vl.backE, Vl.oIsN, Vl.oStr, ↓Vl.fRng1_one, Vl.oLen_lst, Vl.oLen_tup, Vl.oLen_ctup, Vl.oLen_scr, Vl.oIx_lst, Vl.oIx_tup, Vl.oIx_ctup, Vl.oIx_scr, Vl.oInt_int, Vl.oInt_bl, Vl.oAbs_int, Vl.oMax_int, Vl.oMin_int, Vl.oTuple_lst, Vl.oTuple_tup, Vl.oList_lst, Vl.oList_tup, Vl.oNeg_int, Vl.ty_non, Vl.ty_bl, Vl.ty_int, Vl.ty_str, Vl.ty_tup, Vl.ty_ctup, Vl.ty_lst, Vl.ty_dk, Vl.ty_scr, Vl.tru_non, Vl.tru_bl, Vl.tru_int, Vl.tru_lst, Vl.tru_tup, Vl.oEqS_int, Vl.oEqS_str, Vl.oEqS_bl, Vl.oCat_lst, Vl.oCatA_tup, Vl.oSlT_tup, Vl.oSlL_lst, Vl.keyOf_int, Vl.keyOf_str, Vl.isNon_non, Vl.isNon_bl, Vl.isNon_int, Vl.isNon_str, Vl.isNon_tup, Vl.isNon_lst, Vl.oFld_ob, Vl.isOb_ob', Vl.atI_0, Vl.atI_1, Vl.atI_2, Vl.atI_3, Vl.ixN_0, Vl.ixN_1, Vl.ixN_2, List.zipWith, List.replicate, List.append, List.cons_append, List.nil_append, List.append_nil, List.getElem?_cons_zero, List.getElem?_cons_succ, List.getElem?_nil, List.set_cons_zero, List.set_cons_succ, List.length_cons, List.length_nil, List.map_cons, List.map_nil, List.nodup_cons, List.nodup_nil, List.not_mem_nil, List.reverse_cons, List.reverse_nil, Bool.false_eq_true, ite_true, ite_false, if_true, if_false, reduceIte, decide_true, decide_false, Bool.true_and, Bool.and_true, Bool.false_and, Bool.and_false, Bool.not_true, Bool.not_false, Bool.or_false, Bool.false_or, Bool.or_true, Bool.true_or, reduceCtorEq, not_false_eq_true, not_true_eq_false, and_self, and_true, true_and, or_false, or_true, Nat.reduceSub, Nat.reduceAdd, Nat.reduceLeDiff, Nat.zero_add, Option.map_some, Option.map_none, Option.bind_some, Option.bind_none, Option.isSome_some, Option.isSome_none, List.mem_cons, List.all_cons, List.all_nil, eq_self, Int.cast_ofNat_Int, Int.natCast_zero, Int.natCast_one, Int.reduceEq, Int.reduceLT, Int.reduceLE, Int.reduceAdd, Int.reduceSub, Int.reduceNeg, Nat.reduceEqDiff])
theorem fmt_int {n : Nat} (h : n ≤ 1000) : oFmt (.int (n : Int)) = some (.str (Str.ofString (toString (n : Int)))) := if_pos (num_log h)
theorem fmt_pl {p : Pl} (h : smallPl p) : oFmt (plD p) = some (.str (plT p)) := by
  cases p with
  | num n => exact fmt_int h
  | word s => exact if_pos (Nat.le_trans (plT_len (p := .word s) h) (by decide))
theorem smallW {ws : List Str} (h : okWords ws) : isWords ws := by
  rcases h with rfl | rfl <;> first | exact .inl rfl | exact .inr rfl
theorem elt_text {m : D} {r : Row} (h : smallRow r) : E_machine_text_1 [.sh m, .sh (.int (r.put : Int)), .sh (plD r.a), .sh (plD r.b)] = .val (.str (rowT r)) [.sh m, .sh (.int (r.put : Int)), .sh (plD r.a), .sh (plD r.b)] := by
  have f1 := fmt_int h.1
  have f2 := fmt_pl h.2.1
  have f3 := fmt_pl h.2.2
  have l1 := num_len h.1
  have l2 := plT_len h.2.1
  have l3 := plT_len h.2.2
  have e : (" " : Str).length = 1 := by decide +kernel
  have e0 : Str.empty.length = 0 := by decide +kernel
  have big : (1000 : Nat) ≤ sizeLine := by decide
  have er : rowT r = ((((Str.empty ++ Str.ofString (toString (r.put : Int))) ++ (" " : Str)) ++ plT r.a) ++ (" " : Str)) ++ plT r.b := rfl
  rw [er]
  generalize Str.ofString (toString (r.put : Int)) = t1 at f1 l1 ⊢
  generalize plT r.a = t2 at f2 l2 ⊢
  generalize plT r.b = t3 at f3 l3 ⊢
  generalize plD r.a = d2 at f2 ⊢
  generalize plD r.b = d3 at f3 ⊢
  generalize D.int (r.put : Int) = d1 at f1 ⊢
  have c1 : ((Str.empty ++ t1).length ≤ sizeLine) = True := eq_true (Nat.le_trans (by rw [strLen_append, e0]; omega : _ ≤ 1000) big)
  have c2 : ((Str.empty ++ t1 ++ (" " : Str)).length ≤ sizeLine) = True := eq_true (Nat.le_trans (by rw [strLen_append, strLen_append, e, e0]; omega : _ ≤ 1000) big)
  have c3 : ((Str.empty ++ t1 ++ (" " : Str) ++ t2).length ≤ sizeLine) = True := eq_true (Nat.le_trans (by rw [strLen_append, strLen_append, strLen_append, e, e0]; omega : _ ≤ 1000) big)
  have c4 : ((Str.empty ++ t1 ++ (" " : Str) ++ t2 ++ (" " : Str)).length ≤ sizeLine) = True := eq_true (Nat.le_trans (by rw [strLen_append, strLen_append, strLen_append, strLen_append, e, e0]; omega : _ ≤ 1000) big)
  have c5 : ((Str.empty ++ t1 ++ (" " : Str) ++ t2 ++ (" " : Str) ++ t3).length ≤ sizeLine) = True := eq_true (Nat.le_trans (by rw [strLen_append, strLen_append, strLen_append, strLen_append, strLen_append, e, e0]; omega : _ ≤ 1000) big)
  clear l1 l2 l3 h e e0 big er
  unfold E_machine_text_1 fFmt
  generalize oFmt = o at f1 f2 f3 ⊢
  walk_at "ev"
theorem strs_of (l : List Str) : strsOf (l.map D.str) = some l := by
  induction l with
  | nil => rfl
  | cons b l ih =>
    show (strsOf (l.map D.str)).map (b :: ·) = _
    rw [ih]
    rfl
theorem text_ok {rs : List Row} (h : ∀ r, r ∈ rs → smallRow r) (hn : rs.length ≤ 1000) : Φ_machine_text [.tup (rowsD rs)] = .ret false (.str (machT rs)) [.non] := by
  obtain ⟨acc, env', hc, s1, s2, s3, rfl, rfl⟩ := comp_ok (p := .tp [(.nm 1), (.nm 2), (.nm 3)]) (ft := fYes) (fe := E_machine_text_1) (vs := [1, 2, 3]) (ds := rowsD rs) (fun i acc env => ∃ s1 s2 s3, acc = (((rs.take i).map rowT).map D.str) ∧ env = [.sh (.tup (rowsD rs)), s1, s2, s3]) (fun i y acc env hd hi => by
    obtain ⟨s1, s2, s3, rfl, rfl⟩ := hi
    obtain ⟨r, hr, rfl⟩ := rowsD_get hd
    refine ⟨[.sh (.tup (rowsD rs)), .sh (.int (r.put : Int)), .sh (plD r.a), .sh (plD r.b)], true, _, rfl, rfl, fun _ => ⟨_, _, elt_text (h r (List.mem_of_getElem? hr)), ?_, _, _, _, ?_, rfl⟩, fun z => by cases z⟩
    · rw [List.length_map, List.length_map, List.length_take]
      have := (List.getElem?_eq_some_iff.mp hr).1
      exact Nat.lt_of_le_of_lt (show min i rs.length ≤ 1000 by omega) (by decide)
    · rw [List.take_succ, hr, List.map_append, List.map_append]
      rfl) (env := [.sh (.tup (rowsD rs)), .un, .un, .un]) ⟨.un, .un, .un, by rw [List.take_zero]; rfl, rfl⟩
  have et : rs.take (rowsD rs).length = rs := by rw [rowsD_len, List.take_length]
  rw [et] at hc
  have hj : oJoin (", " : Str) (.lst ((rs.map rowT).map D.str)) = some (.str (machT rs)) := by
    show (strsOf _).bind _ = _
    rw [strs_of, Option.bind_some]
    have l1 := machT_len h
    have e : (", " : Str).length = 2 := by decide +kernel
    exact if_pos (by rw [List.length_map, e]; omega)
  unfold Φ_machine_text F_machine_text
  clear h hn et
  walk_at "ev"
theorem str_ok {hs ss : List Row} (k1 : HearerOk hs) (k2 : SenderOk ss) : Φ_End_str [endD hs ss] = .ret false (.str (endT hs ss)) [.non] := by
  have s1 : ∀ r, r ∈ hs → smallRow r := fun r hr => smallRow_of (smallW (.inl rfl)) (Nat.le_trans k1.2.1 (by decide)) (k1.2.2.1 r hr)
  have s2 : ∀ r, r ∈ ss → smallRow r := fun r hr => smallRow_of (smallW (.inr rfl)) (Nat.le_trans k2.2.1 (by decide)) (k2.2.2 r hr)
  have t1 := text_ok s1 (Nat.le_trans k1.2.1 (by decide))
  have t2 := text_ok s2 (Nat.le_trans k2.2.1 (by decide))
  have l1 := machT_fits s1 (Nat.le_trans k1.2.1 (by decide))
  have l2 := machT_fits s2 (Nat.le_trans k2.2.1 (by decide))
  have e : (" | " : Str).length = 3 := by decide +kernel
  have e0 : Str.empty.length = 0 := by decide +kernel
  have big : (100000 : Nat) ≤ sizeLine := by decide
  have er : endT hs ss = ((Str.empty ++ machT hs) ++ (" | " : Str)) ++ machT ss := rfl
  have f1 := endD_0 hs ss
  have f2 := endD_1 hs ss
  rw [er]
  generalize machT hs = m1 at t1 l1 ⊢
  generalize machT ss = m2 at t2 l2 ⊢
  generalize endD hs ss = d at f1 f2 ⊢
  have g1 : oFmt (.str m1) = some (.str m1) := if_pos (Nat.le_trans (by omega : _ ≤ 100000) big)
  have g2 : oFmt (.str m2) = some (.str m2) := if_pos (Nat.le_trans (by omega : _ ≤ 100000) big)
  have c0 : (m1.length ≤ sizeLine) = True := eq_true (Nat.le_trans (by omega : _ ≤ 100000) big)
  have c00 : (m2.length ≤ sizeLine) = True := eq_true (Nat.le_trans (by omega : _ ≤ 100000) big)
  have c1 : ((Str.empty ++ m1).length ≤ sizeLine) = True := eq_true (Nat.le_trans (by rw [strLen_append, e0]; omega : _ ≤ 100000) big)
  have c2 : ((Str.empty ++ m1 ++ (" | " : Str)).length ≤ sizeLine) = True := eq_true (Nat.le_trans (by rw [strLen_append, strLen_append, e, e0]; omega : _ ≤ 100000) big)
  have c3 : ((Str.empty ++ m1 ++ (" | " : Str) ++ m2).length ≤ sizeLine) = True := eq_true (Nat.le_trans (by rw [strLen_append, strLen_append, strLen_append, e, e0]; omega : _ ≤ 100000) big)
  clear s1 s2 l1 l2 e e0 big er k1 k2 g1 g2
  unfold Φ_End_str F_End_str
  walk_at "ev"
end Pg
set_option Elab.async false
set_option linter.all false
set_option maxRecDepth 100000
set_option maxHeartbeats 1000000
namespace Pg
open PySem L2 Sb Vl
open Sb hiding plD rowD rowsD
local macro_rules | `(tactic| walk_at "ev") => `(tactic| simp only [Vl.runV, Vl.mkEnv, Vl.Res.of, Vl.Res.quiet, Vl.Res.val, Vl.ioAt, Vl.fSeq, Vl.fIte, Vl.fAsg, Vl.fVar, Vl.fC, Vl.fOp, Vl.fIxO, Vl.fPutL, Vl.fRet, Vl.fRetW, Vl.fRetO, Vl.fRetN, Vl.fLst, Vl.fTup, Vl.fB, Vl.fTru, Vl.fCB, Vl.fCons, Vl.fNil, Vl.o1, Vl.o2, Vl.oI, Vl.oIC, Vl.slotL, Vl.slotO, Vl.own, Vl.Pat.put, Vl.Pat.puts, Vl.Out.bind, Vl.Out.opt, Vl.fNx, Vl.fCt, Vl.fBk, Vl.fPar, Vl.fCall, Vl.fCallN, Vl.fCallL, Vl.fSetN, Vl.gIo, Vl.gCn, Vl.gNl, Vl.agDs, Vl.agD, Vl.ioSlots, Vl.putAll, Vl.put1, Vl.Ag.isIo, Vl.fAnd, Vl.fOr, Vl.fNot, Vl.fAndT, Vl.fOrT, Vl.fNotT, Vl.fChain, Vl.fIsi, Vl.fIsi2, Vl.fUn, Vl.fDrop, Vl.fApp, Vl.fLenO, Vl.fMake, Vl.fRaise, Vl.fFldS, Vl.fDInO, Vl.fDPutO, Vl.fDGetO, Vl.fPop, Vl.fListD, Vl.fDOne, Vl.fDNewK, Vl.isi, Vl.bOf, Vl.sOf, Vl.fFmt, Vl.fJs, Vl.oFmt, Vl.fM1, Vl.fM0, Vl.fFor, Vl.fItems, Vl.fEnum, Vl.fSl, Vl.fPart, Vl.fNoPart, Vl.fNeg, Vl.fAugI, Vl.fInO, Vl.fYes, Vl.fTruO, Vl.fComp, Vl.fCompO, Vl.calmE, Vl.wipeE, Vl.backE, Vl.oIsN, Vl.oStr, ↓Vl.fRng1_one, Vl.oLen_lst, Vl.oLen_tup, Vl.oLen_ctup, Vl.oLen_scr, Vl.oIx_lst, Vl.oIx_tup, Vl.oIx_ctup, Vl.oIx_scr, Vl.oInt_int, Vl.oInt_bl, Vl.oAbs_int, Vl.oMax_int, Vl.oMin_int, Vl.oTuple_lst, Vl.oTuple_tup, Vl.oList_lst, Vl.oList_tup, Vl.oNeg_int, Vl.ty_non, Vl.ty_bl, Vl.ty_int, Vl.ty_str, Vl.ty_tup, Vl.ty_ctup, Vl.ty_lst, Vl.ty_dk, Vl.ty_scr, Vl.tru_non, Vl.tru_bl, Vl.tru_int, Vl.tru_lst, Vl.tru_tup, Vl.oEqS_int, Vl.oEqS_str, Vl.oEqS_bl, Vl.oCat_lst, Vl.oCatA_tup, Vl.oSlT_tup, Vl.oSlL_lst, Vl.keyOf_int, Vl.keyOf_str, Vl.isNon_non, Vl.isNon_bl, Vl.isNon_int, Vl.isNon_str, Vl.isNon_tup, Vl.isNon_lst, Vl.oFld_ob, Vl.isOb_ob', Vl.atI_0, Vl.atI_1, Vl.atI_2, Vl.atI_3, Vl.ixN_0, Vl.ixN_1, Vl.ixN_2, List.zipWith, List.replicate, List.append, List.cons_append, List.nil_append, List.append_nil, List.getElem?_cons_zero, List.getElem?_cons_succ, List.getElem?_nil, List.set_cons_zero, List.set_cons_succ, List.length_cons, List.length_nil, List.map_cons, List.map_nil, List.nodup_cons, List.nodup_nil, List.not_mem_nil, List.reverse_cons, List.reverse_nil, Bool.false_eq_true, ite_true, ite_false, if_true, if_false, reduceIte, decide_true, decide_false, Bool.true_and, Bool.and_true, Bool.false_and, Bool.and_false, Bool.not_true, Bool.not_false, Bool.or_false, Bool.false_or, Bool.or_true, Bool.true_or, reduceCtorEq, not_false_eq_true, not_true_eq_false, and_self, and_true, true_and, or_false, or_true, Nat.reduceSub, Nat.reduceAdd, Nat.reduceLeDiff, Nat.zero_add, Option.map_some, Option.map_none, Option.bind_some, Option.bind_none, Option.isSome_some, Option.isSome_none, List.mem_cons, List.all_cons, List.all_nil, eq_self, Int.cast_ofNat_Int, Int.natCast_zero, Int.natCast_one, Int.reduceEq, Int.reduceLT, Int.reduceLE, Int.reduceAdd, Int.reduceSub, Int.reduceNeg, Nat.reduceEqDiff, *])
local macro_rules | `(tactic| walk_at "e0") => `(tactic| simp only [Vl.runV, Vl.mkEnv, Vl.Res.of, Vl.Res.quiet, Vl.Res.val, Vl.ioAt, Vl.fSeq, Vl.fIte, Vl.fAsg, Vl.fVar, Vl.fC, Vl.fOp, Vl.fIxO, Vl.fPutL, Vl.fRet, Vl.fRetW, Vl.fRetO, Vl.fRetN, Vl.fLst, Vl.fTup, Vl.fB, Vl.fTru, Vl.fCB, Vl.fCons, Vl.fNil, Vl.o1, Vl.o2, Vl.oI, Vl.oIC, Vl.slotL, Vl.slotO, Vl.own, Vl.Pat.put, Vl.Pat.puts, Vl.Out.bind, Vl.Out.opt, Vl.fNx, Vl.fCt, Vl.fBk, Vl.fPar, Vl.fCall, Vl.fCallN, Vl.fCallL, Vl.fSetN, Vl.gIo, Vl.gCn, Vl.gNl, Vl.agDs, Vl.agD, Vl.ioSlots, Vl.putAll, Vl.put1, Vl.Ag.isIo, Vl.fAnd, Vl.fOr, Vl.fNot, Vl.fAndT, Vl.fOrT, Vl.fNotT, Vl.fChain, Vl.fIsi, Vl.fIsi2, Vl.fUn, Vl.fDrop, Vl.fApp, Vl.fLenO, Vl.fMake, Vl.fRaise, Vl.fFldS, Vl.fDInO, Vl.fDPutO, Vl.fDGetO, Vl.fPop, Vl.fListD, Vl.fDOne, Vl.fDNewK, Vl.isi, Vl.bOf, Vl.sOf, Vl.fFmt, Vl.fJs, Vl.oFmt, Vl.fM1, Vl.fM0, Vl.fFor, Vl.fItems, Vl.fEnum, Vl.fSl, Vl.fPart, Vl.fNoPart, Vl.fNeg, Vl.fAugI, Vl.fInO, Vl.fYes, Vl.fTruO, Vl.fComp, Vl.fCompO, Vl.calmE, Vl.wipeE, Vl.backE, Vl.oIsN, Vl.oStr, ↓Vl.fRng1_one, Vl.oLen_lst, Vl.oLen_tup, Vl.oLen_ctup, Vl.oLen_scr, Vl.oIx_lst, Vl.oIx_tup, Vl.oIx_ctup, Vl.oIx_scr, Vl.oInt_int, Vl.oInt_bl, Vl.oAbs_int, Vl.oMax_int, Vl.oMin_int, Vl.oTuple_lst, Vl.oTuple_tup, Vl.oList_lst, Vl.oList_tup, Vl.oNeg_int, Vl.ty_non, Vl.ty_bl, Vl.ty_int, Vl.ty_str, Vl.ty_tup, Vl.ty_ctup, Vl.ty_lst, Vl.ty_dk, Vl.ty_scr, Vl.tru_non, Vl.tru_bl, Vl.tru_int, Vl.tru_lst, Vl.tru_tup, Vl.oEqS_int, Vl.oEqS_str, Vl.oEqS_bl, Vl.oCat_lst, Vl.oCatA_tup, Vl.oSlT_tup, Vl.oSlL_lst, Vl.keyOf_int, Vl.keyOf_str, Vl.isNon_non, Vl.isNon_bl, Vl.isNon_int, Vl.isNon_str, Vl.isNon_tup, Vl.isNon_lst, Vl.oFld_ob, Vl.isOb_ob', Vl.atI_0, Vl.atI_1, Vl.atI_2, Vl.atI_3, Vl.ixN_0, Vl.ixN_1, Vl.ixN_2, List.zipWith, List.replicate, List.append, List.cons_append, List.nil_append, List.append_nil, List.getElem?_cons_zero, List.getElem?_cons_succ, List.getElem?_nil, List.set_cons_zero, List.set_cons_succ, List.length_cons, List.length_nil, List.map_cons, List.map_nil, List.nodup_cons, List.nodup_nil, List.not_mem_nil, List.reverse_cons, List.reverse_nil, Bool.false_eq_true, ite_true, ite_false, if_true, if_false, reduceIte, decide_true, decide_false, Bool.true_and, Bool.and_true, Bool.false_and, Bool.and_false, Bool.not_true, Bool.not_false, Bool.or_false, Bool.false_or, Bool.or_true, Bool.true_or, reduceCtorEq, not_false_eq_true, not_true_eq_false, and_self, and_true, true_and, or_false, or_true, Nat.reduceSub, Nat.reduceAdd, Nat.reduceLeDiff, Nat.zero_add, Option.map_some, Option.map_none, Option.bind_some, Option.bind_none, Option.isSome_some, Option.isSome_none, List.mem_cons, List.all_cons, List.all_nil, eq_self, Int.cast_ofNat_Int, Int.natCast_zero, Int.natCast_one, Int.reduceEq, Int.reduceLT, Int.reduceLE, Int.reduceAdd, Int.reduceSub, Int.reduceNeg, Nat.reduceEqDiff])
theorem spl_in (S : List Nat) : ∀ (l : List Nat) (k : Nat) (acc : List Nat), (∀ p, p ∈ TL.spl S k acc l → p.length ≤ acc.length + l.length ∧ ∀ c, c ∈ p → c ∈ acc ∨ c ∈ l) ∧ (TL.spl S k acc l).length ≤ l.length + 1
  | [], k, acc => by
    rw [TL.spl_nil]
    refine ⟨fun p hp => ?_, by simp⟩
    rw [List.mem_singleton] at hp
    subst hp
    exact ⟨by simp, fun c hc => .inl hc⟩
  | c :: r, 0, acc => by
    cases h : TL.pre S (c :: r) with
    | true =>
      rw [TL.spl_hit h]
      obtain ⟨i1, i2⟩ := spl_in S r (S.length - 1) []
      refine ⟨fun p hp => ?_, by simp only [List.length_cons]; omega⟩
      rcases List.mem_cons.mp hp with rfl | hp
      · exact ⟨by simp, fun c hc => .inl hc⟩
      · obtain ⟨j1, j2⟩ := i1 p hp
        refine ⟨by simp only [List.length_cons, List.length_nil] at j1 ⊢; omega, fun x hx => ?_⟩
        rcases j2 x hx with z | z
        · simp at z
        · exact .inr (List.mem_cons_of_mem _ z)
    | false =>
      rw [TL.spl_miss h]
      obtain ⟨i1, i2⟩ := spl_in S r 0 (acc ++ [c])
      refine ⟨fun p hp => ?_, by simp only [List.length_cons]; omega⟩
      obtain ⟨j1, j2⟩ := i1 p hp
      refine ⟨by simp only [List.length_append, List.length_cons, List.length_nil] at j1 ⊢; omega, fun x hx => ?_⟩
      rcases j2 x hx with z | z
      · rcases List.mem_append.mp z with z | z
        · exact .inl z
        · rw [List.mem_singleton] at z
          subst z
          exact .inr List.mem_cons_self
      · exact .inr (List.mem_cons_of_mem _ z)
  | c :: r, k + 1, acc => by
    have e : TL.spl S (k + 1) acc (c :: r) = TL.spl S k acc r := rfl
    rw [e]
    obtain ⟨i1, i2⟩ := spl_in S r k acc
    refine ⟨fun p hp => ?_, by simp only [List.length_cons]; omega⟩
    obtain ⟨j1, j2⟩ := i1 p hp
    exact ⟨by simp only [List.length_cons]; omega, fun x hx => (j2 x hx).elim .inl fun z => .inr (List.mem_cons_of_mem _ z)⟩
/-- a text of the programs: its signs are signs, it is no longer than n -/
def Fine (n : Nat) (s : Str) : Prop := PyData.strOk s = true ∧ s.length ≤ n
theorem strOk_S {a : List Nat} : PyData.strOk (SX.S a) = a.all (· < 0x110000) := by
  unfold PyData.strOk
  rw [← Array.all_toList]
theorem Fine.more {m n : Nat} {s : Str} (h : Fine m s) (hn : m ≤ n) : Fine n s := ⟨h.1, Nat.le_trans h.2 hn⟩
theorem split_fine {n : Nat} {a b : Str} (h : Fine n a) (hb : TL.tl b ≠ []) (hk : (TL.tl b).all (· < 256) = true) : (∀ p, p ∈ Txt.split a b → Fine n p) ∧ (Txt.split a b).length ≤ n + 1 := by
  obtain ⟨h1, h2⟩ := h
  have ea : SX.S (TL.tl a) = a := SX.S_tl a
  have eb : SX.S (TL.tl b) = b := SX.S_tl b
  have hl : a.length = (TL.tl a).length := TL.len_tl a
  rw [← ea, ← eb, SX.split_S hb hk]
  rw [← ea, strOk_S] at h1
  obtain ⟨i1, i2⟩ := spl_in (TL.tl b) (TL.tl a) 0 []
  refine ⟨fun p hp => ?_, by rw [List.length_map]; omega⟩
  obtain ⟨q, hq, rfl⟩ := List.mem_map.mp hp
  obtain ⟨j1, j2⟩ := i1 q hq
  refine ⟨?_, by rw [SX.S_len]; simp only [List.length_nil] at j1; omega⟩
  rw [strOk_S, List.all_eq_true]
  intro c hc
  rcases j2 c hc with z | z
  · simp at z
  · exact List.all_eq_true.mp h1 c z
theorem oSplit_ok {a b : Str} (hb : TL.tl b ≠ []) (hl : a.length ≤ 100000) : oSplit a (.str b) = some (.lst ((Txt.split a b).map D.str)) := by
  refine if_pos ⟨?_, Nat.le_trans (by omega : _ ≤ 100002) (by decide)⟩
  have : b.length = (TL.tl b).length := TL.len_tl b
  rw [this]
  cases h : TL.tl b with
  | nil => exact absurd h hb
  | cons c r => rfl
def isNum9 (s : Str) : Bool := Txt.isascii s && (Txt.isdigit s && (!decide ((9 : Int) < (s.length : Int)) && (decide (s = ("0" : Str)) || !Txt.startswith s ("0" : Str))))
theorem numeral_ok {s : Str} (h : s.length ≤ sizeLine) : Φ_is_numeral [.str s] = .ret false (.bl (isNum9 s)) [.non] := by
  have e4 : oLen (.str s) = some (.int (s.length : Int)) := if_pos h
  clear h
  unfold isNum9 Φ_is_numeral F_is_numeral
  have e1 : oIsAscii s = some (.bl (Txt.isascii s)) := rfl
  have e2 : oIsDigit s = some (.bl (Txt.isdigit s)) := rfl
  have e3 : oStarts s (.str "0") = some (.bl (Txt.startswith s "0")) := rfl
  have e5 : oEqS false (.str s) (.str "0") = some (.bl (decide (s = ("0" : Str)))) := rfl
  generalize oIsAscii = o1 at e1 ⊢
  generalize oIsDigit = o2 at e2 ⊢
  generalize oStarts = o3 at e3 ⊢
  generalize oEqS false = o5 at e5 ⊢
  generalize oLen = o4 at e4 ⊢
  generalize Txt.isascii s = b1 at e1 ⊢
  generalize Txt.isdigit s = b2 at e2 ⊢
  generalize Txt.startswith s "0" = b3 at e3 ⊢
  generalize decide (s = ("0" : Str)) = b4 at e5 ⊢
  generalize hn : (s.length : Int) = n at e4 ⊢
  clear hn
  generalize h5 : decide ((9 : Int) < n) = b5
  cases b1 with
  | false => walk_at "ev"
  | true =>
    cases b2 with
    | false => walk_at "ev"
    | true =>
      cases b5 with
      | true => walk_at "ev"
      | false =>
        cases b4 with
        | true => walk_at "ev"
        | false => cases b3 <;> walk_at "ev"
theorem digit_asc : ∀ c : Fin 128, Unicode.isDigit c.val = true → 48 ≤ c.val ∧ c.val ≤ 57 := by decide +kernel
/-- what is a numeral is a number -/
theorem num_int {s : Str} (h : isNum9 s = true) : ∃ n : Nat, PySem.intText? s = some (n : Int) ∧ s.length ≤ 9 := by
  unfold isNum9 at h
  simp only [Bool.and_eq_true] at h
  obtain ⟨h1, h2, h3, _⟩ := h
  have ea : SX.S (TL.tl s) = s := SX.S_tl s
  have hl : s.length = (TL.tl s).length := TL.len_tl s
  have hle : s.length ≤ 9 := by
    simp only [Bool.not_eq_true', decide_eq_false_iff_not] at h3
    omega
  have a1 : ∀ c, c ∈ TL.tl s → c < 128 := by
    unfold Txt.isascii at h1
    rw [← Array.all_toList, List.all_eq_true] at h1
    exact fun c hc => of_decide_eq_true (h1 c hc)
  unfold Txt.isdigit at h2
  rw [Bool.and_eq_true] at h2
  obtain ⟨g1, g2⟩ := h2
  rw [← Array.all_toList, List.all_eq_true] at g2
  have hd : (TL.tl s).all (fun c => decide (48 ≤ c) && decide (c ≤ 57)) = true := by
    rw [List.all_eq_true]
    intro c hc
    have := digit_asc ⟨c, a1 c hc⟩ (g2 c hc)
    rw [decide_eq_true this.1, decide_eq_true this.2]
    rfl
  have hne : TL.tl s ≠ [] := by
    intro z
    rw [z] at hl
    have g1 := of_decide_eq_true g1
    rw [hl] at g1
    exact absurd g1 (by simp)
  have e := SX.int_S hd hne (by omega)
  rw [ea] at e
  exact ⟨_, e, hle⟩
/-- a place as it is read -/
def readF (s : Str) : Option Pl := if s ∈ hearerWords ∨ s ∈ senderWords then some (.word s) else if isNum9 s = true then (PySem.intText? s).map fun n => .num n.toNat else none
def foD : Option Pl → D
  | none => .non
  | some p => plD p
theorem str_eok {n : Nat} {s : Str} (h : Fine n s) : (D.str s).eok = true := (eokN_str h.1).eok (by omega)
theorem in_words {n : Nat} {s : Str} (h : Fine n s) {ws : List Str} (hw : okWords ws) : oInT false (.str s) (.ctup (ws.map D.str)) = some (.bl (decide (s ∈ ws))) := by
  unfold oInT
  simp only []
  rw [if_pos (by rw [str_eok h, words_eok hw]; rfl), str_any]
  rfl
theorem follower_read {s : Str} (h : Fine 100000 s) : Φ_read_follower [.str s] = .ret false (foD (readF s)) [.non] := by
  have e1 := in_words h (.inl rfl)
  have e2 := in_words h (.inr rfl)
  have e3 := numeral_ok (s := s) (Nat.le_trans h.2 (by decide))
  have e4 : isNum9 s = true → ∃ n : Nat, PySem.intText? s = some (n : Int) ∧ o1 oIntS [.str s] = some (.int (n : Int)) := fun z => by
    obtain ⟨n, g1, g2⟩ := num_int z
    refine ⟨n, g1, ?_⟩
    show oIntS (.str s) = _
    unfold oIntS
    simp only []
    rw [g1, Option.bind_some]
    exact if_pos (by omega)
  clear h
  unfold readF
  have hh : (hearerWords.map D.str) = [.str "taken", .str "lost"] := rfl
  have hs : (senderWords.map D.str) = [.str "done", .str "again"] := rfl
  rw [hh] at e1
  rw [hs] at e2
  unfold Φ_read_follower F_read_follower
  by_cases c1 : s ∈ hearerWords
  · rw [if_pos (.inl c1)]
    rw [decide_eq_true c1] at e1
    clear e2 e3 e4 hh hs c1
    generalize oInT false = o at e1 ⊢
    walk_at "ev"
    rfl
  · rw [decide_eq_false c1] at e1
    by_cases c2 : s ∈ senderWords
    · rw [if_pos (.inr c2)]
      rw [decide_eq_true c2] at e2
      clear e3 e4 hh hs c1 c2
      generalize oInT false = o at e1 e2 ⊢
      walk_at "ev"
      rfl
    · rw [if_neg (fun z => z.elim c1 c2)]
      rw [decide_eq_false c2] at e2
      clear hh hs c1 c2
      cases hb : isNum9 s with
      | true =>
        rw [hb] at e3
        obtain ⟨n, g1, g2⟩ := e4 hb
        rw [g1, if_pos rfl]
        clear e4 hb g1
        generalize oInT false = o at e1 e2 ⊢
        generalize Vl.o1 oIntS = o3 at g2 ⊢
        walk_at "ev"
        rfl
      | false =>
        rw [hb] at e3
        rw [if_neg (by decide)]
        clear e4 hb
        generalize oInT false = o at e1 e2 ⊢
        walk_at "ev"
        rfl
def pick2 : Option Pl → Option Pl → Option (Pl × Pl)
  | some u, some v => some (u, v)
  | _, _ => none
def rowOf (p x y : Str) : Option Row := if p = ("0" : Str) ∨ p = ("1" : Str) then (pick2 (readF x) (readF y)).map fun z => ⟨if p = ("1" : Str) then 1 else 0, z.1, z.2⟩ else none
def readRow (a : Str) : Option Row := match Txt.split a (" " : Str) with
  | [p, x, y] => rowOf p x y
  | _ => none
def rowO : Option Row → D
  | none => .non
  | some r => rowD r
theorem tl_space : TL.tl (" " : Str) = [32] := by decide +kernel
theorem tl_comma : TL.tl (", " : Str) = [44, 32] := by decide +kernel
theorem tl_stroke : TL.tl (" | " : Str) = [32, 124, 32] := by decide +kernel
theorem in_01 {n : Nat} {s : Str} (h : Fine n s) : oInT true (.str s) (.tup [.str "0", .str "1"]) = some (.bl (!(decide (s = ("0" : Str) ∨ s = ("1" : Str))))) := by
  have e : oInT true (.str s) (.tup ((["0", "1"] : List Str).map D.str)) = some (.bl (!(decide (s ∈ (["0", "1"] : List Str))))) := by
    unfold oInT
    simp only []
    rw [if_pos (by rw [str_eok h]; decide +kernel), str_any]
    rfl
  have e2 : (decide (s ∈ (["0", "1"] : List Str))) = decide (s = ("0" : Str) ∨ s = ("1" : Str)) := by
    refine decide_eq_decide.mpr ?_
    simp
  rw [e2] at e
  exact e
theorem non_foD (o : Option Pl) : oIsN false (foD o) .non = some (.bl o.isNone) := by
  cases o with
  | none => rfl
  | some p => cases p <;> rfl
theorem readRow_not {a : Str} (h : (Txt.split a (" " : Str)).length ≠ 3) : readRow a = none := by
  unfold readRow
  split
  · rename_i p x y e
    rw [e] at h
    exact absurd rfl h
  · rfl
theorem ints_01 : oIntS (.str "0") = some (.int 0) ∧ oIntS (.str "1") = some (.int 1) := by
  have e0 : PySem.intText? ("0" : Str) = some 0 := SX.int_S (a := [48]) (by decide) (by decide) (by decide)
  have e1 : PySem.intText? ("1" : Str) = some 1 := SX.int_S (a := [49]) (by decide) (by decide) (by decide)
  constructor
  · unfold oIntS
    simp only []
    rw [e0, Option.bind_some]
    exact if_pos (by decide +kernel)
  · unfold oIntS
    simp only []
    rw [e1, Option.bind_some]
    exact if_pos (by decide +kernel)
theorem row_of3 {p x y : Str} (hx : Fine 100000 x) (hy : Fine 100000 y) (hp : Fine 100000 p) {a : Str} (e0 : oSplit a (.str " ") = some (.lst [.str p, .str x, .str y])) : Φ_read_row [.str a] = .ret false (rowO (rowOf p x y)) [.non] := by
  have e1 := in_01 hp
  have e2 := follower_read hx
  have e3 := follower_read hy
  have n1 := non_foD (readF x)
  have n2 := non_foD (readF y)
  have i0 := ints_01
  clear hx hy hp
  unfold rowOf
  unfold Φ_read_row F_read_row
  by_cases c : p = ("0" : Str) ∨ p = ("1" : Str)
  · rw [if_pos c]
    rw [decide_eq_true c] at e1
    have hi : o1 oIntS [.str p] = some (.int ((if p = ("1" : Str) then 1 else 0 : Nat) : Int)) := by
      rcases c with rfl | rfl
      · rw [if_neg (by decide +kernel)]
        exact i0.1
      · rw [if_pos rfl]
        exact i0.2
    generalize (if p = ("1" : Str) then 1 else 0 : Nat) = k at hi ⊢
    clear i0 c
    generalize oSplit = o1 at e0 ⊢
    generalize oInT true = o2 at e1 ⊢
    generalize Vl.o1 oIntS = o3 at hi ⊢
    cases hu : readF x with
    | none =>
      rw [hu] at e2 n1
      rw [Option.isNone_none] at n1
      generalize foD none = f1 at e2 n1 ⊢
      clear n2
      generalize foD (readF y) = f2 at e3
      generalize oIsN false = o4 at n1 ⊢
      walk_at "ev"
      rfl
    | some u =>
      rw [hu] at e2 n1
      rw [Option.isNone_some] at n1
      cases hv : readF y with
      | none =>
        rw [hv] at e3 n2
        rw [Option.isNone_none] at n2
        generalize foD none = f1 at e3 n2 ⊢
        generalize foD (some u) = f2 at e2 n1 ⊢
        generalize oIsN false = o4 at n1 n2 ⊢
        walk_at "ev"
        rfl
      | some v =>
        rw [hv] at e3 n2
        rw [Option.isNone_some] at n2
        have er : rowO ((pick2 (some u) (some v)).map fun z => (⟨k, z.1, z.2⟩ : Row)) = .tup [.int (k : Int), foD (some u), foD (some v)] := rfl
        rw [er]
        generalize foD (some u) = f2 at e2 n1 ⊢
        generalize foD (some v) = f3 at e3 n2 ⊢
        generalize oIsN false = o4 at n1 n2 ⊢
        walk_at "ev"
  · rw [if_neg c]
    rw [decide_eq_false c] at e1
    clear i0 c e2 e3 n1 n2
    generalize oSplit = o1 at e0 ⊢
    generalize oInT true = o2 at e1 ⊢
    walk_at "ev"
    rfl
theorem len_3 {α : Type} : ∀ {l : List α}, l.length = 3 → ∃ a b c, l = [a, b, c]
  | [a, b, c], _ => ⟨a, b, c, rfl⟩
  | [], h => by simp at h
  | [_], h => by simp at h
  | [_, _], h => by simp at h
  | _ :: _ :: _ :: _ :: _, h => by simp at h
theorem len_2 {α : Type} : ∀ {l : List α}, l.length = 2 → ∃ a b, l = [a, b]
  | [a, b], _ => ⟨a, b, rfl⟩
  | [], h => by simp at h
  | [_], h => by simp at h
  | _ :: _ :: _ :: _, h => by simp at h
theorem row_read {a : Str} (h : Fine 100000 a) : Φ_read_row [.str a] = .ret false (rowO (readRow a)) [.non] := by
  have e0 := oSplit_ok (a := a) (b := " ") (by rw [tl_space]; simp) h.2
  obtain ⟨hp, _⟩ := split_fine h (b := " ") (by rw [tl_space]; simp) (by rw [tl_space]; decide)
  by_cases h3 : (Txt.split a (" " : Str)).length = 3
  · obtain ⟨p, x, y, e⟩ := len_3 h3
    rw [e] at hp e0
    have er : readRow a = rowOf p x y := by
      unfold readRow
      rw [e]
    rw [er]
    exact row_of3 (hp x (by simp)) (hp y (by simp)) (hp p (by simp)) e0
  · rw [readRow_not h3]
    have e1 : oLen (.lst ((Txt.split a (" " : Str)).map D.str)) = some (.int ((Txt.split a (" " : Str)).length : Int)) := by
      show some (D.int _) = _
      rw [List.length_map]
    have e2 : decide (((Txt.split a (" " : Str)).length : Int) = 3) = false := decide_eq_false (by omega)
    clear h3 hp h
    generalize (Txt.split a (" " : Str)).map D.str = l at e0 e1
    generalize ((Txt.split a (" " : Str)).length : Int) = n at e1 e2
    unfold Φ_read_row F_read_row
    generalize oSplit = o1 at e0 ⊢
    generalize oLen = o2 at e1 ⊢
    walk_at "ev"
    rfl
def okAny : Pl → Prop
  | .num _ => True
  | .word s => okWord s
theorem readF_ok {s : Str} {p : Pl} (h : readF s = some p) : okAny p := by
  unfold readF at h
  split at h
  · rename_i c
    cases h
    exact c
  · split at h
    · cases hi : PySem.intText? s with
      | none =>
        rw [hi] at h
        cases h
      | some n =>
        rw [hi] at h
        cases h
        trivial
    · cases h
theorem readRow_ok {a : Str} {r : Row} (h : readRow a = some r) : (r.put = 0 ∨ r.put = 1) ∧ okAny r.a ∧ okAny r.b := by
  unfold readRow at h
  split at h
  · rename_i p x y _
    unfold rowOf at h
    split at h
    · cases hu : readF x with
      | none =>
        rw [hu] at h
        cases h
      | some u =>
        cases hv : readF y with
        | none =>
          rw [hu, hv] at h
          cases h
        | some v =>
          rw [hu, hv] at h
          cases h
          exact ⟨by show (if _ then _ else _) = 0 ∨ (if _ then _ else _) = 1; split <;> simp, readF_ok hu, readF_ok hv⟩
    · cases h
  · cases h
theorem plD_any {p : Pl} (h : okAny p) : eokN 0 (plD p) := by
  cases p with
  | num n => exact eokN_int _
  | word s =>
    refine eokN_str ?_
    rcases okWord_cases h with rfl | rfl | rfl | rfl <;> decide +kernel
theorem rowO_eokN (a : Str) : eokN 1 (rowO (readRow a)) := by
  cases h : readRow a with
  | none => exact eokN_non.more (by omega)
  | some r =>
    obtain ⟨_, h1, h2⟩ := readRow_ok h
    refine eokN_tup fun d hd => ?_
    simp only [List.mem_cons, List.not_mem_nil, or_false] at hd
    rcases hd with rfl | rfl | rfl
    · exact eokN_int _
    · exact plD_any h1
    · exact plD_any h2
theorem rowO_none (o : Option Row) : PyData.eqv (rowO o).py D.non.py = o.isNone := by
  cases o with
  | none => first | rfl | simp [rowO, D.py, PyData.eqv]
  | some r => first | rfl | simp [rowO, Pg.rowD, D.py, PyData.eqv]
theorem none_in (l : List Str) : oIn false .non (.lst ((l.map readRow).map rowO)) = some (.bl ((l.map readRow).any Option.isNone)) := by
  have h1 : (D.lst ((l.map readRow).map rowO)).eok = true := (eokN_lst (n := 1) fun d hd => by
    obtain ⟨o, ho, rfl⟩ := List.mem_map.mp hd
    obtain ⟨a, _, rfl⟩ := List.mem_map.mp ho
    exact rowO_eokN a).eok (by omega)
  have h0 : D.non.eok = true := eokN_non.eok (by omega)
  unfold oIn
  simp only []
  rw [if_pos (by rw [h0, h1]; rfl)]
  have e : (((l.map readRow).map rowO).any fun z => PyData.eqv z.py D.non.py) = (l.map readRow).any Option.isNone := by
    rw [List.any_map]
    congr 1
    funext o
    exact rowO_none o
  rw [e]
  rfl
theorem elt1 {r : Str} (h : Fine 100000 r) (s0 s1 s2 : Slot) : E_read_machines_1 [s0, s1, s2, .sh (.str r)] = .val (rowO (readRow r)) [s0, s1, s2, .sh (.str r)] := by
  have e := row_read h
  clear h
  unfold E_read_machines_1
  walk_at "ev"
theorem strs_at {l : List Str} {i : Nat} {d : D} (h : (l.map D.str)[i]? = some d) : ∃ s, l[i]? = some s ∧ d = .str s := by
  rw [List.getElem?_map] at h
  cases e : l[i]? with
  | none =>
    rw [e] at h
    cases h
  | some s =>
    rw [e] at h
    cases h
    exact ⟨s, rfl, rfl⟩
/-- the rows of a machine's text -/
def rowsIn (m : Str) : List Str := Txt.split m (", " : Str)
theorem machine_read {m : Str} (h : Fine 100000 m) (s0 s1 : Slot) : E_read_machines_2 [s0, s1, .sh (.str m), .un] = .val (.lst (((rowsIn m).map readRow).map rowO)) [s0, s1, .sh (.str m), .un] := by
  have e0 := oSplit_ok (a := m) (b := ", ") (by rw [tl_comma]; simp) h.2
  obtain ⟨hp, hn⟩ := split_fine h (b := ", ") (by rw [tl_comma]; simp) (by rw [tl_comma]; decide)
  have hn : (rowsIn m).length ≤ 100001 := hn
  have hp : ∀ p, p ∈ rowsIn m → Fine 100000 p := hp
  have e0 : oSplit m (.str ", ") = some (.lst ((rowsIn m).map D.str)) := e0
  obtain ⟨acc, env', hc, s3, rfl, rfl⟩ := comp_ok (p := .nm 3) (ft := fYes) (fe := E_read_machines_1) (vs := [3]) (ds := (rowsIn m).map D.str) (fun i acc env => ∃ s3, acc = ((((rowsIn m).take i).map readRow).map rowO) ∧ env = [s0, s1, .sh (.str m), s3]) (fun i y acc env hd hi => by
    obtain ⟨s3, rfl, rfl⟩ := hi
    obtain ⟨r, hr, rfl⟩ := strs_at hd
    refine ⟨[s0, s1, .sh (.str m), .sh (.str r)], true, _, rfl, rfl, fun _ => ⟨_, _, elt1 (hp r (List.mem_of_getElem? hr)) _ _ _, ?_, _, ?_, rfl⟩, fun z => by cases z⟩
    · rw [List.length_map, List.length_map, List.length_take]
      exact Nat.lt_of_le_of_lt (show min i _ ≤ 100001 by omega) (by decide)
    · rw [List.take_succ, hr, List.map_append, List.map_append]
      rfl) (env := [s0, s1, .sh (.str m), .un]) ⟨.un, by rw [List.take_zero]; rfl, rfl⟩
  have et : (rowsIn m).take ((rowsIn m).map D.str).length = rowsIn m := by rw [List.length_map, List.take_length]
  rw [et] at hc
  clear h hp hn et
  generalize (rowsIn m).map D.str = l at e0 hc
  unfold E_read_machines_2
  generalize oSplit = o at e0 ⊢
  walk_at "ev"
def allS {α : Type} : List (Option α) → Option (List α)
  | [] => some []
  | none :: _ => none
  | some x :: l => (allS l).map (x :: ·)
/-- what a text says: the rows of both machines -/
def readM (a : Str) : Option (List Row × List Row) := match Txt.split a (" | " : Str) with
  | [h, s] => (allS ((rowsIn h).map readRow)).bind fun hs => (allS ((rowsIn s).map readRow)).map fun ss => (hs, ss)
  | _ => none
def readD : Option (List Row × List Row) → D
  | none => .non
  | some z => .lst [.lst (rowsD z.1), .lst (rowsD z.2)]
theorem allS_none {α : Type} {l : List (Option α)} : l.any Option.isNone = true → allS l = none := by
  induction l with
  | nil => intro h; cases h
  | cons o l ih =>
    intro h
    cases o with
    | none => rfl
    | some x =>
      have h : l.any Option.isNone = true := by simpa using h
      show (allS l).map _ = none
      rw [ih h]
      rfl
theorem allS_some {l : List (Option Row)} : l.any Option.isNone = false → ∃ rs, allS l = some rs ∧ l.map rowO = Pg.rowsD rs := by
  induction l with
  | nil => intro _; exact ⟨[], rfl, rfl⟩
  | cons o l ih =>
    intro h
    cases o with
    | none => simp at h
    | some x =>
      have h : l.any Option.isNone = false := by simpa using h
      obtain ⟨rs, h1, h2⟩ := ih h
      refine ⟨x :: rs, ?_, ?_⟩
      · show (allS l).map _ = _
        rw [h1]
        rfl
      · rw [List.map_cons, h2]
        rfl
theorem readM_not {a : Str} (h : (Txt.split a (" | " : Str)).length ≠ 2) : readM a = none := by
  unfold readM
  split
  · rename_i p x e
    rw [e] at h
    exact absurd rfl h
  · rfl
def partsD (m : Str) : D := .lst (((rowsIn m).map readRow).map rowO)
theorem machines_read {a : Str} (h : Fine 100000 a) : Φ_read_machines [.str a] = .ret false (readD (readM a)) [.non] := by
  have e0 := oSplit_ok (a := a) (b := " | ") (by rw [tl_stroke]; simp) h.2
  obtain ⟨hp, hn⟩ := split_fine h (b := " | ") (by rw [tl_stroke]; simp) (by rw [tl_stroke]; decide)
  obtain ⟨acc, env', hc, s2, rfl, rfl⟩ := comp_ok (p := .nm 2) (ft := fYes) (fe := E_read_machines_2) (vs := [2]) (ds := (Txt.split a (" | " : Str)).map D.str) (fun i acc env => ∃ s2, acc = ((Txt.split a (" | " : Str)).take i).map partsD ∧ env = [.sh (.str a), .un, s2, .un]) (fun i y acc env hd hi => by
    obtain ⟨s2, rfl, rfl⟩ := hi
    obtain ⟨m, hm, rfl⟩ := strs_at hd
    refine ⟨[.sh (.str a), .un, .sh (.str m), .un], true, _, rfl, rfl, fun _ => ⟨_, _, machine_read (hp m (List.mem_of_getElem? hm)) _ _, ?_, _, ?_, rfl⟩, fun z => by cases z⟩
    · rw [List.length_map, List.length_take]
      exact Nat.lt_of_le_of_lt (show min i _ ≤ 100001 by omega) (by decide)
    · rw [List.take_succ, hm, List.map_append]
      rfl) (env := [.sh (.str a), .un, .un, .un]) ⟨.un, by rw [List.take_zero]; rfl, rfl⟩
  have et : (Txt.split a (" | " : Str)).take ((Txt.split a (" | " : Str)).map D.str).length = Txt.split a (" | " : Str) := by rw [List.length_map, List.take_length]
  rw [et] at hc
  by_cases h2 : (Txt.split a (" | " : Str)).length = 2
  · obtain ⟨x, y, e⟩ := len_2 h2
    have er : readM a = (allS ((rowsIn x).map readRow)).bind fun hs => (allS ((rowsIn y).map readRow)).map fun ss => (hs, ss) := by
      unfold readM
      rw [e]
    generalize hL : (Txt.split a (" | " : Str)).map D.str = l at e0 hc
    rw [e] at hc
    replace hc : compF _ _ _ _ _ _ _ = Out.val [partsD x, partsD y] _ := hc
    clear hL
    have n1 : oIn false .non (partsD x) = some (.bl ((rowsIn x).map readRow |>.any Option.isNone)) := none_in _
    have n2 : oIn false .non (partsD y) = some (.bl ((rowsIn y).map readRow |>.any Option.isNone)) := none_in _
    have key : Φ_read_machines [.str a] = .ret false (if ((rowsIn x).map readRow).any Option.isNone || ((rowsIn y).map readRow).any Option.isNone then .non else .lst [partsD x, partsD y]) [.non] := by
      generalize ((rowsIn x).map readRow).any Option.isNone = b1 at n1 ⊢
      generalize ((rowsIn y).map readRow).any Option.isNone = b2 at n2 ⊢
      generalize partsD x = d1 at hc n1 ⊢
      generalize partsD y = d2 at hc n2 ⊢
      clear er e hp hn et h2 h
      unfold Φ_read_machines F_read_machines
      generalize oSplit = o at e0 ⊢
      generalize oIn false = o2 at n1 n2 ⊢
      cases b1 <;> cases b2 <;> walk_at "ev"
    rw [key, er]
    cases hb1 : ((rowsIn x).map readRow).any Option.isNone with
    | true =>
      rw [allS_none hb1]
      rfl
    | false =>
      obtain ⟨hs, g1, g2⟩ := allS_some hb1
      rw [g1]
      cases hb2 : ((rowsIn y).map readRow).any Option.isNone with
      | true =>
        rw [Option.bind_some, allS_none hb2]
        rfl
      | false =>
        obtain ⟨ss, g3, g4⟩ := allS_some hb2
        rw [Option.bind_some, g3]
        unfold partsD
        rw [g2, g4]
        rfl
  · rw [readM_not h2]
    have e1 : oLen (.lst ((Txt.split a (" | " : Str)).map partsD)) = some (.int ((Txt.split a (" | " : Str)).length : Int)) := by
      show some (D.int _) = _
      rw [List.length_map]
    have e2 : decide (((Txt.split a (" | " : Str)).length : Int) = 2) = false := decide_eq_false (by omega)
    clear h2 hp hn h et
    generalize (Txt.split a (" | " : Str)).map D.str = l at e0 hc
    generalize (Txt.split a (" | " : Str)).map partsD = l2 at hc e1
    generalize ((Txt.split a (" | " : Str)).length : Int) = n at e1 e2
    unfold Φ_read_machines F_read_machines
    generalize oSplit = o1 at e0 ⊢
    generalize oLen = o2 at e1 ⊢
    walk_at "ev"
    rfl
end Pg
set_option Elab.async false
set_option linter.all false
set_option maxRecDepth 100000
set_option maxHeartbeats 1000000
namespace Pg
open PySem L2 Sb Vl
open Sb hiding plD rowD rowsD
theorem read_num : ∀ m : Fin 1001, isNum9 (Str.ofString (toString ((m.val : Nat) : Int))) = true ∧ Str.ofString (toString ((m.val : Nat) : Int)) ∉ hearerWords ∧ Str.ofString (toString ((m.val : Nat) : Int)) ∉ senderWords := by decide +kernel
theorem readF_num {n : Nat} (h : n ≤ 1000) : readF (Str.ofString (toString (n : Int))) = some (.num n) := by
  obtain ⟨h1, h2, h3⟩ := read_num ⟨n, by omega⟩
  unfold readF
  rw [if_neg (fun z => z.elim h2 h3), if_pos h1]
  have hd : (TL.numL n).all (fun c => decide (48 ≤ c) && decide (c ≤ 57)) = true := by
    rw [List.all_eq_true]
    intro c hc
    have := TL.numL_digits n c hc
    rw [decide_eq_true this.1, decide_eq_true this.2]
    rfl
  have hl : (TL.numL n).length ≤ 4300 := by
    have e : (Str.ofString (toString (n : Int))).length ≤ 10 := num_len h
    rw [SX.num_S, SX.S_len] at e
    omega
  rw [SX.num_S, SX.int_S hd (TL.numL_ne n) hl, TL.numL_val]
  rfl
theorem readF_pl {p : Pl} (h : smallPl p) : readF (plT p) = some p := by
  cases p with
  | num n => exact readF_num h
  | word s => exact if_pos h
theorem num_no {n c : Nat} (h : c < 48 ∨ 57 < c) : c ∉ TL.tl (Str.ofString (toString (n : Int))) := by
  rw [TL.tl_num]
  exact TL.numL_free h
theorem pl_no {p : Pl} (h : smallPl p) {c : Nat} (hc : c = 32 ∨ c = 44 ∨ c = 124) : c ∉ TL.tl (plT p) := by
  cases p with
  | num n => exact num_no (by omega)
  | word s =>
    have h : okWord s := h
    show c ∉ TL.tl s
    rcases okWord_cases h with rfl | rfl | rfl | rfl <;> rcases hc with rfl | rfl | rfl <;> decide +kernel
theorem tl_rowT (r : Row) : TL.tl (rowT r) = TL.tl (Str.ofString (toString (r.put : Int))) ++ (32 :: (TL.tl (plT r.a) ++ (32 :: TL.tl (plT r.b)))) := by
  unfold rowT
  rw [TL.tl_append, TL.tl_append, TL.tl_append, TL.tl_append, TL.tl_append, tl_space]
  have e : TL.tl Str.empty = [] := rfl
  rw [e]
  simp
theorem row_split {r : Row} (h : smallRow r) : Txt.split (rowT r) (" " : Str) = [Str.ofString (toString (r.put : Int)), plT r.a, plT r.b] := by
  have e : rowT r = Txt.join (" " : Str) [Str.ofString (toString (r.put : Int)), plT r.a, plT r.b] := TL.ext_tl (by
    rw [tl_rowT, TL.join_eq, TL.tl_join, tl_space]
    rfl)
  rw [e]
  refine TL.split_join tl_space (by decide +kernel) (by simp) fun p hp => ?_
  simp only [List.mem_cons, List.not_mem_nil, or_false] at hp
  rcases hp with rfl | rfl | rfl
  · exact num_no (by omega)
  · exact pl_no h.2.1 (.inl rfl)
  · exact pl_no h.2.2 (.inl rfl)
theorem put_txt : Str.ofString (toString ((0 : Nat) : Int)) = ("0" : Str) ∧ Str.ofString (toString ((1 : Nat) : Int)) = ("1" : Str) ∧ ("0" : Str) ≠ ("1" : Str) := by decide +kernel
theorem read_row {r : Row} (h : smallRow r) (hp : r.put = 0 ∨ r.put = 1) : readRow (rowT r) = some r := by
  unfold readRow
  rw [row_split h]
  obtain ⟨p, a, b⟩ := r
  show rowOf (Str.ofString (toString (p : Int))) (plT a) (plT b) = _
  unfold rowOf
  rw [readF_pl h.2.1, readF_pl h.2.2]
  obtain ⟨p0, p1, p2⟩ := put_txt
  rcases hp with hp | hp
  · have hp : p = 0 := hp
    subst hp
    rw [p0, if_pos (.inl rfl), if_neg p2]
    rfl
  · have hp : p = 1 := hp
    subst hp
    rw [p1, if_pos (.inr rfl), if_pos rfl]
    rfl
theorem row_no {r : Row} (h : smallRow r) {c : Nat} (hc : c = 44 ∨ c = 124) : c ∉ TL.tl (rowT r) := by
  rw [tl_rowT]
  simp only [List.mem_append, List.mem_cons, not_or]
  refine ⟨num_no (by omega), by omega, pl_no h.2.1 (.inr hc), by omega, pl_no h.2.2 (.inr hc)⟩
theorem rows_in {rs : List Row} (h : ∀ r, r ∈ rs → smallRow r) (h0 : rs ≠ []) : rowsIn (machT rs) = rs.map rowT := by
  refine TL.split_join tl_comma (by decide +kernel) (by simpa using h0) fun p hp => ?_
  obtain ⟨r, hr, rfl⟩ := List.mem_map.mp hp
  exact row_no (h r hr) (.inl rfl)
theorem all_read {rs : List Row} (h : ∀ r, r ∈ rs → smallRow r ∧ (r.put = 0 ∨ r.put = 1)) : allS ((rs.map rowT).map readRow) = some rs := by
  induction rs with
  | nil => rfl
  | cons r rs ih =>
    rw [List.map_cons, List.map_cons, read_row (h r (by simp)).1 (h r (by simp)).2]
    show (allS _).map _ = _
    rw [ih fun q hq => h q (by simp [hq])]
    rfl
theorem joinL_no {c : Nat} {s : List Nat} (hs : c ∉ s) : ∀ {l : List (List Nat)}, (∀ p, p ∈ l → c ∉ p) → c ∉ TL.joinL s l
  | [], _ => by simp [TL.joinL]
  | [p], h => h p (by simp)
  | p :: q :: r, h => by
    show c ∉ p ++ (s ++ TL.joinL s (q :: r))
    simp only [List.mem_append, not_or]
    exact ⟨h p (by simp), hs, joinL_no hs fun z hz => h z (by simp [hz])⟩
theorem mach_no {rs : List Row} (h : ∀ r, r ∈ rs → smallRow r) : 124 ∉ TL.tl (machT rs) := by
  unfold machT
  rw [TL.join_eq, TL.tl_join, tl_comma]
  refine joinL_no (by decide) fun p hp => ?_
  obtain ⟨z, hz, rfl⟩ := List.mem_map.mp hp
  obtain ⟨r, hr, rfl⟩ := List.mem_map.mp hz
  exact row_no (h r hr) (.inr rfl)
theorem pre_second : ∀ {l : List Nat}, l[1]? ≠ some 124 → TL.pre [32, 124, 32] l = false
  | [], _ => rfl
  | [a], _ => by
    show ([a] == [32, 124, 32]) = false
    simp
  | a :: b :: r, h => by
    have hb : b ≠ 124 := fun z => h (by rw [z]; rfl)
    show ((a :: b :: r.take 1) == [32, 124, 32]) = false
    have : ¬ (a :: b :: r.take 1) = [32, 124, 32] := fun z => by
      injection z with z1 z2
      injection z2 with z2 z3
      exact hb z2
    simpa using this
theorem spl_two {a b : List Nat} (ha : 124 ∉ a) (hb : 124 ∉ b) : TL.spl [32, 124, 32] 0 [] (a ++ ([32, 124, 32] ++ b)) = [a, b] := by
  rw [TL.spl_part (by simp) fun i hi => pre_second fun z => ?_, TL.spl_last fun i hi => pre_second fun z => ?_]
  · simp
  · rw [List.getElem?_drop] at z
    exact hb (List.mem_of_getElem? z)
  · rw [List.getElem?_drop] at z
    by_cases c : i + 1 < a.length
    · rw [List.getElem?_append_left c] at z
      exact ha (List.mem_of_getElem? z)
    · have e : i + 1 = a.length := by omega
      rw [e, List.getElem?_append_right (Nat.le_refl _), Nat.sub_self] at z
      cases z
theorem end_split {hs ss : List Row} (h1 : ∀ r, r ∈ hs → smallRow r) (h2 : ∀ r, r ∈ ss → smallRow r) : Txt.split (endT hs ss) (" | " : Str) = [machT hs, machT ss] := by
  have e : endT hs ss = SX.S (TL.tl (machT hs) ++ ([32, 124, 32] ++ TL.tl (machT ss))) := TL.ext_tl (by
    unfold endT
    rw [TL.tl_append, TL.tl_append, TL.tl_append, tl_stroke]
    show [] ++ _ ++ _ ++ _ = _
    simp)
  have es : (" | " : Str) = SX.S [32, 124, 32] := TL.ext_tl tl_stroke
  rw [e, es, SX.split_S (by simp) (by decide), spl_two (mach_no h1) (mach_no h2)]
  show [SX.S _, SX.S _] = _
  rw [SX.S_tl, SX.S_tl]
/-- the read-back -/
theorem readM_end {hs ss : List Row} (k1 : HearerOk hs) (k2 : SenderOk ss) : readM (endT hs ss) = some (hs, ss) := by
  have s1 : ∀ r, r ∈ hs → smallRow r := fun r hr => smallRow_of (smallW (.inl rfl)) (Nat.le_trans k1.2.1 (by decide)) (k1.2.2.1 r hr)
  have s2 : ∀ r, r ∈ ss → smallRow r := fun r hr => smallRow_of (smallW (.inr rfl)) (Nat.le_trans k2.2.1 (by decide)) (k2.2.2 r hr)
  unfold readM
  rw [end_split s1 s2]
  show (allS ((rowsIn (machT hs)).map readRow)).bind _ = _
  rw [rows_in s1 (fun z => by have := k1.1; rw [z] at this; simp at this), all_read fun r hr => ⟨s1 r hr, (k1.2.2.1 r hr).1⟩, Option.bind_some]
  rw [rows_in s2 (fun z => by have := k2.1; rw [z] at this; simp at this), all_read fun r hr => ⟨s2 r hr, (k2.2.2 r hr).1⟩]
  rfl
end Pg
set_option Elab.async false
set_option linter.all false
set_option maxRecDepth 100000
set_option maxHeartbeats 1000000
namespace Pg
open PySem L2 Sb Vl
open Sb hiding plD rowD rowsD
local macro_rules | `(tactic| walk_at "ev") => `(tactic| simp only [Vl.runV, Vl.mkEnv, Vl.Res.of, Vl.Res.quiet, Vl.Res.val, Vl.ioAt, Vl.fSeq, Vl.fIte, Vl.fAsg, Vl.fVar, Vl.fC, Vl.fOp, Vl.fIxO, Vl.fPutL, Vl.fRet, Vl.fRetW, Vl.fRetO, Vl.fRetN, Vl.fLst, Vl.fTup, Vl.fB, Vl.fTru, Vl.fCB, Vl.fCons, Vl.fNil, Vl.o1, Vl.o2, Vl.oI, Vl.oIC, Vl.slotL, Vl.slotO, Vl.own, Vl.Pat.put, Vl.Pat.puts, Vl.Out.bind, Vl.Out.opt, Vl.fNx, Vl.fCt, Vl.fBk, Vl.fPar, Vl.fCall, Vl.fCallN, Vl.fCallL, Vl.fSetN, Vl.gIo, Vl.gCn, Vl.gNl, Vl.agDs, Vl.agD, Vl.ioSlots, Vl.putAll, Vl.put1, Vl.Ag.isIo, Vl.fAnd, Vl.fOr, Vl.fNot, Vl.fAndT, Vl.fOrT, Vl.fNotT, Vl.fChain, Vl.fIsi, Vl.fIsi2, Vl.fUn, Vl.fDrop, Vl.fApp, Vl.fLenO, Vl.fMake, Vl.fRaise, Vl.fFldS, Vl.fDInO, Vl.fDPutO, Vl.fDGetO, Vl.fPop, Vl.fListD, Vl.fDOne, Vl.fDNewK, Vl.isi, Vl.bOf, Vl.sOf, Vl.fFmt, Vl.fJs, Vl.oFmt, Vl.fM1, Vl.fM0, Vl.fFor, Vl.fItems, Vl.fEnum, Vl.fSl, Vl.fPart, Vl.fNoPart, Vl.fNeg, Vl.fAugI, Vl.fInO, Vl.fYes, Vl.fTruO, Vl.fComp, Vl.fCompO, Vl.calmE, Vl.wipeE, Vl.backE, Vl.oIsN, Vl.oStr, Vl.fMakeL, Vl.fCM, Vl.fCMK, Vl.resE, ↓Vl.fRng1_one, Vl.oLen_lst, Vl.oLen_tup, Vl.oLen_ctup, Vl.oLen_scr, Vl.oIx_lst, Vl.oIx_tup, Vl.oIx_ctup, Vl.oIx_scr, Vl.oInt_int, Vl.oInt_bl, Vl.oAbs_int, Vl.oMax_int, Vl.oMin_int, Vl.oTuple_lst, Vl.oTuple_tup, Vl.oList_lst, Vl.oList_tup, Vl.oNeg_int, Vl.ty_non, Vl.ty_bl, Vl.ty_int, Vl.ty_str, Vl.ty_tup, Vl.ty_ctup, Vl.ty_lst, Vl.ty_dk, Vl.ty_scr, Vl.tru_non, Vl.tru_bl, Vl.tru_int, Vl.tru_lst, Vl.tru_tup, Vl.oEqS_int, Vl.oEqS_str, Vl.oEqS_bl, Vl.oCat_lst, Vl.oCatA_tup, Vl.oSlT_tup, Vl.oSlL_lst, Vl.keyOf_int, Vl.keyOf_str, Vl.isNon_non, Vl.isNon_bl, Vl.isNon_int, Vl.isNon_str, Vl.isNon_tup, Vl.isNon_lst, Vl.oFld_ob, Vl.isOb_ob', Vl.atI_0, Vl.atI_1, Vl.atI_2, Vl.atI_3, Vl.ixN_0, Vl.ixN_1, Vl.ixN_2, List.zipWith, List.replicate, List.append, List.cons_append, List.nil_append, List.append_nil, List.getElem?_cons_zero, List.getElem?_cons_succ, List.getElem?_nil, List.set_cons_zero, List.set_cons_succ, List.length_cons, List.length_nil, List.map_cons, List.map_nil, List.nodup_cons, List.nodup_nil, List.not_mem_nil, List.reverse_cons, List.reverse_nil, Bool.false_eq_true, ite_true, ite_false, if_true, if_false, reduceIte, decide_true, decide_false, Bool.true_and, Bool.and_true, Bool.false_and, Bool.and_false, Bool.not_true, Bool.not_false, Bool.or_false, Bool.false_or, Bool.or_true, Bool.true_or, reduceCtorEq, not_false_eq_true, not_true_eq_false, and_self, and_true, true_and, or_false, or_true, Nat.reduceSub, Nat.reduceAdd, Nat.reduceLeDiff, Nat.zero_add, Option.map_some, Option.map_none, Option.bind_some, Option.bind_none, Option.isSome_some, Option.isSome_none, List.mem_cons, List.all_cons, List.all_nil, eq_self, Int.cast_ofNat_Int, Int.natCast_zero, Int.natCast_one, Int.reduceEq, Int.reduceLT, Int.reduceLE, Int.reduceAdd, Int.reduceSub, Int.reduceNeg, Nat.reduceEqDiff, *])
local macro_rules | `(tactic| walk_at "e0") => `(tactic| simp only [Vl.runV, Vl.mkEnv, Vl.Res.of, Vl.Res.quiet, Vl.Res.val, Vl.ioAt, Vl.fSeq, Vl.fIte, Vl.fAsg, Vl.fVar, Vl.fC, Vl.fOp, Vl.fIxO, Vl.fPutL, Vl.fRet, Vl.fRetW, Vl.fRetO, Vl.fRetN, Vl.fLst, Vl.fTup, Vl.fB, Vl.fTru, Vl.fCB, Vl.fCons, Vl.fNil, Vl.o1, Vl.o2, Vl.oI, Vl.oIC, Vl.slotL, Vl.slotO, Vl.own, Vl.Pat.put, Vl.Pat.puts, Vl.Out.bind, Vl.Out.opt, Vl.fNx, Vl.fCt, Vl.fBk, Vl.fPar, Vl.fCall, Vl.fCallN, Vl.fCallL, Vl.fSetN, Vl.gIo, Vl.gCn, Vl.gNl, Vl.agDs, Vl.agD, Vl.ioSlots, Vl.putAll, Vl.put1, Vl.Ag.isIo, Vl.fAnd, Vl.fOr, Vl.fNot, Vl.fAndT, Vl.fOrT, Vl.fNotT, Vl.fChain, Vl.fIsi, Vl.fIsi2, Vl.fUn, Vl.fDrop, Vl.fApp, Vl.fLenO, Vl.fMake, Vl.fRaise, Vl.fFldS, Vl.fDInO, Vl.fDPutO, Vl.fDGetO, Vl.fPop, Vl.fListD, Vl.fDOne, Vl.fDNewK, Vl.isi, Vl.bOf, Vl.sOf, Vl.fFmt, Vl.fJs, Vl.oFmt, Vl.fM1, Vl.fM0, Vl.fFor, Vl.fItems, Vl.fEnum, Vl.fSl, Vl.fPart, Vl.fNoPart, Vl.fNeg, Vl.fAugI, Vl.fInO, Vl.fYes, Vl.fTruO, Vl.fComp, Vl.fCompO, Vl.calmE, Vl.wipeE, Vl.backE, Vl.oIsN, Vl.oStr, Vl.fMakeL, Vl.fCM, Vl.fCMK, Vl.resE, ↓Vl.fRng1_one, Vl.oLen_lst, Vl.oLen_tup, Vl.oLen_ctup, Vl.oLen_scr, Vl.oIx_lst, Vl.oIx_tup, Vl.oIx_ctup, Vl.oIx_scr, Vl.oInt_int, Vl.oInt_bl, Vl.oAbs_int, Vl.oMax_int, Vl.oMin_int, Vl.oTuple_lst, Vl.oTuple_tup, Vl.oList_lst, Vl.oList_tup, Vl.oNeg_int, Vl.ty_non, Vl.ty_bl, Vl.ty_int, Vl.ty_str, Vl.ty_tup, Vl.ty_ctup, Vl.ty_lst, Vl.ty_dk, Vl.ty_scr, Vl.tru_non, Vl.tru_bl, Vl.tru_int, Vl.tru_lst, Vl.tru_tup, Vl.oEqS_int, Vl.oEqS_str, Vl.oEqS_bl, Vl.oCat_lst, Vl.oCatA_tup, Vl.oSlT_tup, Vl.oSlL_lst, Vl.keyOf_int, Vl.keyOf_str, Vl.isNon_non, Vl.isNon_bl, Vl.isNon_int, Vl.isNon_str, Vl.isNon_tup, Vl.isNon_lst, Vl.oFld_ob, Vl.isOb_ob', Vl.atI_0, Vl.atI_1, Vl.atI_2, Vl.atI_3, Vl.ixN_0, Vl.ixN_1, Vl.ixN_2, List.zipWith, List.replicate, List.append, List.cons_append, List.nil_append, List.append_nil, List.getElem?_cons_zero, List.getElem?_cons_succ, List.getElem?_nil, List.set_cons_zero, List.set_cons_succ, List.length_cons, List.length_nil, List.map_cons, List.map_nil, List.nodup_cons, List.nodup_nil, List.not_mem_nil, List.reverse_cons, List.reverse_nil, Bool.false_eq_true, ite_true, ite_false, if_true, if_false, reduceIte, decide_true, decide_false, Bool.true_and, Bool.and_true, Bool.false_and, Bool.and_false, Bool.not_true, Bool.not_false, Bool.or_false, Bool.false_or, Bool.or_true, Bool.true_or, reduceCtorEq, not_false_eq_true, not_true_eq_false, and_self, and_true, true_and, or_false, or_true, Nat.reduceSub, Nat.reduceAdd, Nat.reduceLeDiff, Nat.zero_add, Option.map_some, Option.map_none, Option.bind_some, Option.bind_none, Option.isSome_some, Option.isSome_none, List.mem_cons, List.all_cons, List.all_nil, eq_self, Int.cast_ofNat_Int, Int.natCast_zero, Int.natCast_one, Int.reduceEq, Int.reduceLT, Int.reduceLE, Int.reduceAdd, Int.reduceSub, Int.reduceNeg, Nat.reduceEqDiff])
/-- an end made of rows that are data, as a class method gives it -/
def madeOf (r : Res) : Res := match r with
  | .ret false .non (z :: _) => .ret false z [.non, .non]
  | .exc c as _ => .exc c as [.non, .non]
  | _ => .stuck
def fromT (a : Str) : Res := match readM a with
  | none => .exc "BadText" [.str a] [.non, .non]
  | some z => madeOf (Φ_End_init [.ob "End" [], .lst (rowsD z.1), .lst (rowsD z.2)])
theorem from_text {a : Str} (h : Fine 100000 a) : Φ_End_from_text [.cl "End", .str a] = fromT a := by
  have e := machines_read h
  clear h
  unfold fromT
  cases hr : readM a with
  | none =>
    rw [hr] at e
    replace e : Φ_read_machines [.str a] = .ret false .non [.non] := e
    clear hr
    unfold Φ_End_from_text F_End_from_text
    walk_at "ev"
  | some z =>
    rw [hr] at e
    replace e : Φ_read_machines [.str a] = .ret false (.lst [.lst (rowsD z.1), .lst (rowsD z.2)]) [.non] := e
    have e2 : oIsN false (.lst [.lst (rowsD z.1), .lst (rowsD z.2)]) .non = some (.bl false) := rfl
    clear hr
    show _ = madeOf (Φ_End_init [.ob "End" [], .lst (rowsD z.1), .lst (rowsD z.2)])
    unfold Φ_End_from_text F_End_from_text
    generalize rowsD z.1 = l1 at e e2 ⊢
    generalize rowsD z.2 = l2 at e e2 ⊢
    generalize hi : Φ_End_init [.ob "End" [], .lst l1, .lst l2] = r
    cases r with
    | stuck =>
      walk_at "ev"
      rfl
    | exc c as ns =>
      walk_at "ev"
      rfl
    | ret nw d ns =>
      cases nw with
      | true =>
        walk_at "ev"
        rfl
      | false =>
        cases d <;> (try (walk_at "ev"; rfl))
        cases ns with
        | nil =>
          walk_at "ev"
          rfl
        | cons x ns =>
          walk_at "ev"
          rfl
theorem joinL_all {P : Nat → Prop} {s : List Nat} (hs : ∀ c, c ∈ s → P c) : ∀ {l : List (List Nat)}, (∀ p, p ∈ l → ∀ c, c ∈ p → P c) → ∀ c, c ∈ TL.joinL s l → P c
  | [], _, c, h => by simp [TL.joinL] at h
  | [p], h, c, hc => h p (by simp) c hc
  | p :: q :: r, h, c, hc => by
    have hc : c ∈ p ++ (s ++ TL.joinL s (q :: r)) := hc
    rcases List.mem_append.mp hc with z | z
    · exact h p (by simp) c z
    · rcases List.mem_append.mp z with z | z
      · exact hs c z
      · exact joinL_all hs (fun u hu => h u (by simp [hu])) c z
theorem num_asc {n c : Nat} (h : c ∈ TL.tl (Str.ofString (toString (n : Int)))) : c < 128 := by
  rw [TL.tl_num] at h
  have := TL.numL_digits n c h
  omega
theorem pl_asc {p : Pl} (h : smallPl p) : ∀ c, c ∈ TL.tl (plT p) → c < 128 := by
  cases p with
  | num n => exact fun c hc => num_asc hc
  | word s =>
    have h : okWord s := h
    show ∀ c, c ∈ TL.tl s → c < 128
    rcases okWord_cases h with rfl | rfl | rfl | rfl <;> decide +kernel
theorem row_asc {r : Row} (h : smallRow r) : ∀ c, c ∈ TL.tl (rowT r) → c < 128 := fun c hc => by
  rw [tl_rowT] at hc
  simp only [List.mem_append, List.mem_cons] at hc
  rcases hc with z | rfl | z | rfl | z
  · exact num_asc z
  · decide
  · exact pl_asc h.2.1 c z
  · decide
  · exact pl_asc h.2.2 c z
theorem mach_asc {rs : List Row} (h : ∀ r, r ∈ rs → smallRow r) : ∀ c, c ∈ TL.tl (machT rs) → c < 128 := by
  unfold machT
  rw [TL.join_eq, TL.tl_join, tl_comma]
  refine joinL_all (by decide) fun p hp => ?_
  obtain ⟨z, hz, rfl⟩ := List.mem_map.mp hp
  obtain ⟨r, hr, rfl⟩ := List.mem_map.mp hz
  exact row_asc (h r hr)
theorem strOk_of {s : Str} (h : ∀ c, c ∈ TL.tl s → c < 128) : PyData.strOk s = true := by
  rw [← SX.S_tl s, strOk_S, List.all_eq_true]
  exact fun c hc => decide_eq_true (Nat.lt_trans (h c hc) (by decide))
theorem end_asc {hs ss : List Row} (h1 : ∀ r, r ∈ hs → smallRow r) (h2 : ∀ r, r ∈ ss → smallRow r) : ∀ c, c ∈ TL.tl (endT hs ss) → c < 128 := fun c hc => by
  unfold endT at hc
  rw [TL.tl_append, TL.tl_append, TL.tl_append, tl_stroke] at hc
  have e : TL.tl Str.empty = [] := rfl
  rw [e, List.nil_append] at hc
  rcases List.mem_append.mp hc with z | z
  · rcases List.mem_append.mp z with z | z
    · exact mach_asc h1 c z
    · simp only [List.mem_cons, List.not_mem_nil, or_false] at z
      omega
  · exact mach_asc h2 c z
theorem endT_fine {hs ss : List Row} (k1 : HearerOk hs) (k2 : SenderOk ss) : Fine 100000 (endT hs ss) := by
  have s1 : ∀ r, r ∈ hs → smallRow r := fun r hr => smallRow_of (smallW (.inl rfl)) (Nat.le_trans k1.2.1 (by decide)) (k1.2.2.1 r hr)
  have s2 : ∀ r, r ∈ ss → smallRow r := fun r hr => smallRow_of (smallW (.inr rfl)) (Nat.le_trans k2.2.1 (by decide)) (k2.2.2 r hr)
  have l1 := machT_fits s1 (Nat.le_trans k1.2.1 (by decide))
  have l2 := machT_fits s2 (Nat.le_trans k2.2.1 (by decide))
  have e : (" | " : Str).length = 3 := by decide +kernel
  have e0 : Str.empty.length = 0 := by decide +kernel
  refine ⟨strOk_of (end_asc s1 s2), by unfold endT; rw [strLen_append, strLen_append, strLen_append, e, e0]; omega⟩
theorem from_end {hs ss : List Row} (k1 : HearerOk hs) (k2 : SenderOk ss) : Φ_End_from_text [.cl "End", .str (endT hs ss)] = .ret false (endD hs ss) [.non, .non] := by
  rw [from_text (endT_fine k1 k2)]
  unfold fromT
  rw [readM_end k1 k2]
  show madeOf (Φ_End_init [.ob "End" [], .lst (rowsD hs), .lst (rowsD ss)]) = _
  rw [made (.inl rfl) (.inl rfl) k1 k2]
  rfl
end Pg
set_option Elab.async false
set_option linter.all false
set_option maxRecDepth 100000
set_option maxHeartbeats 2000000
namespace K07
open PySem L2 Vl Pg
open Sb hiding plD rowD rowsD firstBad
/-- a text has one piece more than there are cuts -/
theorem parts_len (x : Str) (n : Nat) : ∀ (cuts : List Nat) (a : Nat), (PySem.StrLaws.partsFrom x n a cuts).length = cuts.length + 1
  | [], _ => rfl
  | c :: r, a => by
    show (_ :: PySem.StrLaws.partsFrom x n (c + n) r).length = _
    rw [List.length_cons, parts_len x n r, List.length_cons]
theorem count_spl {x y : Str} (hy : TL.tl y ≠ []) : Txt.count x y = ((TL.spl (TL.tl y) 0 [] (TL.tl x)).length : Int) - 1 := by
  obtain ⟨f, g, hn⟩ := PySem.StrLaws.occ_tight x y (TL.len1 hy)
  have key := congrArg List.length (TL.parts_spl hy _ 0 f (Nat.zero_le _) g hn)
  rw [List.length_map, parts_len, List.drop_zero] at key
  show (((Builtin.Str.occurrences x y 0 x.length (x.length + 1)).length : Nat) : Int) = _
  omega
theorem spl_sign (c : Nat) : ∀ (l acc : List Nat), (TL.spl [c] 0 acc l).length = 1 + l.count c
  | [], acc => rfl
  | d :: r, acc => by
    by_cases h : d = c
    · subst h
      rw [TL.spl_hit (by show ([d] == [d]) = true; exact beq_self_eq_true _)]
      show (acc :: TL.spl [d] 0 [] r).length = _
      rw [List.length_cons, spl_sign d r, List.count_cons_self]
      omega
    · rw [TL.spl_miss (TL.pre_of_head [] r h), spl_sign c r, List.count_cons_of_ne h]
/-- behind each comma a blank -/
def fol : List Nat → Bool
  | [] => true
  | c :: r => (!decide (c = 44) || decide (r.head? = some 32)) && fol r
theorem fol_app {p : List Nat} (l : List Nat) (h : 44 ∉ p) : fol (p ++ l) = fol l := by
  induction p with
  | nil => rfl
  | cons c p ih =>
    simp only [List.mem_cons, not_or] at h
    show ((!decide (c = 44) || _) && fol (p ++ l)) = _
    rw [decide_eq_false (fun z => h.1 z.symm), ih h.2]
    rfl
theorem spl_comma : ∀ (n : Nat) (l acc : List Nat), l.length ≤ n → fol l = true → (TL.spl [44, 32] 0 acc l).length = 1 + l.count 44
  | _, [], acc, _, _ => rfl
  | 0, d :: r, acc, h, _ => by simp at h
  | n + 1, d :: r, acc, hl, hf => by
    have hl : r.length ≤ n := by simpa using hl
    have hf' : ((!decide (d = 44) || decide (r.head? = some 32)) && fol r) = true := hf
    rw [Bool.and_eq_true] at hf'
    by_cases h : d = 44
    · subst h
      have hh : r.head? = some 32 := by simpa using hf'.1
      cases r with
      | nil => cases hh
      | cons e r =>
        cases hh
        have h2 : fol r = true := by
          have := hf'.2
          unfold fol at this
          rw [Bool.and_eq_true] at this
          exact this.2
        rw [TL.spl_hit (by show (44 :: 32 :: r.take 0 == [44, 32]) = true; rfl)]
        show (acc :: TL.spl [44, 32] 0 [] r).length = _
        rw [List.length_cons, spl_comma n r [] (by simp at hl; omega) h2, List.count_cons_self, List.count_cons_of_ne (by decide)]
        omega
    · rw [TL.spl_miss (TL.pre_of_head [32] r h), spl_comma n r _ hl hf'.2, List.count_cons_of_ne h]
/-- pieces put together -/
theorem fol_join {U : List Nat} : ∀ {ps : List (List Nat)}, (∀ p, p ∈ ps → 44 ∉ p) → fol (TL.joinL [44, 32] ps ++ U) = fol U
  | [], _ => rfl
  | [p], h => fol_app U (h p (by simp))
  | p :: q :: r, h => by
    show fol ((p ++ ([44, 32] ++ TL.joinL [44, 32] (q :: r))) ++ U) = _
    rw [List.append_assoc, fol_app _ (h p (by simp))]
    show fol (44 :: 32 :: (TL.joinL [44, 32] (q :: r) ++ U)) = _
    rw [← fol_join (U := U) (ps := q :: r) fun z hz => h z (by simp [hz])]
    show ((!decide (44 = 44) || decide (some 32 = some 32)) && ((!decide (32 = 44) || _) && fol _)) = _
    simp
theorem count_join {c : Nat} : ∀ {ps : List (List Nat)} (_ : ps ≠ []), (TL.joinL [44, 32] ps).count c = (ps.map (·.count c)).sum + (ps.length - 1) * ([44, 32].count c)
  | [], h => absurd rfl h
  | [p], _ => by simp [TL.joinL]
  | p :: q :: r, _ => by
    show (p ++ ([44, 32] ++ TL.joinL [44, 32] (q :: r))).count c = _
    rw [List.count_append, List.count_append, count_join (ps := q :: r) (by simp)]
    simp only [List.map_cons, List.sum_cons, List.length_cons]
    have e : r.length + 1 + 1 - 1 = r.length + 1 - 1 + 1 := by omega
    rw [e, Nat.add_mul]
    omega
theorem no_count {c : Nat} {l : List Nat} (h : c ∉ l) : l.count c = 0 := List.count_eq_zero.mpr h
theorem row_count {r : Row} (h : smallRow r) : (TL.tl (rowT r)).count 44 = 0 ∧ (TL.tl (rowT r)).count 32 = 2 := by
  refine ⟨no_count (row_no h (.inl rfl)), ?_⟩
  rw [tl_rowT, List.count_append, List.count_cons_self, List.count_append, List.count_cons_self, no_count (num_no (by omega)), no_count (pl_no h.2.1 (.inl rfl)), no_count (pl_no h.2.2 (.inl rfl))]
theorem mach_tl (rs : List Row) : TL.tl (machT rs) = TL.joinL [44, 32] (rs.map fun r => TL.tl (rowT r)) := by
  unfold machT
  rw [TL.join_eq, TL.tl_join, tl_comma, List.map_map]
  rfl
theorem sum_const {α : Type} (f : α → Nat) (k : Nat) : ∀ l : List α, (∀ a, a ∈ l → f a = k) → (l.map f).sum = l.length * k
  | [], _ => by simp
  | a :: l, h => by
    rw [List.map_cons, List.sum_cons, h a (by simp), sum_const f k l fun b hb => h b (by simp [hb]), List.length_cons, Nat.add_mul]
    omega
theorem mach_count {rs : List Row} (h : ∀ r, r ∈ rs → smallRow r) (h0 : rs ≠ []) : (TL.tl (machT rs)).count 44 + 1 = rs.length ∧ (TL.tl (machT rs)).count 32 + 1 = 3 * rs.length := by
  have hl : 0 < rs.length := List.length_pos_iff.mpr h0
  have n0 : rs.map (fun r => TL.tl (rowT r)) ≠ [] := by simpa using h0
  rw [mach_tl, count_join n0, count_join n0, List.map_map, List.map_map, List.length_map]
  have s1 : (rs.map ((fun p : List Nat => p.count 44) ∘ fun r => TL.tl (rowT r))).sum = rs.length * 0 := sum_const _ 0 rs fun r hr => (row_count (h r hr)).1
  have s2 : (rs.map ((fun p : List Nat => p.count 32) ∘ fun r => TL.tl (rowT r))).sum = rs.length * 2 := sum_const _ 2 rs fun r hr => (row_count (h r hr)).2
  have c1 : [44, 32].count 44 = 1 := by decide
  have c2 : [44, 32].count 32 = 1 := by decide
  rw [s1, s2, c1, c2]
  omega
theorem tl_endT (hs ss : List Row) : TL.tl (endT hs ss) = TL.tl (machT hs) ++ ([32, 124, 32] ++ TL.tl (machT ss)) := by
  unfold endT
  rw [TL.tl_append, TL.tl_append, TL.tl_append, tl_stroke]
  show [] ++ _ ++ _ ++ _ = _
  simp
theorem tl_sp : TL.tl (" " : Str) = [32] := tl_space
theorem end_counts {hs ss : List Row} (h1 : ∀ r, r ∈ hs → smallRow r) (h2 : ∀ r, r ∈ ss → smallRow r) (n1 : hs ≠ []) (n2 : ss ≠ []) :
    Txt.count (endT hs ss) (", " : Str) + 2 = ((hs.length + ss.length : Nat) : Int) ∧ Txt.count (endT hs ss) (" " : Str) = 3 * ((hs.length + ss.length : Nat) : Int) := by
  obtain ⟨a1, a2⟩ := mach_count h1 n1
  obtain ⟨b1, b2⟩ := mach_count h2 n2
  have c1 : [32, 124, 32].count 44 = 0 := by decide
  have c2 : [32, 124, 32].count 32 = 2 := by decide
  have e44 : (TL.tl (endT hs ss)).count 44 + 2 = hs.length + ss.length := by
    rw [tl_endT, List.count_append, List.count_append, c1]
    omega
  have e32 : (TL.tl (endT hs ss)).count 32 = 3 * (hs.length + ss.length) := by
    rw [tl_endT, List.count_append, List.count_append, c2]
    omega
  have hf : fol (TL.tl (endT hs ss)) = true := by
    have no : ∀ {rs : List Row}, (∀ r, r ∈ rs → smallRow r) → ∀ p, p ∈ rs.map (fun r => TL.tl (rowT r)) → 44 ∉ p := fun h p hp => by
      obtain ⟨r, hr, rfl⟩ := List.mem_map.mp hp
      exact row_no (h r hr) (.inl rfl)
    rw [tl_endT, mach_tl, mach_tl, fol_join (no h1), fol_app _ (by decide), ← List.append_nil (TL.joinL _ _), fol_join (no h2)]
    rfl
  refine ⟨?_, ?_⟩
  · rw [count_spl (by rw [tl_comma]; simp), tl_comma, spl_comma _ _ _ (Nat.le_refl _) hf]
    omega
  · rw [count_spl (by rw [tl_sp]; simp), tl_sp, spl_sign, e32]
    omega
end K07
set_option Elab.async false
set_option linter.all false
set_option maxRecDepth 100000
set_option maxHeartbeats 2000000
namespace K07
open PySem L2 Vl Pg
open Sb hiding plD rowD rowsD firstBad
local macro_rules | `(tactic| walk_at "ev") => `(tactic| simp only [Vl.runV, Vl.mkEnv, Vl.Res.of, Vl.Res.quiet, Vl.Res.val, Vl.ioAt, Vl.fSeq, Vl.fIte, Vl.fAsg, Vl.fVar, Vl.fC, Vl.fOp, Vl.fIxO, Vl.fPutL, Vl.fRet, Vl.fRetW, Vl.fRetO, Vl.fRetN, Vl.fLst, Vl.fTup, Vl.fB, Vl.fTru, Vl.fCB, Vl.fCons, Vl.fNil, Vl.o1, Vl.o2, Vl.oI, Vl.oIC, Vl.slotL, Vl.slotO, Vl.own, Vl.Pat.put, Vl.Pat.puts, Vl.Out.bind, Vl.Out.opt, Vl.fNx, Vl.fCt, Vl.fBk, Vl.fPar, Vl.fCall, Vl.fCallN, Vl.fCallL, Vl.fSetN, Vl.gIo, Vl.gCn, Vl.gNl, Vl.agDs, Vl.agD, Vl.ioSlots, Vl.putAll, Vl.put1, Vl.Ag.isIo, Vl.fAnd, Vl.fOr, Vl.fNot, Vl.fAndT, Vl.fOrT, Vl.fNotT, Vl.fChain, Vl.fIsi, Vl.fIsi2, Vl.fUn, Vl.fDrop, Vl.fApp, Vl.fLenO, Vl.fMake, Vl.fRaise, Vl.fFldS, Vl.fDInO, Vl.fDPutO, Vl.fDGetO, Vl.fPop, Vl.fListD, Vl.fDOne, Vl.fDNewK, Vl.isi, Vl.bOf, Vl.sOf, Vl.fFmt, Vl.fJs, Vl.oFmt, Vl.fM1, Vl.fM0, Vl.fFor, Vl.fItems, Vl.fEnum, Vl.fSl, Vl.fPart, Vl.fNoPart, Vl.fNeg, Vl.fAugI, Vl.fInO, Vl.fYes, Vl.fTruO, Vl.fComp, Vl.fCompO, Vl.calmE, Vl.wipeE, Vl.backE, Vl.oIsN, Vl.oStr, Vl.fMakeL, Vl.fCM, Vl.fCMK, Vl.resE, Vl.fItemsS, Vl.fPar3, Vl.fTry2, Vl.hand1, Vl.gK, Vl.gF, Vl.gNil, Vl.gCons, Vl.gTup, Vl.gLst, Vl.gIte, Vl.fSlO, ↓Vl.fRng1_one, Vl.oLen_lst, Vl.oLen_tup, Vl.oLen_ctup, Vl.oLen_scr, Vl.oIx_lst, Vl.oIx_tup, Vl.oIx_ctup, Vl.oIx_scr, Vl.oInt_int, Vl.oInt_bl, Vl.oAbs_int, Vl.oMax_int, Vl.oMin_int, Vl.oTuple_lst, Vl.oTuple_tup, Vl.oList_lst, Vl.oList_tup, Vl.oNeg_int, Vl.ty_non, Vl.ty_bl, Vl.ty_int, Vl.ty_str, Vl.ty_tup, Vl.ty_ctup, Vl.ty_lst, Vl.ty_dk, Vl.ty_scr, Vl.tru_non, Vl.tru_bl, Vl.tru_int, Vl.tru_lst, Vl.tru_tup, Vl.oEqS_int, Vl.oEqS_str, Vl.oEqS_bl, Vl.oCat_lst, Vl.oCatA_tup, Vl.oSlT_tup, Vl.oSlL_lst, Vl.keyOf_int, Vl.keyOf_str, Vl.isNon_non, Vl.isNon_bl, Vl.isNon_int, Vl.isNon_str, Vl.isNon_tup, Vl.isNon_lst, Vl.oFld_ob, Vl.isOb_ob', Vl.atI_0, Vl.atI_1, Vl.atI_2, Vl.atI_3, Vl.ixN_0, Vl.ixN_1, Vl.ixN_2, List.zipWith, List.replicate, List.append, List.cons_append, List.nil_append, List.append_nil, List.getElem?_cons_zero, List.getElem?_cons_succ, List.getElem?_nil, List.set_cons_zero, List.set_cons_succ, List.length_cons, List.length_nil, List.map_cons, List.map_nil, List.nodup_cons, List.nodup_nil, List.not_mem_nil, List.reverse_cons, List.reverse_nil, Bool.false_eq_true, ite_true, ite_false, if_true, if_false, reduceIte, decide_true, decide_false, Bool.true_and, Bool.and_true, Bool.false_and, Bool.and_false, Bool.not_true, Bool.not_false, Bool.or_false, Bool.false_or, Bool.or_true, Bool.true_or, reduceCtorEq, not_false_eq_true, not_true_eq_false, and_self, and_true, true_and, or_false, or_true, Nat.reduceSub, Nat.reduceAdd, Nat.reduceLeDiff, Nat.zero_add, Option.map_some, Option.map_none, Option.bind_some, Option.bind_none, Option.isSome_some, Option.isSome_none, List.mem_cons, List.all_cons, List.all_nil, eq_self, Int.cast_ofNat_Int, Int.natCast_zero, Int.natCast_one, Int.reduceEq, Int.reduceLT, Int.reduceLE, Int.reduceAdd, Int.reduceSub, Int.reduceNeg, Nat.reduceEqDiff, *])
local macro_rules | `(tactic| walk_at "e0") => `(tactic| simp only [Vl.runV, Vl.mkEnv, Vl.Res.of, Vl.Res.quiet, Vl.Res.val, Vl.ioAt, Vl.fSeq, Vl.fIte, Vl.fAsg, Vl.fVar, Vl.fC, Vl.fOp, Vl.fIxO, Vl.fPutL, Vl.fRet, Vl.fRetW, Vl.fRetO, Vl.fRetN, Vl.fLst, Vl.fTup, Vl.fB, Vl.fTru, Vl.fCB, Vl.fCons, Vl.fNil, Vl.o1, Vl.o2, Vl.oI, Vl.oIC, Vl.slotL, Vl.slotO, Vl.own, Vl.Pat.put, Vl.Pat.puts, Vl.Out.bind, Vl.Out.opt, Vl.fNx, Vl.fCt, Vl.fBk, Vl.fPar, Vl.fCall, Vl.fCallN, Vl.fCallL, Vl.fSetN, Vl.gIo, Vl.gCn, Vl.gNl, Vl.agDs, Vl.agD, Vl.ioSlots, Vl.putAll, Vl.put1, Vl.Ag.isIo, Vl.fAnd, Vl.fOr, Vl.fNot, Vl.fAndT, Vl.fOrT, Vl.fNotT, Vl.fChain, Vl.fIsi, Vl.fIsi2, Vl.fUn, Vl.fDrop, Vl.fApp, Vl.fLenO, Vl.fMake, Vl.fRaise, Vl.fFldS, Vl.fDInO, Vl.fDPutO, Vl.fDGetO, Vl.fPop, Vl.fListD, Vl.fDOne, Vl.fDNewK, Vl.isi, Vl.bOf, Vl.sOf, Vl.fFmt, Vl.fJs, Vl.oFmt, Vl.fM1, Vl.fM0, Vl.fFor, Vl.fItems, Vl.fEnum, Vl.fSl, Vl.fPart, Vl.fNoPart, Vl.fNeg, Vl.fAugI, Vl.fInO, Vl.fYes, Vl.fTruO, Vl.fComp, Vl.fCompO, Vl.calmE, Vl.wipeE, Vl.backE, Vl.oIsN, Vl.oStr, Vl.fMakeL, Vl.fCM, Vl.fCMK, Vl.resE, Vl.fItemsS, Vl.fPar3, Vl.fTry2, Vl.hand1, Vl.gK, Vl.gF, Vl.gNil, Vl.gCons, Vl.gTup, Vl.gLst, Vl.gIte, Vl.fSlO, ↓Vl.fRng1_one, Vl.oLen_lst, Vl.oLen_tup, Vl.oLen_ctup, Vl.oLen_scr, Vl.oIx_lst, Vl.oIx_tup, Vl.oIx_ctup, Vl.oIx_scr, Vl.oInt_int, Vl.oInt_bl, Vl.oAbs_int, Vl.oMax_int, Vl.oMin_int, Vl.oTuple_lst, Vl.oTuple_tup, Vl.oList_lst, Vl.oList_tup, Vl.oNeg_int, Vl.ty_non, Vl.ty_bl, Vl.ty_int, Vl.ty_str, Vl.ty_tup, Vl.ty_ctup, Vl.ty_lst, Vl.ty_dk, Vl.ty_scr, Vl.tru_non, Vl.tru_bl, Vl.tru_int, Vl.tru_lst, Vl.tru_tup, Vl.oEqS_int, Vl.oEqS_str, Vl.oEqS_bl, Vl.oCat_lst, Vl.oCatA_tup, Vl.oSlT_tup, Vl.oSlL_lst, Vl.keyOf_int, Vl.keyOf_str, Vl.isNon_non, Vl.isNon_bl, Vl.isNon_int, Vl.isNon_str, Vl.isNon_tup, Vl.isNon_lst, Vl.oFld_ob, Vl.isOb_ob', Vl.atI_0, Vl.atI_1, Vl.atI_2, Vl.atI_3, Vl.ixN_0, Vl.ixN_1, Vl.ixN_2, List.zipWith, List.replicate, List.append, List.cons_append, List.nil_append, List.append_nil, List.getElem?_cons_zero, List.getElem?_cons_succ, List.getElem?_nil, List.set_cons_zero, List.set_cons_succ, List.length_cons, List.length_nil, List.map_cons, List.map_nil, List.nodup_cons, List.nodup_nil, List.not_mem_nil, List.reverse_cons, List.reverse_nil, Bool.false_eq_true, ite_true, ite_false, if_true, if_false, reduceIte, decide_true, decide_false, Bool.true_and, Bool.and_true, Bool.false_and, Bool.and_false, Bool.not_true, Bool.not_false, Bool.or_false, Bool.false_or, Bool.or_true, Bool.true_or, reduceCtorEq, not_false_eq_true, not_true_eq_false, and_self, and_true, true_and, or_false, or_true, Nat.reduceSub, Nat.reduceAdd, Nat.reduceLeDiff, Nat.zero_add, Option.map_some, Option.map_none, Option.bind_some, Option.bind_none, Option.isSome_some, Option.isSome_none, List.mem_cons, List.all_cons, List.all_nil, eq_self, Int.cast_ofNat_Int, Int.natCast_zero, Int.natCast_one, Int.reduceEq, Int.reduceLT, Int.reduceLE, Int.reduceAdd, Int.reduceSub, Int.reduceNeg, Nat.reduceEqDiff])
/-- a part that iterating yields -/
abbrev Pt := Str × Nat × Row
def ptD (t : Pt) : D := .tup [.str t.1, .int (t.2.1 : Int), rowD t.2.2]
def numT (w : Str) : Nat → List Row → List Pt
  | _, [] => []
  | k, r :: rs => (w, k, r) :: numT w (k + 1) rs
def ptsT (hs ss : List Row) : List Pt := numT "hearer" 0 hs ++ numT "sender" 0 ss
theorem numb_eq (w : Str) (rs : List Row) : numbD w rs = (numT w 0 rs).map ptD := by
  have key : ∀ (rs : List Row) (k : Nat), (enumD k (rowsD rs)).map (fun d => match d with
      | .tup [i, r] => .tup [.str w, i, r]
      | d => d) = (numT w k rs).map ptD := by
    intro rs
    induction rs with
    | nil => exact fun _ => rfl
    | cons r rs ih =>
      intro k
      have e := ih (k + 1)
      unfold rowsD at e ⊢
      rw [List.map_cons]
      show _ :: List.map _ (enumD (k + 1) (List.map rowD rs)) = _ :: _
      rw [e]
      rfl
  exact key rs 0
theorem end_pts (hs ss : List Row) : endD hs ss = .ob "End" [.tup (rowsD hs), .tup (rowsD ss), .tup ((ptsT hs ss).map ptD)] := by
  unfold endD ptsT
  rw [numb_eq, numb_eq, List.map_append]
theorem num_len7 (w : Str) : ∀ (rs : List Row) (k : Nat), (numT w k rs).length = rs.length
  | [], _ => rfl
  | _ :: rs, k => by
    show (numT w (k + 1) rs).length + 1 = _
    rw [num_len7 w rs]
    rfl
theorem num_all (w : Str) : ∀ (rs : List Row) (k : Nat) (t : Pt), t ∈ numT w k rs → t.1 = w ∧ t.2.1 < k + rs.length ∧ t.2.2 ∈ rs
  | [], _, t, h => by cases h
  | r :: rs, k, t, h => by
    rcases List.mem_cons.mp h with rfl | h
    · exact ⟨rfl, by simp, by simp⟩
    · obtain ⟨h1, h2, h3⟩ := num_all w rs (k + 1) t h
      exact ⟨h1, by rw [List.length_cons]; omega, by simp [h3]⟩
theorem num_rows (w : Str) : ∀ (rs : List Row) (k : Nat), (numT w k rs).map (·.2.2) = rs
  | [], _ => rfl
  | r :: rs, k => by
    show r :: (numT w (k + 1) rs).map _ = _
    rw [num_rows w rs]
theorem num_ints (w : Str) : ∀ (rs : List Row) (k : Nat), (numT w k rs).map (fun t : Pt => D.int (t.2.1 : Int)) = rangeD (k : Int) rs.length
  | [], _ => rfl
  | r :: rs, k => by
    show D.int (k : Int) :: (numT w (k + 1) rs).map _ = _
    rw [num_ints w rs]
    unfold rangeD
    rw [List.length_cons, List.range_succ_eq_map, List.map_cons, List.map_map]
    have e0 : D.int (k : Int) = .int ((k : Int) + ((0 : Nat) : Int)) := by rw [Int.natCast_zero, Int.add_zero]
    rw [e0]
    refine congrArg _ (List.map_congr_left fun i _ => ?_)
    show D.int (((k + 1 : Nat) : Int) + (i : Int)) = .int ((k : Int) + ((i + 1 : Nat) : Int))
    congr 1
    omega
theorem hne : ("hearer" : Str) ≠ "sender" := by decide +kernel
theorem fil_h (hs ss : List Row) : ((ptsT hs ss).filter fun t => decide (t.1 = ("hearer" : Str))).map (·.2.2) = hs := by
  unfold ptsT
  rw [List.filter_append, List.filter_eq_self.mpr fun t ht => decide_eq_true (num_all _ _ _ t ht).1, List.filter_eq_nil_iff.mpr fun t ht => by
    rw [(num_all _ _ _ t ht).1]
    simpa using Ne.symm hne, List.append_nil, num_rows]
theorem fil_s (hs ss : List Row) : ((ptsT hs ss).filter fun t => decide (t.1 = ("sender" : Str))).map (·.2.2) = ss := by
  unfold ptsT
  rw [List.filter_append, List.filter_eq_nil_iff.mpr fun t ht => by
    rw [(num_all _ _ _ t ht).1]
    simpa using hne, List.filter_eq_self.mpr fun t ht => decide_eq_true (num_all _ _ _ t ht).1, List.nil_append, num_rows]
theorem pts_inj {hs ss hs' ss' : List Row} (h : ptsT hs ss = ptsT hs' ss') : hs = hs' ∧ ss = ss' :=
  ⟨by rw [← fil_h hs ss, h, fil_h], by rw [← fil_s hs ss, h, fil_s]⟩
theorem pts_rows (hs ss : List Row) : (ptsT hs ss).map (fun t => rowD t.2.2) = rowsD (hs ++ ss) := by
  have e : ∀ l : List Pt, l.map (fun t => rowD t.2.2) = rowsD (l.map (·.2.2)) := fun l => by
    unfold rowsD
    rw [List.map_map]
    rfl
  rw [e]
  unfold ptsT
  rw [List.map_append, num_rows, num_rows]
theorem pts_ints (hs ss : List Row) : (ptsT hs ss).map (fun t => D.int (t.2.1 : Int)) = rangeD 0 hs.length ++ rangeD 0 ss.length := by
  unfold ptsT
  rw [List.map_append, num_ints, num_ints]
  rfl
theorem pts_len (hs ss : List Row) : (ptsT hs ss).length = hs.length + ss.length := by
  unfold ptsT
  rw [List.length_append, num_len7, num_len7]
theorem oEq_self {d : D} (neg : Bool) (h : d.eok = true) : oEq neg d d = some (.bl (!neg)) := by
  unfold oEq
  have hs : SeqAt.shaped d.py = true := by
    unfold D.eok at h
    rw [Bool.and_eq_true] at h
    exact h.2
  have hl : d.py.canLay0 = true := by
    have hs : (d.py.canLay0 && decide (d.py.depth ≤ 64)) = true := hs
    rw [Bool.and_eq_true] at hs
    exact hs.1
  rw [h, PySem.SeqAt.eqv_refl _ hl]
  cases neg <;> rfl
theorem wordE : PyData.strOk ("hearer" : Str) = true ∧ PyData.strOk ("sender" : Str) = true := by decide +kernel
theorem rows_okN {hs ss : List Row} (k1 : HearerOk hs) (k2 : SenderOk ss) : ∀ r, r ∈ hs ++ ss → eokN 1 (rowD r) := fun r hr => by
  rcases List.mem_append.mp hr with z | z
  · exact rowD_eokN (.inl rfl) (k1.2.2.1 r z)
  · exact rowD_eokN (.inr rfl) (k2.2.2 r z)
theorem pt_okN {hs ss : List Row} (k1 : HearerOk hs) (k2 : SenderOk ss) : ∀ t, t ∈ ptsT hs ss → eokN 2 (ptD t) := fun t ht => eokN_tup fun d hd => by
  have hr : t.2.2 ∈ hs ++ ss ∧ PyData.strOk t.1 = true := by
    rcases List.mem_append.mp ht with z | z
    · obtain ⟨h1, _, h3⟩ := num_all _ _ _ t z
      exact ⟨List.mem_append.mpr (.inl h3), by rw [h1]; exact wordE.1⟩
    · obtain ⟨h1, _, h3⟩ := num_all _ _ _ t z
      exact ⟨List.mem_append.mpr (.inr h3), by rw [h1]; exact wordE.2⟩
  simp only [List.mem_cons, List.not_mem_nil, or_false] at hd
  rcases hd with rfl | rfl | rfl
  · exact (eokN_str hr.2).more (by omega)
  · exact (eokN_int _).more (by omega)
  · exact rows_okN k1 k2 _ hr.1
theorem eqv_pt (s t : Pt) : PyData.eqv (ptD s).py (ptD t).py = decide (s = t) := by
  have e : PyData.eqv (ptD s).py (ptD t).py = ((s.1 == t.1) && (((s.2.1 : Int) == (t.2.1 : Int)) && (PyData.eqv (rowD s.2.2).py (rowD t.2.2).py && true))) := by
    simp [ptD, D.py, D.pyAll, PyData.eqv, PyData.eqvAll]
  rw [e, eqv_rowD]
  obtain ⟨a, b, c⟩ := s
  obtain ⟨a', b', c'⟩ := t
  by_cases h1 : a = a'
  · subst h1
    by_cases h2 : b = b'
    · subst h2
      by_cases h3 : c = c'
      · subst h3
        simp
      · simp [h3]
    · have h4 : ¬ (b : Int) = (b' : Int) := by omega
      simp [h2, h4]
  · simp [h1]
theorem eqv_pts : ∀ l m : List Pt, PyData.eqvAll (D.pyAll (l.map ptD)) (D.pyAll (m.map ptD)) = decide (l = m)
  | [], [] => by simp [D.pyAll, PyData.eqvAll]
  | [], _ :: _ => by simp [D.pyAll, PyData.eqvAll]
  | _ :: _, [] => by simp [D.pyAll, PyData.eqvAll]
  | p :: l, q :: m => by
    have ih := eqv_pts l m
    have e : PyData.eqvAll (D.pyAll ((p :: l).map ptD)) (D.pyAll ((q :: m).map ptD)) = (PyData.eqv (ptD p).py (ptD q).py && PyData.eqvAll (D.pyAll (l.map ptD)) (D.pyAll (m.map ptD))) := by
      simp [D.pyAll, PyData.eqvAll]
    rw [e, ih, eqv_pt]
    by_cases h1 : p = q
    · by_cases h2 : l = m <;> simp [h1, h2]
    · simp [h1]
theorem eq_pts {hs ss hs' ss' : List Row} (k1 : HearerOk hs) (k2 : SenderOk ss) (k3 : HearerOk hs') (k4 : SenderOk ss') : oEq false (.lst ((ptsT hs ss).map ptD)) (.lst ((ptsT hs' ss').map ptD)) = some (.bl (decide (hs = hs' ∧ ss = ss'))) := by
  have ok : ∀ {hs ss : List Row}, HearerOk hs → SenderOk ss → (D.lst ((ptsT hs ss).map ptD)).eok = true := fun a b => (eokN_lst (n := 2) fun d hd => by
    obtain ⟨t, ht, rfl⟩ := List.mem_map.mp hd
    exact pt_okN a b t ht).eok (by omega)
  unfold oEq
  rw [ok k1 k2, ok k3 k4, if_pos (by rfl)]
  have e : PyData.eqv (D.lst ((ptsT hs ss).map ptD)).py (D.lst ((ptsT hs' ss').map ptD)).py = PyData.eqvAll (D.pyAll ((ptsT hs ss).map ptD)) (D.pyAll ((ptsT hs' ss').map ptD)) := by simp [D.py, PyData.eqv]
  rw [if_neg (by simp), e, eqv_pts]
  congr 2
  exact decide_eq_decide.mpr ⟨pts_inj, fun ⟨a, b⟩ => by rw [a, b]⟩
theorem comp_map {vs : List Nat} {p : Pat} {ft : Ev Bool} {fe : Ev D} {α : Type} {tD : α → D} {b : α → Bool} {g : α → D} {C : List Slot → Prop} {l : List α}
    (step : ∀ a, a ∈ l → ∀ env, C env → ∃ e1 e2, p.put (tD a) (wipeE env vs) = some e1 ∧ ft e1 = .val (b a) e2 ∧ (b a = true → ∃ e3, fe e2 = .val (g a) e3 ∧ C e3) ∧ (b a = false → C e2)) :
    ∀ (acc : List D) (env : List Slot), acc.length + l.length ≤ 1000 → C env → ∃ env', compF p ft fe vs (l.map tD) acc env = .val (acc ++ (l.filter b).map g) env' ∧ C env' := by
  induction l with
  | nil => exact fun acc env _ hc => ⟨env, by simp [compF], hc⟩
  | cons a l ih =>
    intro acc env hl hc
    have big : 1000 < sizeLine := by decide +kernel
    rw [List.length_cons] at hl
    obtain ⟨e1, e2, h1, h2, h3, h4⟩ := step a (by simp) env hc
    have ih' := ih fun x hx => step x (by simp [hx])
    rw [List.map_cons]
    unfold compF
    rw [h1]
    simp only [h2, Out.bind]
    cases hb : b a with
    | true =>
      obtain ⟨e3, h5, h6⟩ := h3 hb
      obtain ⟨env', r1, r2⟩ := ih' (acc ++ [g a]) e3 (by rw [List.length_append, List.length_singleton]; omega) h6
      refine ⟨env', ?_, r2⟩
      rw [if_pos rfl]
      simp only [h5]
      rw [if_pos (by omega), r1, List.filter_cons_of_pos hb, List.map_cons, List.append_assoc]
      rfl
    | false =>
      obtain ⟨env', r1, r2⟩ := ih' acc e2 (by omega) (h4 hb)
      refine ⟨env', ?_, r2⟩
      rw [if_neg (by simp), r1, List.filter_cons_of_neg (by simp [hb])]
theorem fil_yes {α : Type} (l : List α) : l.filter (fun _ => true) = l := List.filter_eq_self.mpr fun _ _ => rfl
/-- the rows of a machine, by iterating -/
theorem rows_of {hs ss : List Row} (l1 : hs.length ≤ 100) (l2 : ss.length ≤ 100) (w : Str) : Φ_L_rows_of [endD hs ss, .str w] = .ret true (.lst (((ptsT hs ss).filter fun t => decide (t.1 = w)).map fun t => rowD t.2.2)) [.non, .non] := by
  obtain ⟨env', e, s2, rfl⟩ := comp_map (vs := [2]) (p := .nm 2) (ft := T_L_rows_of_1) (fe := E_L_rows_of_1) (tD := ptD) (b := fun t => decide (t.1 = w)) (g := fun t => rowD t.2.2) (l := ptsT hs ss) (C := fun env => ∃ s2, env = [.sh (endD hs ss), .sh (.str w), s2]) (fun t ht env hc => by
    obtain ⟨s2, rfl⟩ := hc
    exact ⟨[.sh (endD hs ss), .sh (.str w), .sh (ptD t)], _, rfl, rfl, fun _ => ⟨_, rfl, _, rfl⟩, fun _ => ⟨_, rfl⟩⟩) [] [.sh (endD hs ss), .sh (.str w), .un] (by rw [pts_len]; simp; omega) ⟨_, rfl⟩
  rw [List.nil_append] at e
  have ee := end_pts hs ss
  generalize ((ptsT hs ss).filter fun t => decide (t.1 = w)).map (fun t => rowD t.2.2) = acc at e ⊢
  generalize (ptsT hs ss).map ptD = l at e ee
  have he : fItOwn "End" 2 (fVar 0) [.sh (endD hs ss), .sh (.str w), .un] = .val l [.sh (endD hs ss), .sh (.str w), .un] := by
    rw [ee]
    rfl
  clear ee l1 l2
  unfold Φ_L_rows_of F_L_rows_of
  generalize endD hs ss = ed at e he ⊢
  generalize fItOwn "End" 2 (fVar 0) = f at he ⊢
  unfold Vl.runV Vl.fRetW Vl.fComp
  simp only [Vl.mkEnv, List.zipWith, List.replicate, List.length_cons, List.length_nil, List.cons_append, List.nil_append, List.append, Nat.reduceAdd, Nat.reduceSub, Bool.false_eq_true, if_false]
  rw [he]
  show (Res.of _ ((match compF _ _ _ _ l [] _ with | .val acc e2 => _ | _ => _ : Out D).bind _)).quiet = _
  rw [e]
  rfl
end K07
set_option Elab.async false
set_option linter.all false
set_option maxRecDepth 100000
set_option maxHeartbeats 2000000
namespace K07
open PySem L2 Vl Pg
open Sb hiding plD rowD rowsD firstBad
local macro_rules | `(tactic| walk_at "ev") => `(tactic| simp only [Vl.runV, Vl.mkEnv, Vl.Res.of, Vl.Res.quiet, Vl.Res.val, Vl.ioAt, Vl.fSeq, Vl.fIte, Vl.fAsg, Vl.fVar, Vl.fC, Vl.fOp, Vl.fIxO, Vl.fPutL, Vl.fRet, Vl.fRetW, Vl.fRetO, Vl.fRetN, Vl.fLst, Vl.fTup, Vl.fB, Vl.fTru, Vl.fCB, Vl.fCons, Vl.fNil, Vl.o1, Vl.o2, Vl.oI, Vl.oIC, Vl.slotL, Vl.slotO, Vl.own, Vl.Pat.put, Vl.Pat.puts, Vl.Out.bind, Vl.Out.opt, Vl.fNx, Vl.fCt, Vl.fBk, Vl.fPar, Vl.fCall, Vl.fCallN, Vl.fCallL, Vl.fSetN, Vl.gIo, Vl.gCn, Vl.gNl, Vl.agDs, Vl.agD, Vl.ioSlots, Vl.putAll, Vl.put1, Vl.Ag.isIo, Vl.fAnd, Vl.fOr, Vl.fNot, Vl.fAndT, Vl.fOrT, Vl.fNotT, Vl.fChain, Vl.fIsi, Vl.fIsi2, Vl.fUn, Vl.fDrop, Vl.fApp, Vl.fLenO, Vl.fMake, Vl.fRaise, Vl.fFldS, Vl.fDInO, Vl.fDPutO, Vl.fDGetO, Vl.fPop, Vl.fListD, Vl.fDOne, Vl.fDNewK, Vl.isi, Vl.bOf, Vl.sOf, Vl.fFmt, Vl.fJs, Vl.oFmt, Vl.fM1, Vl.fM0, Vl.fFor, Vl.fItems, Vl.fEnum, Vl.fSl, Vl.fPart, Vl.fNoPart, Vl.fNeg, Vl.fAugI, Vl.fInO, Vl.fYes, Vl.fTruO, Vl.fComp, Vl.fCompO, Vl.calmE, Vl.wipeE, Vl.backE, Vl.oIsN, Vl.oStr, Vl.fMakeL, Vl.fCM, Vl.fCMK, Vl.resE, Vl.fItemsS, Vl.fPar3, Vl.fTry2, Vl.hand1, Vl.gK, Vl.gF, Vl.gNil, Vl.gCons, Vl.gTup, Vl.gLst, Vl.gIte, Vl.fSlO, ↓Vl.fRng1_one, Vl.oLen_lst, Vl.oLen_tup, Vl.oLen_ctup, Vl.oLen_scr, Vl.oIx_lst, Vl.oIx_tup, Vl.oIx_ctup, Vl.oIx_scr, Vl.oInt_int, Vl.oInt_bl, Vl.oAbs_int, Vl.oMax_int, Vl.oMin_int, Vl.oTuple_lst, Vl.oTuple_tup, Vl.oList_lst, Vl.oList_tup, Vl.oNeg_int, Vl.ty_non, Vl.ty_bl, Vl.ty_int, Vl.ty_str, Vl.ty_tup, Vl.ty_ctup, Vl.ty_lst, Vl.ty_dk, Vl.ty_scr, Vl.tru_non, Vl.tru_bl, Vl.tru_int, Vl.tru_lst, Vl.tru_tup, Vl.oEqS_int, Vl.oEqS_str, Vl.oEqS_bl, Vl.oCat_lst, Vl.oCatA_tup, Vl.oSlT_tup, Vl.oSlL_lst, Vl.keyOf_int, Vl.keyOf_str, Vl.isNon_non, Vl.isNon_bl, Vl.isNon_int, Vl.isNon_str, Vl.isNon_tup, Vl.isNon_lst, Vl.oFld_ob, Vl.isOb_ob', Vl.atI_0, Vl.atI_1, Vl.atI_2, Vl.atI_3, Vl.ixN_0, Vl.ixN_1, Vl.ixN_2, List.zipWith, List.replicate, List.append, List.cons_append, List.nil_append, List.append_nil, List.getElem?_cons_zero, List.getElem?_cons_succ, List.getElem?_nil, List.set_cons_zero, List.set_cons_succ, List.length_cons, List.length_nil, List.map_cons, List.map_nil, List.nodup_cons, List.nodup_nil, List.not_mem_nil, List.reverse_cons, List.reverse_nil, Bool.false_eq_true, ite_true, ite_false, if_true, if_false, reduceIte, decide_true, decide_false, Bool.true_and, Bool.and_true, Bool.false_and, Bool.and_false, Bool.not_true, Bool.not_false, Bool.or_false, Bool.false_or, Bool.or_true, Bool.true_or, reduceCtorEq, not_false_eq_true, not_true_eq_false, and_self, and_true, true_and, or_false, or_true, Nat.reduceSub, Nat.reduceAdd, Nat.reduceLeDiff, Nat.zero_add, Option.map_some, Option.map_none, Option.bind_some, Option.bind_none, Option.isSome_some, Option.isSome_none, List.mem_cons, List.all_cons, List.all_nil, eq_self, Int.cast_ofNat_Int, Int.natCast_zero, Int.natCast_one, Int.reduceEq, Int.reduceLT, Int.reduceLE, Int.reduceAdd, Int.reduceSub, Int.reduceNeg, Nat.reduceEqDiff, *])
local macro_rules | `(tactic| walk_at "e0") => `(tactic| simp only [Vl.runV, Vl.mkEnv, Vl.Res.of, Vl.Res.quiet, Vl.Res.val, Vl.ioAt, Vl.fSeq, Vl.fIte, Vl.fAsg, Vl.fVar, Vl.fC, Vl.fOp, Vl.fIxO, Vl.fPutL, Vl.fRet, Vl.fRetW, Vl.fRetO, Vl.fRetN, Vl.fLst, Vl.fTup, Vl.fB, Vl.fTru, Vl.fCB, Vl.fCons, Vl.fNil, Vl.o1, Vl.o2, Vl.oI, Vl.oIC, Vl.slotL, Vl.slotO, Vl.own, Vl.Pat.put, Vl.Pat.puts, Vl.Out.bind, Vl.Out.opt, Vl.fNx, Vl.fCt, Vl.fBk, Vl.fPar, Vl.fCall, Vl.fCallN, Vl.fCallL, Vl.fSetN, Vl.gIo, Vl.gCn, Vl.gNl, Vl.agDs, Vl.agD, Vl.ioSlots, Vl.putAll, Vl.put1, Vl.Ag.isIo, Vl.fAnd, Vl.fOr, Vl.fNot, Vl.fAndT, Vl.fOrT, Vl.fNotT, Vl.fChain, Vl.fIsi, Vl.fIsi2, Vl.fUn, Vl.fDrop, Vl.fApp, Vl.fLenO, Vl.fMake, Vl.fRaise, Vl.fFldS, Vl.fDInO, Vl.fDPutO, Vl.fDGetO, Vl.fPop, Vl.fListD, Vl.fDOne, Vl.fDNewK, Vl.isi, Vl.bOf, Vl.sOf, Vl.fFmt, Vl.fJs, Vl.oFmt, Vl.fM1, Vl.fM0, Vl.fFor, Vl.fItems, Vl.fEnum, Vl.fSl, Vl.fPart, Vl.fNoPart, Vl.fNeg, Vl.fAugI, Vl.fInO, Vl.fYes, Vl.fTruO, Vl.fComp, Vl.fCompO, Vl.calmE, Vl.wipeE, Vl.backE, Vl.oIsN, Vl.oStr, Vl.fMakeL, Vl.fCM, Vl.fCMK, Vl.resE, Vl.fItemsS, Vl.fPar3, Vl.fTry2, Vl.hand1, Vl.gK, Vl.gF, Vl.gNil, Vl.gCons, Vl.gTup, Vl.gLst, Vl.gIte, Vl.fSlO, ↓Vl.fRng1_one, Vl.oLen_lst, Vl.oLen_tup, Vl.oLen_ctup, Vl.oLen_scr, Vl.oIx_lst, Vl.oIx_tup, Vl.oIx_ctup, Vl.oIx_scr, Vl.oInt_int, Vl.oInt_bl, Vl.oAbs_int, Vl.oMax_int, Vl.oMin_int, Vl.oTuple_lst, Vl.oTuple_tup, Vl.oList_lst, Vl.oList_tup, Vl.oNeg_int, Vl.ty_non, Vl.ty_bl, Vl.ty_int, Vl.ty_str, Vl.ty_tup, Vl.ty_ctup, Vl.ty_lst, Vl.ty_dk, Vl.ty_scr, Vl.tru_non, Vl.tru_bl, Vl.tru_int, Vl.tru_lst, Vl.tru_tup, Vl.oEqS_int, Vl.oEqS_str, Vl.oEqS_bl, Vl.oCat_lst, Vl.oCatA_tup, Vl.oSlT_tup, Vl.oSlL_lst, Vl.keyOf_int, Vl.keyOf_str, Vl.isNon_non, Vl.isNon_bl, Vl.isNon_int, Vl.isNon_str, Vl.isNon_tup, Vl.isNon_lst, Vl.oFld_ob, Vl.isOb_ob', Vl.atI_0, Vl.atI_1, Vl.atI_2, Vl.atI_3, Vl.ixN_0, Vl.ixN_1, Vl.ixN_2, List.zipWith, List.replicate, List.append, List.cons_append, List.nil_append, List.append_nil, List.getElem?_cons_zero, List.getElem?_cons_succ, List.getElem?_nil, List.set_cons_zero, List.set_cons_succ, List.length_cons, List.length_nil, List.map_cons, List.map_nil, List.nodup_cons, List.nodup_nil, List.not_mem_nil, List.reverse_cons, List.reverse_nil, Bool.false_eq_true, ite_true, ite_false, if_true, if_false, reduceIte, decide_true, decide_false, Bool.true_and, Bool.and_true, Bool.false_and, Bool.and_false, Bool.not_true, Bool.not_false, Bool.or_false, Bool.false_or, Bool.or_true, Bool.true_or, reduceCtorEq, not_false_eq_true, not_true_eq_false, and_self, and_true, true_and, or_false, or_true, Nat.reduceSub, Nat.reduceAdd, Nat.reduceLeDiff, Nat.zero_add, Option.map_some, Option.map_none, Option.bind_some, Option.bind_none, Option.isSome_some, Option.isSome_none, List.mem_cons, List.all_cons, List.all_nil, eq_self, Int.cast_ofNat_Int, Int.natCast_zero, Int.natCast_one, Int.reduceEq, Int.reduceLT, Int.reduceLE, Int.reduceAdd, Int.reduceSub, Int.reduceNeg, Nat.reduceEqDiff])
theorem own_comp {l : List Pt} {f : Ev (List D)} {E : Ev D} {g : Pt → D} {env : List Slot} {j : Nat} (hl : l.length ≤ 1000) (hf : f env = .val (l.map ptD) env) (h0 : env = env.set j .un) (hE : ∀ t, E (env.set j (.sh (ptD t))) = .val (g t) (env.set j (.sh (ptD t)))) (hcalm : calmE env [j] = true)
    (hb : ∀ s, backE env (env.set j s) [j] = env) (hw : ∀ s, wipeE (env.set j s) [j] = env) (hp : ∀ d, (Pat.nm j).put d env = some (env.set j (.sh d))) : fComp f (.nm j) fYes E [j] env = .val (.lst (l.map g)) env := by
  obtain ⟨env', e, s, rfl⟩ := comp_map (vs := [j]) (p := .nm j) (ft := fYes) (fe := E) (tD := ptD) (b := fun _ => true) (g := g) (l := l) (C := fun x => ∃ s, x = env.set j s) (fun t ht x hc => by
    obtain ⟨s, rfl⟩ := hc
    exact ⟨env.set j (.sh (ptD t)), _, by rw [hw, hp], rfl, fun _ => ⟨_, hE t, _, rfl⟩, fun z => by cases z⟩) [] env (by simpa using hl) ⟨_, h0⟩
  rw [List.nil_append, fil_yes] at e
  unfold fComp
  rw [hf]
  show (if calmE env [j] then _ else _ : Out D) = _
  rw [if_pos hcalm, e]
  show Out.val _ _ = _
  rw [hb]
theorem str_own {hs ss : List Row} (k1 : HearerOk hs) (k2 : SenderOk ss) : oStrOwn "End" Φ_End_str (endD hs ss) = some (.str (endT hs ss)) := by
  unfold oStrOwn
  rw [str_ok k1 k2]
  rfl
theorem eq_own2 {hs ss hs' ss' : List Row} (k1 : HearerOk hs) (k2 : SenderOk ss) (k3 : HearerOk hs') (k4 : SenderOk ss') : oEqOwn "End" Φ_End_eq (endD hs ss) (endD hs' ss') = some (.bl (decide (hs = hs' ∧ ss = ss'))) := by
  unfold oEqOwn
  rw [end_eq k1 k2 k3 k4]
  rfl
theorem eq_own {hs ss : List Row} (k1 : HearerOk hs) (k2 : SenderOk ss) : oEqOwn "End" Φ_End_eq (endD hs ss) (endD hs ss) = some (.bl true) := by
  rw [eq_own2 k1 k2 k1 k2, decide_eq_true ⟨rfl, rfl⟩]
theorem len_own (hs ss : List Row) (l1 : hs.length ≤ 100) (l2 : ss.length ≤ 100) : oLenOwn "End" Φ_End_len (endD hs ss) = some (.int ((hs.length + ss.length : Nat) : Int)) := by
  have e : Φ_End_len [endD hs ss] = .ret false (.int ((hs.length + ss.length : Nat) : Int)) [.non] := by
    rw [end_pts, ← pts_len hs ss, ← List.length_map (f := ptD)]
    rfl
  have h : 0 ≤ ((hs.length + ss.length : Nat) : Int) ∧ ((hs.length + ss.length : Nat) : Int) ≤ 200 := by omega
  have hb : (endD hs ss).isOb "End" = true := rfl
  unfold oLenOwn
  rw [e, hb, if_pos rfl]
  generalize ((hs.length + ss.length : Nat) : Int) = n at h ⊢
  have hm : sm62 n = true := by
    unfold sm62
    simp
    omega
  exact if_pos ⟨h.1, hm⟩
theorem cat_rows {hs ss : List Row} (l1 : hs.length ≤ 100) (l2 : ss.length ≤ 100) : oCat (.lst (Pg.rowsD hs)) (.lst (Pg.rowsD ss)) = some (.lst (Pg.rowsD (hs ++ ss))) := by
  have e0 : Pg.rowsD hs ++ Pg.rowsD ss = Pg.rowsD (hs ++ ss) := by simp [Pg.rowsD]
  show (if _ then _ else _) = _
  rw [e0, if_pos]
  rw [rowsD_len, rowsD_len]
  exact Nat.le_trans (Nat.add_le_add l1 l2) (by decide +kernel)
theorem range_ok {n : Nat} (h : n ≤ 100) : rgOk 0 (n : Int) = true := by
  unfold rgOk sm62
  simp
  omega
theorem rg_len {f : Ev D} {env e : List Slot} {n : Nat} (h : f env = .val (.int (n : Int)) e) (hn : n ≤ 100) : fListRg1 f env = .val (.lst (rangeD 0 n)) e := by
  unfold fListRg1
  rw [h]
  show (if rgOk 0 (n : Int) then _ else _ : Out D) = _
  rw [if_pos (range_ok hn)]
  rfl
theorem cat_ints {m n : Nat} (l1 : m ≤ 100) (l2 : n ≤ 100) : oCat (.lst (rangeD 0 m)) (.lst (rangeD 0 n)) = some (.lst (rangeD 0 m ++ rangeD 0 n)) := by
  show (if _ then _ else _) = _
  rw [if_pos]
  rw [rangeD_len, rangeD_len]
  exact Nat.le_trans (Nat.add_le_add l1 l2) (by decide +kernel)
theorem in_own {hs ss : List Row} {d : D} {b neg : Bool} (h : Φ_End_contains [endD hs ss, d] = .ret false (.bl b) [.non, .non]) : oInOwn "End" neg Φ_End_contains d (endD hs ss) = some (.bl (if neg then !b else b)) := by
  unfold oInOwn
  rw [h]
  rfl
theorem okAt_pl {p : Pl} (h : eokN 0 (plD p)) : okAt p.at := by
  cases p with
  | num n => exact True.intro
  | word s =>
    have h : (D.str s).py.canLay0 = true := h.2.1
    show PyData.strOk s = true
    simpa [D.py, PyData.canLay0] using h
theorem okAt_row {hs ss : List Row} (k1 : HearerOk hs) (k2 : SenderOk ss) {r : Row} (h : r ∈ hs ++ ss) : ∀ a, a ∈ r.ats → okAt a := fun a ha => by
  have ha : a ∈ [At.int (r.put : Int), r.a.at, r.b.at] := ha
  simp only [List.mem_cons, List.not_mem_nil, or_false] at ha
  have hk : eokN 0 (plD r.a) ∧ eokN 0 (plD r.b) := by
    rcases List.mem_append.mp h with z | z
    · exact ⟨plD_eokN (.inl rfl) (k1.2.2.1 r z).2.1, plD_eokN (.inl rfl) (k1.2.2.1 r z).2.2⟩
    · exact ⟨plD_eokN (.inr rfl) (k2.2.2 r z).2.1, plD_eokN (.inr rfl) (k2.2.2 r z).2.2⟩
  rcases ha with rfl | rfl | rfl
  · exact True.intro
  · exact okAt_pl hk.1
  · exact okAt_pl hk.2
theorem put_ok {hs ss : List Row} (k1 : HearerOk hs) (k2 : SenderOk ss) {r : Row} (h : r ∈ hs ++ ss) : Φ_End_contains [endD hs ss, rowD r] = .ret false (.bl true) [.non, .non] := by
  have g := contains_ok k1 k2 (x := .t r.ats) (okAt_row k1 k2 h) (fun as z => by cases z; exact (by decide : (3 : Nat) ≤ 1000))
  have e : (hs ++ ss).any (Th.t r.ats).is = true := List.any_eq_true.mpr ⟨r, h, decide_eq_true rfl⟩
  rw [e] at g
  rw [rowD_ats]
  exact g
theorem small_of {hs ss : List Row} (k1 : HearerOk hs) (k2 : SenderOk ss) : (∀ r, r ∈ hs → smallRow r) ∧ (∀ r, r ∈ ss → smallRow r) ∧ hs ≠ [] ∧ ss ≠ [] :=
  ⟨fun r hr => smallRow_of (smallW (.inl rfl)) (Nat.le_trans k1.2.1 (by decide)) (k1.2.2.1 r hr), fun r hr => smallRow_of (smallW (.inr rfl)) (Nat.le_trans k2.2.1 (by decide)) (k2.2.2 r hr),
    fun z => by
      have := k1.1
      rw [z] at this
      simp at this, fun z => by
      have := k2.1
      rw [z] at this
      simp at this⟩
theorem alone_ok {hs ss : List Row} (k1 : HearerOk hs) (k2 : SenderOk ss) : Φ_L_alone_right [endD hs ss] = .ret false (.bl true) [.non] := by
  have l1 := k1.2.1
  have l2 := k2.2.1
  obtain ⟨q1, q2, q3, q4⟩ := small_of k1 k2
  have hl : (ptsT hs ss).length ≤ 1000 := by rw [pts_len]; omega
  have r1 := rows_of l1 l2 "hearer" (hs := hs) (ss := ss)
  have r2 := rows_of l1 l2 "sender" (hs := hs) (ss := ss)
  have f1 : ((ptsT hs ss).filter fun t => decide (t.1 = ("hearer" : Str))).map (fun t => Pg.rowD t.2.2) = Pg.rowsD hs := by
    have e := congrArg (List.map Pg.rowD) (fil_h hs ss)
    rw [List.map_map] at e
    exact e
  have f2 : ((ptsT hs ss).filter fun t => decide (t.1 = ("sender" : Str))).map (fun t => Pg.rowD t.2.2) = Pg.rowsD ss := by
    have e := congrArg (List.map Pg.rowD) (fil_s hs ss)
    rw [List.map_map] at e
    exact e
  rw [f1] at r1
  rw [f2] at r2
  have hi : ∀ s1 s2 s3 s4 : Slot, fItOwn "End" 2 (fVar 0) [.sh (endD hs ss), s1, s2, s3, s4] = .val ((ptsT hs ss).map ptD) [.sh (endD hs ss), s1, s2, s3, s4] := fun s1 s2 s3 s4 => by
    rw [end_pts]
    rfl
  have c1 : fComp (fItOwn "End" 2 (fVar 0)) (.nm 3) fYes E_L_alone_right_1 [3] [.sh (endD hs ss), .sh (.lst (Pg.rowsD hs)), .sh (.lst (Pg.rowsD ss)), .un, .un] = .val (.lst (Pg.rowsD (hs ++ ss))) [.sh (endD hs ss), .sh (.lst (Pg.rowsD hs)), .sh (.lst (Pg.rowsD ss)), .un, .un] := by
    rw [← pts_rows]
    exact own_comp (g := fun t => Pg.rowD t.2.2) hl (hi _ _ _ _) rfl (fun t => rfl) rfl (fun s => rfl) (fun s => rfl) fun d => rfl
  have c2 : fComp (fItOwn "End" 2 (fVar 0)) (.nm 3) fYes E_L_alone_right_2 [3] [.sh (endD hs ss), .sh (.lst (Pg.rowsD hs)), .sh (.lst (Pg.rowsD ss)), .un, .un] = .val (.lst (rangeD 0 hs.length ++ rangeD 0 ss.length)) [.sh (endD hs ss), .sh (.lst (Pg.rowsD hs)), .sh (.lst (Pg.rowsD ss)), .un, .un] := by
    rw [← pts_ints]
    exact own_comp (g := fun t => D.int (t.2.1 : Int)) hl (hi _ _ _ _) rfl (fun t => rfl) rfl (fun s => rfl) (fun s => rfl) fun d => rfl
  have c3 : ∃ env', compF (.nm 4) T_L_alone_right_1 E_L_alone_right_3 [4] (Pg.rowsD (hs ++ ss)) [] [.sh (endD hs ss), .sh (.lst (Pg.rowsD hs)), .sh (.lst (Pg.rowsD ss)), .un, .un] = .val [] env' ∧ ∃ s, env' = [.sh (endD hs ss), .sh (.lst (Pg.rowsD hs)), .sh (.lst (Pg.rowsD ss)), .un, s] := by
    obtain ⟨env', e, s, rfl⟩ := comp_map (vs := [4]) (p := .nm 4) (ft := T_L_alone_right_1) (fe := E_L_alone_right_3) (tD := Pg.rowD) (b := fun _ => false) (g := Pg.rowD) (l := hs ++ ss) (C := fun x => ∃ s, x = [.sh (endD hs ss), .sh (.lst (Pg.rowsD hs)), .sh (.lst (Pg.rowsD ss)), .un, s]) (fun r hr x hc => by
      obtain ⟨s, rfl⟩ := hc
      have g := in_own (neg := true) (put_ok k1 k2 hr)
      refine ⟨[.sh (endD hs ss), .sh (.lst (Pg.rowsD hs)), .sh (.lst (Pg.rowsD ss)), .un, .sh (Pg.rowD r)], [.sh (endD hs ss), .sh (.lst (Pg.rowsD hs)), .sh (.lst (Pg.rowsD ss)), .un, .sh (Pg.rowD r)], rfl, ?_, (fun z => by cases z), fun _ => ⟨_, rfl⟩⟩
      unfold T_L_alone_right_1
      generalize oInOwn "End" true Φ_End_contains = o at g ⊢
      generalize endD hs ss = ed at g ⊢
      generalize Pg.rowD r = rd at g ⊢
      clear hr
      walk_at "ev") [] [.sh (endD hs ss), .sh (.lst (Pg.rowsD hs)), .sh (.lst (Pg.rowsD ss)), .un, .un] (by simp; omega) ⟨_, rfl⟩
    have e0 : ((hs ++ ss).filter fun _ => false) = [] := List.filter_eq_nil_iff.mpr fun _ _ => by simp
    rw [e0] at e
    exact ⟨_, e, _, rfl⟩
  obtain ⟨env', c3, s4, rfl⟩ := c3
  have hm := made (.inl rfl : IsRows (.lst (Pg.rowsD hs)) hs) (.inl rfl : IsRows (.lst (Pg.rowsD ss)) ss) k1 k2
  have hst := str_own k1 k2
  have heq := eq_own k1 k2
  have hln := len_own hs ss l1 l2
  have hcat := cat_rows l1 l2
  have hcai := cat_ints l1 l2
  have g1 := range_ok l1
  have g2 := range_ok l2
  obtain ⟨n1, n2⟩ := end_counts q1 q2 q3 q4
  have x1 : oEq true (.lst (Pg.rowsD (hs ++ ss))) (.lst (Pg.rowsD (hs ++ ss))) = some (.bl false) := oEq_self true ((eokN_lst (n := 1) fun d hd => by
    obtain ⟨r, hr, rfl⟩ := List.mem_map.mp hd
    exact rows_okN k1 k2 r hr).eok (by omega))
  have x2 : oEq true (.lst (rangeD 0 hs.length ++ rangeD 0 ss.length)) (.lst (rangeD 0 hs.length ++ rangeD 0 ss.length)) = some (.bl false) := oEq_self true ((eokN_lst (n := 0) fun d hd => by
    have : ∃ i, d = .int i := by
      rcases List.mem_append.mp hd with z | z <;> (unfold rangeD at z; obtain ⟨i, _, rfl⟩ := List.mem_map.mp z; exact ⟨_, rfl⟩)
    obtain ⟨i, rfl⟩ := this
    exact eokN_int i).eok (by omega))
  have x3 : oEq false (.lst []) (.lst []) = some (.bl true) := oEq_self false rfl
  have x4 : oCntS (endT hs ss) (.str ", ") = some (.int (Txt.count (endT hs ss) (", " : Str))) := rfl
  have x5 : oCntS (endT hs ss) (.str " ") = some (.int (Txt.count (endT hs ss) (" " : Str))) := rfl
  have x6 : cMul 3 ((hs.length + ss.length : Nat) : Int) = true := cMulL (by decide)
  have z1 : fListRg1 (fCB (Vl.o1 oLen) (fCons (fVar 1) fNil)) [.sh (endD hs ss), .sh (.lst (Pg.rowsD hs)), .sh (.lst (Pg.rowsD ss)), .un, .un] = .val (.lst (rangeD 0 hs.length)) [.sh (endD hs ss), .sh (.lst (Pg.rowsD hs)), .sh (.lst (Pg.rowsD ss)), .un, .un] := rg_len (by rw [← rowsD_len hs]; rfl) l1
  have z2 : fListRg1 (fCB (Vl.o1 oLen) (fCons (fVar 2) fNil)) [.sh (endD hs ss), .sh (.lst (Pg.rowsD hs)), .sh (.lst (Pg.rowsD ss)), .un, .un] = .val (.lst (rangeD 0 ss.length)) [.sh (endD hs ss), .sh (.lst (Pg.rowsD hs)), .sh (.lst (Pg.rowsD ss)), .un, .un] := rg_len (by rw [← rowsD_len ss]; rfl) l2
  have y1 : oLen (.lst (Pg.rowsD hs)) = some (.int (hs.length : Int)) := by
    show some (D.int _) = _
    rw [rowsD_len]
  have y2 : oLen (.lst (Pg.rowsD ss)) = some (.int (ss.length : Int)) := by
    show some (D.int _) = _
    rw [rowsD_len]
  have w1 : oEqS true (.int (Txt.count (endT hs ss) (", " : Str) + 2)) (.int ((hs.length + ss.length : Nat) : Int)) = some (.bl false) := by
    rw [n1]
    show some (D.bl (!decide (_ = _))) = _
    rw [decide_eq_true rfl]
    rfl
  have w2 : oEqS true (.int (Txt.count (endT hs ss) (" " : Str))) (.int (3 * ((hs.length + ss.length : Nat) : Int))) = some (.bl false) := by
    rw [n2]
    show some (D.bl (!decide (_ = _))) = _
    rw [decide_eq_true rfl]
    rfl
  clear q1 q2 q3 q4 k1 k2 hl f1 f2 hi n1 n2 l1 l2
  have t1 : ((hs.length : Int)).toNat = hs.length := rfl
  have t2 : ((ss.length : Int)).toNat = ss.length := rfl
  generalize ((hs.length + ss.length : Nat) : Int) = n at hln w1 w2 x6
  generalize Txt.count (endT hs ss) (", " : Str) = m1 at x4 w1
  generalize Txt.count (endT hs ss) (" " : Str) = m2 at x5 w2
  generalize endT hs ss = t at hst x4 x5
  generalize endD hs ss = ed at *
  generalize Pg.rowsD (hs ++ ss) = l3 at *
  generalize Pg.rowsD hs = l1 at *
  generalize Pg.rowsD ss = l2 at *
  generalize (hs.length : Int) = a1 at *
  generalize (ss.length : Int) = a2 at *
  generalize hs.length = b1 at *
  generalize ss.length = b2 at *
  generalize rangeD 0 b1 ++ rangeD 0 b2 = l4 at *
  unfold Φ_L_alone_right F_L_alone_right R_L_alone_right_4 R_L_alone_right_3 R_L_alone_right_2 R_L_alone_right_1 H_L_alone_right_4 H_L_alone_right_3 H_L_alone_right_2 H_L_alone_right_1
  generalize fListRg1 (fCB (Vl.o1 oLen) (fCons (fVar 1) fNil)) = f3 at z1 ⊢
  generalize fListRg1 (fCB (Vl.o1 oLen) (fCons (fVar 2) fNil)) = f4 at z2 ⊢
  generalize fComp (fItOwn "End" 2 (fVar 0)) (.nm 3) fYes E_L_alone_right_1 [3] = f1 at c1 ⊢
  generalize fComp (fItOwn "End" 2 (fVar 0)) (.nm 3) fYes E_L_alone_right_2 [3] = f2 at c2 ⊢
  generalize oStrOwn "End" Φ_End_str = o1 at hst ⊢
  generalize oEqOwn "End" Φ_End_eq = o2 at heq ⊢
  generalize oLenOwn "End" Φ_End_len = o3 at hln ⊢
  generalize oCat = o4 at hcat hcai ⊢
  generalize oEq true = o5 at x1 x2 ⊢
  generalize oEq false = o6 at x3 ⊢
  generalize oCntS = o7 at x4 x5 ⊢
  generalize oEqS true = o8 at w1 w2 ⊢
  walk_at "ev"
end K07
set_option Elab.async false
set_option linter.all false
set_option maxRecDepth 100000
set_option maxHeartbeats 1000000
namespace Pg
open PySem L2 Sb Vl TL
local macro_rules | `(tactic| walk_at "ev") => `(tactic| simp only [Vl.runV, Vl.mkEnv, Vl.Res.of, Vl.Res.quiet, Vl.Res.val, Vl.ioAt, Vl.fSeq, Vl.fIte, Vl.fAsg, Vl.fVar, Vl.fC, Vl.fOp, Vl.fIxO, Vl.fPutL, Vl.fRet, Vl.fRetW, Vl.fRetO, Vl.fRetN, Vl.fLst, Vl.fTup, Vl.fB, Vl.fTru, Vl.fCB, Vl.fCons, Vl.fNil, Vl.o1, Vl.o2, Vl.oI, Vl.oIC, Vl.slotL, Vl.slotO, Vl.own, Vl.Pat.put, Vl.Pat.puts, Vl.Out.bind, Vl.Out.opt, Vl.fNx, Vl.fCt, Vl.fBk, Vl.fPar, Vl.fCall, Vl.fCallN, Vl.fCallL, Vl.fSetN, Vl.gIo, Vl.gCn, Vl.gNl, Vl.agDs, Vl.agD, Vl.ioSlots, Vl.putAll, Vl.put1, Vl.Ag.isIo, Vl.fAnd, Vl.fOr, Vl.fNot, Vl.fAndT, Vl.fOrT, Vl.fNotT, Vl.fChain, Vl.fIsi, Vl.fIsi2, Vl.fUn, Vl.fDrop, Vl.fApp, Vl.fLenO, Vl.fMake, Vl.fRaise, Vl.fFldS, Vl.fDInO, Vl.fDPutO, Vl.fDGetO, Vl.fPop, Vl.fListD, Vl.fDOne, Vl.fDNewK, Vl.isi, Vl.bOf, Vl.sOf, Vl.fFmt, Vl.fJs, Vl.oFmt, Vl.fM1, Vl.fM0, Vl.fFor, Vl.fItems, Vl.fEnum, Vl.fSl, Vl.fPart, Vl.fNoPart, Vl.fNeg, Vl.fAugI, Vl.fInO, Vl.fYes, Vl.fTruO, Vl.fComp, Vl.fCompO, Vl.calmE, Vl.wipeE, Vl.backE, Vl.oIsN, Vl.oStr, ↓Vl.fRng1_one, Vl.oLen_lst, Vl.oLen_tup, Vl.oLen_ctup, Vl.oLen_scr, Vl.oIx_lst, Vl.oIx_tup, Vl.oIx_ctup, Vl.oIx_scr, Vl.oInt_int, Vl.oInt_bl, Vl.oAbs_int, Vl.oMax_int, Vl.oMin_int, Vl.oTuple_lst, Vl.oTuple_tup, Vl.oList_lst, Vl.oList_tup, Vl.oNeg_int, Vl.ty_non, Vl.ty_bl, Vl.ty_int, Vl.ty_str, Vl.ty_tup, Vl.ty_ctup, Vl.ty_lst, Vl.ty_dk, Vl.ty_scr, Vl.tru_non, Vl.tru_bl, Vl.tru_int, Vl.tru_lst, Vl.tru_tup, Vl.oEqS_int, Vl.oEqS_str, Vl.oEqS_bl, Vl.oCat_lst, Vl.oCatA_tup, Vl.oSlT_tup, Vl.oSlL_lst, Vl.keyOf_int, Vl.keyOf_str, Vl.isNon_non, Vl.isNon_bl, Vl.isNon_int, Vl.isNon_str, Vl.isNon_tup, Vl.isNon_lst, Vl.oFld_ob, Vl.isOb_ob', Vl.atI_0, Vl.atI_1, Vl.atI_2, Vl.atI_3, Vl.ixN_0, Vl.ixN_1, Vl.ixN_2, List.zipWith, List.replicate, List.append, List.cons_append, List.nil_append, List.append_nil, List.getElem?_cons_zero, List.getElem?_cons_succ, List.getElem?_nil, List.set_cons_zero, List.set_cons_succ, List.length_cons, List.length_nil, List.map_cons, List.map_nil, List.nodup_cons, List.nodup_nil, List.not_mem_nil, List.reverse_cons, List.reverse_nil, Bool.false_eq_true, ite_true, ite_false, if_true, if_false, reduceIte, decide_true, decide_false, Bool.true_and, Bool.and_true, Bool.false_and, Bool.and_false, Bool.not_true, Bool.not_false, Bool.or_false, Bool.false_or, Bool.or_true, Bool.true_or, reduceCtorEq, not_false_eq_true, not_true_eq_false, and_self, and_true, true_and, or_false, or_true, Nat.reduceSub, Nat.reduceAdd, Nat.reduceLeDiff, Nat.zero_add, Option.map_some, Option.map_none, Option.bind_some, Option.bind_none, Option.isSome_some, Option.isSome_none, List.mem_cons, List.all_cons, List.all_nil, eq_self, Int.cast_ofNat_Int, Int.natCast_zero, Int.natCast_one, Int.reduceEq, Int.reduceLT, Int.reduceLE, Int.reduceAdd, Int.reduceSub, Int.reduceNeg, Nat.reduceEqDiff, *])
local macro_rules | `(tactic| walk_at "e0") => `(tactic| simp only [Vl.runV, Vl.mkEnv, Vl.Res.of, Vl.Res.quiet, Vl.Res.val, Vl.ioAt, Vl.fSeq, Vl.fIte, Vl.fAsg, Vl.fVar, Vl.fC, Vl.fOp, Vl.fIxO, Vl.fPutL, Vl.fRet, Vl.fRetW, Vl.fRetO, Vl.fRetN, Vl.fLst, Vl.fTup, Vl.fB, Vl.fTru, Vl.fCB, Vl.fCons, Vl.fNil, Vl.o1, Vl.o2, Vl.oI, Vl.oIC, Vl.slotL, Vl.slotO, Vl.own, Vl.Pat.put, Vl.Pat.puts, Vl.Out.bind, Vl.Out.opt, Vl.fNx, Vl.fCt, Vl.fBk, Vl.fPar, Vl.fCall, Vl.fCallN, Vl.fCallL, Vl.fSetN, Vl.gIo, Vl.gCn, Vl.gNl, Vl.agDs, Vl.agD, Vl.ioSlots, Vl.putAll, Vl.put1, Vl.Ag.isIo, Vl.fAnd, Vl.fOr, Vl.fNot, Vl.fAndT, Vl.fOrT, Vl.fNotT, Vl.fChain, Vl.fIsi, Vl.fIsi2, Vl.fUn, Vl.fDrop, Vl.fApp, Vl.fLenO, Vl.fMake, Vl.fRaise, Vl.fFldS, Vl.fDInO, Vl.fDPutO, Vl.fDGetO, Vl.fPop, Vl.fListD, Vl.fDOne, Vl.fDNewK, Vl.isi, Vl.bOf, Vl.sOf, Vl.fFmt, Vl.fJs, Vl.oFmt, Vl.fM1, Vl.fM0, Vl.fFor, Vl.fItems, Vl.fEnum, Vl.fSl, Vl.fPart, Vl.fNoPart, Vl.fNeg, Vl.fAugI, Vl.fInO, Vl.fYes, Vl.fTruO, Vl.fComp, Vl.fCompO, Vl.calmE, Vl.wipeE, Vl.backE, Vl.oIsN, Vl.oStr, ↓Vl.fRng1_one, Vl.oLen_lst, Vl.oLen_tup, Vl.oLen_ctup, Vl.oLen_scr, Vl.oIx_lst, Vl.oIx_tup, Vl.oIx_ctup, Vl.oIx_scr, Vl.oInt_int, Vl.oInt_bl, Vl.oAbs_int, Vl.oMax_int, Vl.oMin_int, Vl.oTuple_lst, Vl.oTuple_tup, Vl.oList_lst, Vl.oList_tup, Vl.oNeg_int, Vl.ty_non, Vl.ty_bl, Vl.ty_int, Vl.ty_str, Vl.ty_tup, Vl.ty_ctup, Vl.ty_lst, Vl.ty_dk, Vl.ty_scr, Vl.tru_non, Vl.tru_bl, Vl.tru_int, Vl.tru_lst, Vl.tru_tup, Vl.oEqS_int, Vl.oEqS_str, Vl.oEqS_bl, Vl.oCat_lst, Vl.oCatA_tup, Vl.oSlT_tup, Vl.oSlL_lst, Vl.keyOf_int, Vl.keyOf_str, Vl.isNon_non, Vl.isNon_bl, Vl.isNon_int, Vl.isNon_str, Vl.isNon_tup, Vl.isNon_lst, Vl.oFld_ob, Vl.isOb_ob', Vl.atI_0, Vl.atI_1, Vl.atI_2, Vl.atI_3, Vl.ixN_0, Vl.ixN_1, Vl.ixN_2, List.zipWith, List.replicate, List.append, List.cons_append, List.nil_append, List.append_nil, List.getElem?_cons_zero, List.getElem?_cons_succ, List.getElem?_nil, List.set_cons_zero, List.set_cons_succ, List.length_cons, List.length_nil, List.map_cons, List.map_nil, List.nodup_cons, List.nodup_nil, List.not_mem_nil, List.reverse_cons, List.reverse_nil, Bool.false_eq_true, ite_true, ite_false, if_true, if_false, reduceIte, decide_true, decide_false, Bool.true_and, Bool.and_true, Bool.false_and, Bool.and_false, Bool.not_true, Bool.not_false, Bool.or_false, Bool.false_or, Bool.or_true, Bool.true_or, reduceCtorEq, not_false_eq_true, not_true_eq_false, and_self, and_true, true_and, or_false, or_true, Nat.reduceSub, Nat.reduceAdd, Nat.reduceLeDiff, Nat.zero_add, Option.map_some, Option.map_none, Option.bind_some, Option.bind_none, Option.isSome_some, Option.isSome_none, List.mem_cons, List.all_cons, List.all_nil, eq_self, Int.cast_ofNat_Int, Int.natCast_zero, Int.natCast_one, Int.reduceEq, Int.reduceLT, Int.reduceLE, Int.reduceAdd, Int.reduceSub, Int.reduceNeg, Nat.reduceEqDiff])
def okB : At → Bool
  | .str s => PyData.strOk s
  | _ => true
theorem atoms_ok : ∀ a ∈ atoms, okB a = true := by decide +kernel
theorem okAt_of {a : At} (h : a ∈ atoms) : okAt a := by
  have := atoms_ok a h
  cases a <;> first | exact this | trivial
/-- a thing whose text is known -/
def Th.Shown : Th → Prop
  | .t as => (∀ a, a ∈ as → a ∈ atoms) ∧ as.length ≤ 100
  | .l _ => True
  | .n r => ∀ a, a ∈ r.ats → a ∈ atoms
theorem Th.Shown.ok {x : Th} (h : x.Shown) : x.Ok := by
  cases x with
  | t as => exact fun a ha => okAt_of (h.1 a ha)
  | l as => trivial
  | n r =>
    show eokN 1 (rowD r)
    rw [rowD_ats]
    exact atsD_eokN fun a ha => okAt_of (h a ha)
end Pg
set_option Elab.async false
set_option linter.all false
set_option maxRecDepth 100000
set_option maxHeartbeats 1000000
namespace Pg
open PySem L2 Sb Vl
local macro_rules | `(tactic| walk_at "ev") => `(tactic| simp only [Vl.runV, Vl.mkEnv, Vl.Res.of, Vl.Res.quiet, Vl.Res.val, Vl.ioAt, Vl.fSeq, Vl.fIte, Vl.fAsg, Vl.fVar, Vl.fC, Vl.fOp, Vl.fIxO, Vl.fPutL, Vl.fRet, Vl.fRetW, Vl.fRetO, Vl.fRetN, Vl.fLst, Vl.fTup, Vl.fB, Vl.fTru, Vl.fCB, Vl.fCons, Vl.fNil, Vl.o1, Vl.o2, Vl.oI, Vl.oIC, Vl.slotL, Vl.slotO, Vl.own, Vl.Pat.put, Vl.Pat.puts, Vl.Out.bind, Vl.Out.opt, Vl.fNx, Vl.fCt, Vl.fBk, Vl.fPar, Vl.fCall, Vl.fCallN, Vl.fCallL, Vl.fSetN, Vl.gIo, Vl.gCn, Vl.gNl, Vl.agDs, Vl.agD, Vl.ioSlots, Vl.putAll, Vl.put1, Vl.Ag.isIo, Vl.fAnd, Vl.fOr, Vl.fNot, Vl.fAndT, Vl.fOrT, Vl.fNotT, Vl.fChain, Vl.fIsi, Vl.fIsi2, Vl.fUn, Vl.fDrop, Vl.fApp, Vl.fLenO, Vl.fMake, Vl.fRaise, Vl.fFldS, Vl.fDInO, Vl.fDPutO, Vl.fDGetO, Vl.fPop, Vl.fListD, Vl.fDOne, Vl.fDNewK, Vl.isi, Vl.bOf, Vl.sOf, Vl.fFmt, Vl.fJs, Vl.oFmt, Vl.fM1, Vl.fM0, Vl.fFor, Vl.fItems, Vl.fEnum, Vl.fSl, Vl.fPart, Vl.fNoPart, Vl.fNeg, Vl.fAugI, Vl.fInO, Vl.fYes, Vl.fTruO, Vl.fComp, Vl.fCompO, Vl.calmE, Vl.wipeE, Vl.backE, Vl.oIsN, Vl.oStr, ↓Vl.fRng1_one, Vl.oLen_lst, Vl.oLen_tup, Vl.oLen_ctup, Vl.oLen_scr, Vl.oIx_lst, Vl.oIx_tup, Vl.oIx_ctup, Vl.oIx_scr, Vl.oInt_int, Vl.oInt_bl, Vl.oAbs_int, Vl.oMax_int, Vl.oMin_int, Vl.oTuple_lst, Vl.oTuple_tup, Vl.oList_lst, Vl.oList_tup, Vl.oNeg_int, Vl.ty_non, Vl.ty_bl, Vl.ty_int, Vl.ty_str, Vl.ty_tup, Vl.ty_ctup, Vl.ty_lst, Vl.ty_dk, Vl.ty_scr, Vl.tru_non, Vl.tru_bl, Vl.tru_int, Vl.tru_lst, Vl.tru_tup, Vl.oEqS_int, Vl.oEqS_str, Vl.oEqS_bl, Vl.oCat_lst, Vl.oCatA_tup, Vl.oSlT_tup, Vl.oSlL_lst, Vl.keyOf_int, Vl.keyOf_str, Vl.isNon_non, Vl.isNon_bl, Vl.isNon_int, Vl.isNon_str, Vl.isNon_tup, Vl.isNon_lst, Vl.oFld_ob, Vl.isOb_ob', Vl.atI_0, Vl.atI_1, Vl.atI_2, Vl.atI_3, Vl.ixN_0, Vl.ixN_1, Vl.ixN_2, List.zipWith, List.replicate, List.append, List.cons_append, List.nil_append, List.append_nil, List.getElem?_cons_zero, List.getElem?_cons_succ, List.getElem?_nil, List.set_cons_zero, List.set_cons_succ, List.length_cons, List.length_nil, List.map_cons, List.map_nil, List.nodup_cons, List.nodup_nil, List.not_mem_nil, List.reverse_cons, List.reverse_nil, Bool.false_eq_true, ite_true, ite_false, if_true, if_false, reduceIte, decide_true, decide_false, Bool.true_and, Bool.and_true, Bool.false_and, Bool.and_false, Bool.not_true, Bool.not_false, Bool.or_false, Bool.false_or, Bool.or_true, Bool.true_or, reduceCtorEq, not_false_eq_true, not_true_eq_false, and_self, and_true, true_and, or_false, or_true, Nat.reduceSub, Nat.reduceAdd, Nat.reduceLeDiff, Nat.zero_add, Option.map_some, Option.map_none, Option.bind_some, Option.bind_none, Option.isSome_some, Option.isSome_none, List.mem_cons, List.all_cons, List.all_nil, eq_self, Int.cast_ofNat_Int, Int.natCast_zero, Int.natCast_one, Int.reduceEq, Int.reduceLT, Int.reduceLE, Int.reduceAdd, Int.reduceSub, Int.reduceNeg, Nat.reduceEqDiff, *])
local macro_rules | `(tactic| walk_at "e0") => `(tactic| simp only [Vl.runV, Vl.mkEnv, Vl.Res.of, Vl.Res.quiet, Vl.Res.val, Vl.ioAt, Vl.fSeq, Vl.fIte, Vl.fAsg, Vl.fVar, Vl.fC, Vl.fOp, Vl.fIxO, Vl.fPutL, Vl.fRet, Vl.fRetW, Vl.fRetO, Vl.fRetN, Vl.fLst, Vl.fTup, Vl.fB, Vl.fTru, Vl.fCB, Vl.fCons, Vl.fNil, Vl.o1, Vl.o2, Vl.oI, Vl.oIC, Vl.slotL, Vl.slotO, Vl.own, Vl.Pat.put, Vl.Pat.puts, Vl.Out.bind, Vl.Out.opt, Vl.fNx, Vl.fCt, Vl.fBk, Vl.fPar, Vl.fCall, Vl.fCallN, Vl.fCallL, Vl.fSetN, Vl.gIo, Vl.gCn, Vl.gNl, Vl.agDs, Vl.agD, Vl.ioSlots, Vl.putAll, Vl.put1, Vl.Ag.isIo, Vl.fAnd, Vl.fOr, Vl.fNot, Vl.fAndT, Vl.fOrT, Vl.fNotT, Vl.fChain, Vl.fIsi, Vl.fIsi2, Vl.fUn, Vl.fDrop, Vl.fApp, Vl.fLenO, Vl.fMake, Vl.fRaise, Vl.fFldS, Vl.fDInO, Vl.fDPutO, Vl.fDGetO, Vl.fPop, Vl.fListD, Vl.fDOne, Vl.fDNewK, Vl.isi, Vl.bOf, Vl.sOf, Vl.fFmt, Vl.fJs, Vl.oFmt, Vl.fM1, Vl.fM0, Vl.fFor, Vl.fItems, Vl.fEnum, Vl.fSl, Vl.fPart, Vl.fNoPart, Vl.fNeg, Vl.fAugI, Vl.fInO, Vl.fYes, Vl.fTruO, Vl.fComp, Vl.fCompO, Vl.calmE, Vl.wipeE, Vl.backE, Vl.oIsN, Vl.oStr, ↓Vl.fRng1_one, Vl.oLen_lst, Vl.oLen_tup, Vl.oLen_ctup, Vl.oLen_scr, Vl.oIx_lst, Vl.oIx_tup, Vl.oIx_ctup, Vl.oIx_scr, Vl.oInt_int, Vl.oInt_bl, Vl.oAbs_int, Vl.oMax_int, Vl.oMin_int, Vl.oTuple_lst, Vl.oTuple_tup, Vl.oList_lst, Vl.oList_tup, Vl.oNeg_int, Vl.ty_non, Vl.ty_bl, Vl.ty_int, Vl.ty_str, Vl.ty_tup, Vl.ty_ctup, Vl.ty_lst, Vl.ty_dk, Vl.ty_scr, Vl.tru_non, Vl.tru_bl, Vl.tru_int, Vl.tru_lst, Vl.tru_tup, Vl.oEqS_int, Vl.oEqS_str, Vl.oEqS_bl, Vl.oCat_lst, Vl.oCatA_tup, Vl.oSlT_tup, Vl.oSlL_lst, Vl.keyOf_int, Vl.keyOf_str, Vl.isNon_non, Vl.isNon_bl, Vl.isNon_int, Vl.isNon_str, Vl.isNon_tup, Vl.isNon_lst, Vl.oFld_ob, Vl.isOb_ob', Vl.atI_0, Vl.atI_1, Vl.atI_2, Vl.atI_3, Vl.ixN_0, Vl.ixN_1, Vl.ixN_2, List.zipWith, List.replicate, List.append, List.cons_append, List.nil_append, List.append_nil, List.getElem?_cons_zero, List.getElem?_cons_succ, List.getElem?_nil, List.set_cons_zero, List.set_cons_succ, List.length_cons, List.length_nil, List.map_cons, List.map_nil, List.nodup_cons, List.nodup_nil, List.not_mem_nil, List.reverse_cons, List.reverse_nil, Bool.false_eq_true, ite_true, ite_false, if_true, if_false, reduceIte, decide_true, decide_false, Bool.true_and, Bool.and_true, Bool.false_and, Bool.and_false, Bool.not_true, Bool.not_false, Bool.or_false, Bool.false_or, Bool.or_true, Bool.true_or, reduceCtorEq, not_false_eq_true, not_true_eq_false, and_self, and_true, true_and, or_false, or_true, Nat.reduceSub, Nat.reduceAdd, Nat.reduceLeDiff, Nat.zero_add, Option.map_some, Option.map_none, Option.bind_some, Option.bind_none, Option.isSome_some, Option.isSome_none, List.mem_cons, List.all_cons, List.all_nil, eq_self, Int.cast_ofNat_Int, Int.natCast_zero, Int.natCast_one, Int.reduceEq, Int.reduceLT, Int.reduceLE, Int.reduceAdd, Int.reduceSub, Int.reduceNeg, Nat.reduceEqDiff])
/-- a value that a machine's row may be looked at -/
def goodRow (d : D) : Prop := d.ty.isSome = true ∧ (∀ l, d ≠ .ctup l) ∧ ∀ l, d = .tup l → ∀ x, x ∈ l → D.fine x = true
/-- the first row that is none, from the k-th on -/
def firstBad (n : Int) (ws : List Str) : Nat → List D → Option Nat
  | _, [] => none
  | k, d :: l => if rowOkD d n ws then firstBad n ws (k + 1) l else some k
theorem check_step {part : Str} {m d : D} {few most : Int} {n : Nat} {ws : List Str} (hw : okWords ws) (hn : oLen m = some (.int (n : Int))) (hd : goodRow d) (k : D) : B_check_machine_1 [.sh (.str part), .sh m, .sh (.int few), .sh (.int most), .sh (.ctup (ws.map D.str)), .sh k, .sh d] = if rowOkD d n ws then .val .nx [.sh (.str part), .sh m, .sh (.int few), .sh (.int most), .sh (.ctup (ws.map D.str)), .sh k, .sh d] else .exc "BadEnd" [k, .str part] [.sh (.str part), .sh m, .sh (.int few), .sh (.int most), .sh (.ctup (ws.map D.str)), .sh k, .sh d] := by
  have hg := row_ok (n := (n : Int)) hd.1 hd.2.1 hd.2.2 (words_eok hw)
  have b2 : (2 ≤ 1000) = True := eq_true (by decide)
  clear hd hw
  unfold B_check_machine_1
  generalize rowOkD d n ws = b at hg ⊢
  cases b <;> walk_at "ev"
theorem put56 (a b c d e x y : D) (t5 t6 : Slot) : Pat.put (.tp [.nm 5, .nm 6]) (.tup [x, y]) [.sh a, .sh b, .sh c, .sh d, .sh e, t5, t6] = some [.sh a, .sh b, .sh c, .sh d, .sh e, .sh x, .sh y] := rfl
theorem check_loop {part : Str} {m : D} {few most : Int} {n : Nat} {ws : List Str} (hw : okWords ws) (hn : oLen m = some (.int (n : Int))) : ∀ (l : List D) (k : Nat) (s5 s6 : Slot), (∀ d, d ∈ l → goodRow d) → ∃ t5 t6, loopF (.tp [.nm 5, .nm 6]) B_check_machine_1 (enumD k l) [.sh (.str part), .sh m, .sh (.int few), .sh (.int most), .sh (.ctup (ws.map D.str)), s5, s6] = match firstBad n ws k l with
    | none => .val .nx [.sh (.str part), .sh m, .sh (.int few), .sh (.int most), .sh (.ctup (ws.map D.str)), t5, t6]
    | some i => .exc "BadEnd" [.int (i : Int), .str part] [.sh (.str part), .sh m, .sh (.int few), .sh (.int most), .sh (.ctup (ws.map D.str)), t5, t6]
  | [], k, s5, s6, _ => ⟨s5, s6, rfl⟩
  | d :: l, k, s5, s6, h => by
    have hs := check_step (part := part) (few := few) (most := most) hw hn (h d (by simp)) (.int (k : Int))
    unfold firstBad
    cases hb : rowOkD d n ws with
    | true =>
      rw [hb, if_pos rfl] at hs
      obtain ⟨t5, t6, e⟩ := check_loop hw hn l (k + 1) (.sh (.int (k : Int))) (.sh d) fun x hx => h x (by simp [hx])
      refine ⟨t5, t6, ?_⟩
      have en : enumD k (d :: l) = .tup [.int (k : Int), d] :: enumD (k + 1) l := rfl
      rw [if_pos rfl, en, loopF, put56]
      simp only [hs]
      exact e
    | false =>
      rw [hb, if_neg (by simp)] at hs
      refine ⟨.sh (.int (k : Int)), .sh d, ?_⟩
      have en : enumD k (d :: l) = .tup [.int (k : Int), d] :: enumD (k + 1) l := rfl
      rw [if_neg (by simp), en, loopF, put56]
      simp only [hs]
/-- what may be looked at as a machine -/
inductive Mac where
  | ls (xs : List D) | tp (xs : List D) | ot (x : D)
def Mac.d (m : Mac) : D := match m with
  | .ls xs => .lst xs
  | .tp xs => .tup xs
  | .ot x => x
def Mac.Ok (m : Mac) : Prop := match m with
  | .ls xs => ∀ x, x ∈ xs → goodRow x
  | .tp xs => ∀ x, x ∈ xs → goodRow x
  | .ot x => ∃ t, x.ty = some t ∧ (t = .non ∨ t = .bool ∨ t = .int ∨ t = .str ∨ t = .dict)
def Mac.rows (m : Mac) : List D := match m with
  | .ls xs => xs
  | .tp xs => xs
  | .ot _ => []
def Mac.seq (m : Mac) : Bool := match m with
  | .ot _ => false
  | _ => true
/-- the row that a fault of a machine tells -/
def faultM (few most : Nat) (ws : List Str) (m : Mac) : Option D :=
  if m.seq && (decide (few ≤ m.rows.length) && decide (m.rows.length ≤ most)) then (firstBad (m.rows.length : Int) ws 0 m.rows).map fun (i : Nat) => D.int (i : Int) else some .non
def toldC (part : Str) (r : Option D) : Res := match r with
  | none => .ret false .non [.non, .non, .non, .non, .non]
  | some r => .exc "BadEnd" [r, .str part] [.non, .non, .non, .non, .non]
theorem check_seq {part : Str} {few most : Nat} {ws : List Str} (hw : okWords ws) {l : List D} (hl : ∀ x, x ∈ l → goodRow x) {d : D} (hd : d = .lst l ∨ d = .tup l) : Φ_check_machine [.str part, d, .int (few : Int), .int (most : Int), .ctup (ws.map D.str)] = toldC part (if (decide (few ≤ l.length) && decide (l.length ≤ most)) = true then (firstBad (l.length : Int) ws 0 l).map fun (i : Nat) => D.int (i : Int) else some .non) := by
  have b2 : (2 ≤ 1000) = True := eq_true (by decide)
  have hn : oLen d = some (.int (l.length : Int)) := by rcases hd with rfl | rfl <;> rfl
  obtain ⟨t5, t6, e⟩ := check_loop (part := part) (few := (few : Int)) (most := (most : Int)) hw hn l 0 .un .un hl
  have c1 : decide ((few : Int) ≤ (l.length : Int)) = decide (few ≤ l.length) := decide_eq_decide.mpr (by omega)
  have c2 : decide ((l.length : Int) ≤ (most : Int)) = decide (l.length ≤ most) := decide_eq_decide.mpr (by omega)
  clear hl hw hn
  unfold Φ_check_machine F_check_machine L_check_machine_1
  generalize decide (few ≤ l.length) = x at c1 ⊢
  generalize decide (l.length ≤ most) = y at c2 ⊢
  generalize firstBad (l.length : Int) ws 0 l = f at e ⊢
  unfold toldC
  rcases hd with rfl | rfl <;> cases x <;> cases y <;> cases f <;> walk_at "ev"
theorem check_any {part : Str} {m : Mac} {few most : Nat} {ws : List Str} (hm : m.Ok) (hw : okWords ws) : Φ_check_machine [.str part, m.d, .int (few : Int), .int (most : Int), .ctup (ws.map D.str)] = toldC part (faultM few most ws m) := by
  cases m with
  | ls xs => exact check_seq hw hm (.inl rfl)
  | tp xs => exact check_seq hw hm (.inr rfl)
  | ot x =>
    obtain ⟨t, h, ht⟩ := hm
    have b2 : (2 ≤ 1000) = True := eq_true (by decide)
    clear hw
    show _ = toldC part (some .non)
    have hd : (Mac.ot x).d = x := rfl
    rw [hd]
    unfold Φ_check_machine F_check_machine toldC
    rcases ht with rfl | rfl | rfl | rfl | rfl <;> walk_at "ev"
end Pg
set_option Elab.async false
set_option linter.all false
set_option maxRecDepth 100000
set_option maxHeartbeats 1000000
namespace Pg
open PySem L2 Sb Vl
local macro_rules | `(tactic| walk_at "ev") => `(tactic| simp only [Vl.runV, Vl.mkEnv, Vl.Res.of, Vl.Res.quiet, Vl.Res.val, Vl.ioAt, Vl.fSeq, Vl.fIte, Vl.fAsg, Vl.fVar, Vl.fC, Vl.fOp, Vl.fIxO, Vl.fPutL, Vl.fRet, Vl.fRetW, Vl.fRetO, Vl.fRetN, Vl.fLst, Vl.fTup, Vl.fB, Vl.fTru, Vl.fCB, Vl.fCons, Vl.fNil, Vl.o1, Vl.o2, Vl.oI, Vl.oIC, Vl.slotL, Vl.slotO, Vl.own, Vl.Pat.put, Vl.Pat.puts, Vl.Out.bind, Vl.Out.opt, Vl.fNx, Vl.fCt, Vl.fBk, Vl.fPar, Vl.fCall, Vl.fCallN, Vl.fCallL, Vl.fSetN, Vl.gIo, Vl.gCn, Vl.gNl, Vl.agDs, Vl.agD, Vl.ioSlots, Vl.putAll, Vl.put1, Vl.Ag.isIo, Vl.fAnd, Vl.fOr, Vl.fNot, Vl.fAndT, Vl.fOrT, Vl.fNotT, Vl.fChain, Vl.fIsi, Vl.fIsi2, Vl.fUn, Vl.fDrop, Vl.fApp, Vl.fLenO, Vl.fMake, Vl.fRaise, Vl.fFldS, Vl.fDInO, Vl.fDPutO, Vl.fDGetO, Vl.fPop, Vl.fListD, Vl.fDOne, Vl.fDNewK, Vl.isi, Vl.bOf, Vl.sOf, Vl.fFmt, Vl.fJs, Vl.oFmt, Vl.fM1, Vl.fM0, Vl.fFor, Vl.fItems, Vl.fEnum, Vl.fSl, Vl.fPart, Vl.fNoPart, Vl.fNeg, Vl.fAugI, Vl.fInO, Vl.fYes, Vl.fTruO, Vl.fComp, Vl.fCompO, Vl.calmE, Vl.wipeE, Vl.backE, Vl.oIsN, Vl.oStr, ↓Vl.fRng1_one, Vl.oLen_lst, Vl.oLen_tup, Vl.oLen_ctup, Vl.oLen_scr, Vl.oIx_lst, Vl.oIx_tup, Vl.oIx_ctup, Vl.oIx_scr, Vl.oInt_int, Vl.oInt_bl, Vl.oAbs_int, Vl.oMax_int, Vl.oMin_int, Vl.oTuple_lst, Vl.oTuple_tup, Vl.oList_lst, Vl.oList_tup, Vl.oNeg_int, Vl.ty_non, Vl.ty_bl, Vl.ty_int, Vl.ty_str, Vl.ty_tup, Vl.ty_ctup, Vl.ty_lst, Vl.ty_dk, Vl.ty_scr, Vl.tru_non, Vl.tru_bl, Vl.tru_int, Vl.tru_lst, Vl.tru_tup, Vl.oEqS_int, Vl.oEqS_str, Vl.oEqS_bl, Vl.oCat_lst, Vl.oCatA_tup, Vl.oSlT_tup, Vl.oSlL_lst, Vl.keyOf_int, Vl.keyOf_str, Vl.isNon_non, Vl.isNon_bl, Vl.isNon_int, Vl.isNon_str, Vl.isNon_tup, Vl.isNon_lst, Vl.oFld_ob, Vl.isOb_ob', Vl.atI_0, Vl.atI_1, Vl.atI_2, Vl.atI_3, Vl.ixN_0, Vl.ixN_1, Vl.ixN_2, List.zipWith, List.replicate, List.append, List.cons_append, List.nil_append, List.append_nil, List.getElem?_cons_zero, List.getElem?_cons_succ, List.getElem?_nil, List.set_cons_zero, List.set_cons_succ, List.length_cons, List.length_nil, List.map_cons, List.map_nil, List.nodup_cons, List.nodup_nil, List.not_mem_nil, List.reverse_cons, List.reverse_nil, Bool.false_eq_true, ite_true, ite_false, if_true, if_false, reduceIte, decide_true, decide_false, Bool.true_and, Bool.and_true, Bool.false_and, Bool.and_false, Bool.not_true, Bool.not_false, Bool.or_false, Bool.false_or, Bool.or_true, Bool.true_or, reduceCtorEq, not_false_eq_true, not_true_eq_false, and_self, and_true, true_and, or_false, or_true, Nat.reduceSub, Nat.reduceAdd, Nat.reduceLeDiff, Nat.zero_add, Option.map_some, Option.map_none, Option.bind_some, Option.bind_none, Option.isSome_some, Option.isSome_none, List.mem_cons, List.all_cons, List.all_nil, eq_self, Int.cast_ofNat_Int, Int.natCast_zero, Int.natCast_one, Int.reduceEq, Int.reduceLT, Int.reduceLE, Int.reduceAdd, Int.reduceSub, Int.reduceNeg, Nat.reduceEqDiff, *])
local macro_rules | `(tactic| walk_at "e0") => `(tactic| simp only [Vl.runV, Vl.mkEnv, Vl.Res.of, Vl.Res.quiet, Vl.Res.val, Vl.ioAt, Vl.fSeq, Vl.fIte, Vl.fAsg, Vl.fVar, Vl.fC, Vl.fOp, Vl.fIxO, Vl.fPutL, Vl.fRet, Vl.fRetW, Vl.fRetO, Vl.fRetN, Vl.fLst, Vl.fTup, Vl.fB, Vl.fTru, Vl.fCB, Vl.fCons, Vl.fNil, Vl.o1, Vl.o2, Vl.oI, Vl.oIC, Vl.slotL, Vl.slotO, Vl.own, Vl.Pat.put, Vl.Pat.puts, Vl.Out.bind, Vl.Out.opt, Vl.fNx, Vl.fCt, Vl.fBk, Vl.fPar, Vl.fCall, Vl.fCallN, Vl.fCallL, Vl.fSetN, Vl.gIo, Vl.gCn, Vl.gNl, Vl.agDs, Vl.agD, Vl.ioSlots, Vl.putAll, Vl.put1, Vl.Ag.isIo, Vl.fAnd, Vl.fOr, Vl.fNot, Vl.fAndT, Vl.fOrT, Vl.fNotT, Vl.fChain, Vl.fIsi, Vl.fIsi2, Vl.fUn, Vl.fDrop, Vl.fApp, Vl.fLenO, Vl.fMake, Vl.fRaise, Vl.fFldS, Vl.fDInO, Vl.fDPutO, Vl.fDGetO, Vl.fPop, Vl.fListD, Vl.fDOne, Vl.fDNewK, Vl.isi, Vl.bOf, Vl.sOf, Vl.fFmt, Vl.fJs, Vl.oFmt, Vl.fM1, Vl.fM0, Vl.fFor, Vl.fItems, Vl.fEnum, Vl.fSl, Vl.fPart, Vl.fNoPart, Vl.fNeg, Vl.fAugI, Vl.fInO, Vl.fYes, Vl.fTruO, Vl.fComp, Vl.fCompO, Vl.calmE, Vl.wipeE, Vl.backE, Vl.oIsN, Vl.oStr, ↓Vl.fRng1_one, Vl.oLen_lst, Vl.oLen_tup, Vl.oLen_ctup, Vl.oLen_scr, Vl.oIx_lst, Vl.oIx_tup, Vl.oIx_ctup, Vl.oIx_scr, Vl.oInt_int, Vl.oInt_bl, Vl.oAbs_int, Vl.oMax_int, Vl.oMin_int, Vl.oTuple_lst, Vl.oTuple_tup, Vl.oList_lst, Vl.oList_tup, Vl.oNeg_int, Vl.ty_non, Vl.ty_bl, Vl.ty_int, Vl.ty_str, Vl.ty_tup, Vl.ty_ctup, Vl.ty_lst, Vl.ty_dk, Vl.ty_scr, Vl.tru_non, Vl.tru_bl, Vl.tru_int, Vl.tru_lst, Vl.tru_tup, Vl.oEqS_int, Vl.oEqS_str, Vl.oEqS_bl, Vl.oCat_lst, Vl.oCatA_tup, Vl.oSlT_tup, Vl.oSlL_lst, Vl.keyOf_int, Vl.keyOf_str, Vl.isNon_non, Vl.isNon_bl, Vl.isNon_int, Vl.isNon_str, Vl.isNon_tup, Vl.isNon_lst, Vl.oFld_ob, Vl.isOb_ob', Vl.atI_0, Vl.atI_1, Vl.atI_2, Vl.atI_3, Vl.ixN_0, Vl.ixN_1, Vl.ixN_2, List.zipWith, List.replicate, List.append, List.cons_append, List.nil_append, List.append_nil, List.getElem?_cons_zero, List.getElem?_cons_succ, List.getElem?_nil, List.set_cons_zero, List.set_cons_succ, List.length_cons, List.length_nil, List.map_cons, List.map_nil, List.nodup_cons, List.nodup_nil, List.not_mem_nil, List.reverse_cons, List.reverse_nil, Bool.false_eq_true, ite_true, ite_false, if_true, if_false, reduceIte, decide_true, decide_false, Bool.true_and, Bool.and_true, Bool.false_and, Bool.and_false, Bool.not_true, Bool.not_false, Bool.or_false, Bool.false_or, Bool.or_true, Bool.true_or, reduceCtorEq, not_false_eq_true, not_true_eq_false, and_self, and_true, true_and, or_false, or_true, Nat.reduceSub, Nat.reduceAdd, Nat.reduceLeDiff, Nat.zero_add, Option.map_some, Option.map_none, Option.bind_some, Option.bind_none, Option.isSome_some, Option.isSome_none, List.mem_cons, List.all_cons, List.all_nil, eq_self, Int.cast_ofNat_Int, Int.natCast_zero, Int.natCast_one, Int.reduceEq, Int.reduceLT, Int.reduceLE, Int.reduceAdd, Int.reduceSub, Int.reduceNeg, Nat.reduceEqDiff])
theorem fol_pl {d : D} {n : Nat} {ws : List Str} (h : folD d (n : Int) ws = true) : ∃ p : Pl, d = plD p ∧ p.Ok n ws := by
  unfold folD at h
  split at h
  · rename_i s
    exact ⟨.word s, rfl, by simpa [Pl.Ok] using h⟩
  · rename_i i
    simp only [Bool.and_eq_true, decide_eq_true_eq] at h
    refine ⟨.num i.toNat, ?_, ?_⟩
    · show D.int i = .int (i.toNat : Int)
      rw [Int.toNat_of_nonneg h.1]
    · show i.toNat < n
      omega
  · cases h
theorem row_of {d : D} {n : Nat} {ws : List Str} (h : rowOkD d (n : Int) ws = true) : ∃ r : Row, d = rowD r ∧ r.Ok n ws := by
  unfold rowOkD at h
  split at h
  · rename_i p a b
    simp only [Bool.and_eq_true, Bool.or_eq_true, decide_eq_true_eq] at h
    obtain ⟨⟨h1, h2⟩, h3⟩ := h
    obtain ⟨pa, rfl, ha⟩ := fol_pl h2
    obtain ⟨pb, rfl, hb⟩ := fol_pl h3
    refine ⟨⟨p.toNat, pa, pb⟩, ?_, ?_, ha, hb⟩
    · show D.tup [.int p, plD pa, plD pb] = .tup [.int (p.toNat : Int), plD pa, plD pb]
      rw [Int.toNat_of_nonneg (by omega)]
    · show p.toNat = 0 ∨ p.toNat = 1
      omega
  · cases h
theorem none_rows {n : Nat} {ws : List Str} : ∀ {l : List D} {k : Nat}, firstBad (n : Int) ws k l = none → ∃ rs : List Row, l = rowsD rs ∧ ∀ r, r ∈ rs → r.Ok n ws
  | [], _, _ => ⟨[], rfl, fun r hr => by simp at hr⟩
  | d :: l, k, h => by
    unfold firstBad at h
    split at h
    · rename_i hb
      obtain ⟨r, rfl, hr⟩ := row_of hb
      obtain ⟨rs, rfl, hrs⟩ := none_rows h
      exact ⟨r :: rs, rfl, fun q hq => by
        rcases List.mem_cons.mp hq with rfl | hq
        · exact hr
        · exact hrs q hq⟩
    · cases h
theorem fault_rows {few most : Nat} {ws : List Str} {m : Mac} (h : faultM few most ws m = none) : ∃ rs : List Row, IsRows m.d rs ∧ few ≤ rs.length ∧ rs.length ≤ most ∧ (∀ r, r ∈ rs → r.Ok rs.length ws) ∧ m.rows = rowsD rs := by
  unfold faultM at h
  split at h
  · rename_i c
    simp only [Bool.and_eq_true, decide_eq_true_eq] at c
    obtain ⟨rs, e, hr⟩ := none_rows (Option.map_eq_none_iff.mp h)
    have el : m.rows.length = rs.length := by rw [e, rowsD_len]
    rw [el] at c hr
    refine ⟨rs, ?_, c.2.1, c.2.2, hr, e⟩
    cases m with
    | ls xs => exact .inl (by rw [← e]; rfl)
    | tp xs => exact .inr (by rw [← e]; rfl)
    | ot x => cases c.1
  · cases h
def badD (r : D) (part : Str) : Res := .exc "BadEnd" [r, .str part] [.ob "End" [], .non, .non]
theorem init_hearer {h s : Mac} (hh : h.Ok) {r : D} (e : faultM 2 100 hearerWords h = some r) : Φ_End_init [.ob "End" [], h.d, s.d] = badD r "hearer" := by
  have c1 := check_any (part := "hearer") (few := 2) (most := 100) hh (.inl rfl)
  rw [e] at c1
  have c1 : Φ_check_machine [.str "hearer", h.d, .int 2, .int 100, .ctup [.str "taken", .str "lost"]] = .exc "BadEnd" [r, .str "hearer"] [.non, .non, .non, .non, .non] := c1
  clear hh e
  unfold Φ_End_init F_End_init badD
  walk_at "ev"
theorem init_sender {h s : Mac} (hh : h.Ok) (hs : s.Ok) {r : D} (e0 : faultM 2 100 hearerWords h = none) (e : faultM 1 100 senderWords s = some r) : Φ_End_init [.ob "End" [], h.d, s.d] = badD r "sender" := by
  have c0 := check_any (part := "hearer") (few := 2) (most := 100) hh (.inl rfl)
  rw [e0] at c0
  have c0 : Φ_check_machine [.str "hearer", h.d, .int 2, .int 100, .ctup [.str "taken", .str "lost"]] = .ret false .non [.non, .non, .non, .non, .non] := c0
  have c1 := check_any (part := "sender") (few := 1) (most := 100) hs (.inr rfl)
  rw [e] at c1
  have c1 : Φ_check_machine [.str "sender", s.d, .int 1, .int 100, .ctup [.str "done", .str "again"]] = .exc "BadEnd" [r, .str "sender"] [.non, .non, .non, .non, .non] := c1
  clear hh hs e e0
  unfold Φ_End_init F_End_init badD
  walk_at "ev"
theorem init_body {h1 h2 : D} {hs ss : List Row} (m1 : IsRows h1 hs) (m2 : IsRows h2 ss) (a1 : 2 ≤ hs.length) (a2 : hs.length ≤ 100) (a3 : ∀ r, r ∈ hs → r.Ok hs.length hearerWords) (a4 : Reach hs 1 (.word "taken")) (k2 : SenderOk ss) : Φ_End_init [.ob "End" [], h1, h2] = badD .non "body" := by
  obtain ⟨b1, b2, b3⟩ := k2
  have c1 := checked (part := "hearer") (few := 2) (most := 100) m1 (.inl rfl) a1 a2 a3
  have c2 := checked (part := "sender") (few := 1) (most := 100) m2 (.inr rfl) b1 b2 b3
  obtain ⟨fs, r1, r2, r3⟩ := reached_ok (b := 1) m1 (by omega) a2 a3
  have t1 := taken_in (fs := fs) (fun p hp => by
    have ok := reach_ok a3 (by omega) ((r3 p).mp hp)
    exact plD_eokN (.inl rfl) ok)
  rw [decide_eq_true ((r3 _).mpr a4)] at t1
  have c1 : Φ_check_machine [.str "hearer", h1, .int 2, .int 100, .ctup [.str "taken", .str "lost"]] = .ret false .non [.non, .non, .non, .non, .non] := c1
  have c2 : Φ_check_machine [.str "sender", h2, .int 1, .int 100, .ctup [.str "done", .str "again"]] = .ret false .non [.non, .non, .non, .non, .non] := c2
  have r1 : Φ_reached [h1, .int 1] = .ret true (.lst (fs.map plD)) [.non, .non] := r1
  have b0 : (2 ≤ 1000) = True := eq_true (by decide)
  clear a1 a2 a3 a4 b1 b2 b3 r3 m1 m2
  unfold Φ_End_init F_End_init badD
  walk_at "ev"
end Pg
set_option Elab.async false
set_option linter.all false
set_option maxRecDepth 100000
set_option maxHeartbeats 1000000
namespace Pg
open PySem L2 Sb Vl
open Sb hiding plD rowD rowsD
end Pg
set_option Elab.async false
set_option linter.all false
set_option maxRecDepth 100000
set_option maxHeartbeats 2000000
namespace K07
open PySem L2 Vl Pg
open Sb hiding plD rowD rowsD firstBad
local macro_rules | `(tactic| walk_at "ev") => `(tactic| simp only [Vl.runV, Vl.mkEnv, Vl.Res.of, Vl.Res.quiet, Vl.Res.val, Vl.ioAt, Vl.fSeq, Vl.fIte, Vl.fAsg, Vl.fVar, Vl.fC, Vl.fOp, Vl.fIxO, Vl.fPutL, Vl.fRet, Vl.fRetW, Vl.fRetO, Vl.fRetN, Vl.fLst, Vl.fTup, Vl.fB, Vl.fTru, Vl.fCB, Vl.fCons, Vl.fNil, Vl.o1, Vl.o2, Vl.oI, Vl.oIC, Vl.slotL, Vl.slotO, Vl.own, Vl.Pat.put, Vl.Pat.puts, Vl.Out.bind, Vl.Out.opt, Vl.fNx, Vl.fCt, Vl.fBk, Vl.fPar, Vl.fCall, Vl.fCallN, Vl.fCallL, Vl.fSetN, Vl.gIo, Vl.gCn, Vl.gNl, Vl.agDs, Vl.agD, Vl.ioSlots, Vl.putAll, Vl.put1, Vl.Ag.isIo, Vl.fAnd, Vl.fOr, Vl.fNot, Vl.fAndT, Vl.fOrT, Vl.fNotT, Vl.fChain, Vl.fIsi, Vl.fIsi2, Vl.fUn, Vl.fDrop, Vl.fApp, Vl.fLenO, Vl.fMake, Vl.fRaise, Vl.fFldS, Vl.fDInO, Vl.fDPutO, Vl.fDGetO, Vl.fPop, Vl.fListD, Vl.fDOne, Vl.fDNewK, Vl.isi, Vl.bOf, Vl.sOf, Vl.fFmt, Vl.fJs, Vl.oFmt, Vl.fM1, Vl.fM0, Vl.fFor, Vl.fItems, Vl.fEnum, Vl.fSl, Vl.fPart, Vl.fNoPart, Vl.fNeg, Vl.fAugI, Vl.fInO, Vl.fYes, Vl.fTruO, Vl.fComp, Vl.fCompO, Vl.calmE, Vl.wipeE, Vl.backE, Vl.oIsN, Vl.oStr, Vl.fMakeL, Vl.fCM, Vl.fCMK, Vl.resE, Vl.fItemsS, Vl.fPar3, Vl.fTry2, Vl.hand1, Vl.gK, Vl.gF, Vl.gNil, Vl.gCons, Vl.gTup, Vl.gLst, Vl.gIte, Vl.fSlO, ↓Vl.fRng1_one, Vl.oLen_lst, Vl.oLen_tup, Vl.oLen_ctup, Vl.oLen_scr, Vl.oIx_lst, Vl.oIx_tup, Vl.oIx_ctup, Vl.oIx_scr, Vl.oInt_int, Vl.oInt_bl, Vl.oAbs_int, Vl.oMax_int, Vl.oMin_int, Vl.oTuple_lst, Vl.oTuple_tup, Vl.oList_lst, Vl.oList_tup, Vl.oNeg_int, Vl.ty_non, Vl.ty_bl, Vl.ty_int, Vl.ty_str, Vl.ty_tup, Vl.ty_ctup, Vl.ty_lst, Vl.ty_dk, Vl.ty_scr, Vl.tru_non, Vl.tru_bl, Vl.tru_int, Vl.tru_lst, Vl.tru_tup, Vl.oEqS_int, Vl.oEqS_str, Vl.oEqS_bl, Vl.oCat_lst, Vl.oCatA_tup, Vl.oSlT_tup, Vl.oSlL_lst, Vl.keyOf_int, Vl.keyOf_str, Vl.isNon_non, Vl.isNon_bl, Vl.isNon_int, Vl.isNon_str, Vl.isNon_tup, Vl.isNon_lst, Vl.oFld_ob, Vl.isOb_ob', Vl.atI_0, Vl.atI_1, Vl.atI_2, Vl.atI_3, Vl.ixN_0, Vl.ixN_1, Vl.ixN_2, List.zipWith, List.replicate, List.append, List.cons_append, List.nil_append, List.append_nil, List.getElem?_cons_zero, List.getElem?_cons_succ, List.getElem?_nil, List.set_cons_zero, List.set_cons_succ, List.length_cons, List.length_nil, List.map_cons, List.map_nil, List.nodup_cons, List.nodup_nil, List.not_mem_nil, List.reverse_cons, List.reverse_nil, Bool.false_eq_true, ite_true, ite_false, if_true, if_false, reduceIte, decide_true, decide_false, Bool.true_and, Bool.and_true, Bool.false_and, Bool.and_false, Bool.not_true, Bool.not_false, Bool.or_false, Bool.false_or, Bool.or_true, Bool.true_or, reduceCtorEq, not_false_eq_true, not_true_eq_false, and_self, and_true, true_and, or_false, or_true, Nat.reduceSub, Nat.reduceAdd, Nat.reduceLeDiff, Nat.zero_add, Option.map_some, Option.map_none, Option.bind_some, Option.bind_none, Option.isSome_some, Option.isSome_none, List.mem_cons, List.all_cons, List.all_nil, eq_self, Int.cast_ofNat_Int, Int.natCast_zero, Int.natCast_one, Int.reduceEq, Int.reduceLT, Int.reduceLE, Int.reduceAdd, Int.reduceSub, Int.reduceNeg, Nat.reduceEqDiff, *])
local macro_rules | `(tactic| walk_at "e0") => `(tactic| simp only [Vl.runV, Vl.mkEnv, Vl.Res.of, Vl.Res.quiet, Vl.Res.val, Vl.ioAt, Vl.fSeq, Vl.fIte, Vl.fAsg, Vl.fVar, Vl.fC, Vl.fOp, Vl.fIxO, Vl.fPutL, Vl.fRet, Vl.fRetW, Vl.fRetO, Vl.fRetN, Vl.fLst, Vl.fTup, Vl.fB, Vl.fTru, Vl.fCB, Vl.fCons, Vl.fNil, Vl.o1, Vl.o2, Vl.oI, Vl.oIC, Vl.slotL, Vl.slotO, Vl.own, Vl.Pat.put, Vl.Pat.puts, Vl.Out.bind, Vl.Out.opt, Vl.fNx, Vl.fCt, Vl.fBk, Vl.fPar, Vl.fCall, Vl.fCallN, Vl.fCallL, Vl.fSetN, Vl.gIo, Vl.gCn, Vl.gNl, Vl.agDs, Vl.agD, Vl.ioSlots, Vl.putAll, Vl.put1, Vl.Ag.isIo, Vl.fAnd, Vl.fOr, Vl.fNot, Vl.fAndT, Vl.fOrT, Vl.fNotT, Vl.fChain, Vl.fIsi, Vl.fIsi2, Vl.fUn, Vl.fDrop, Vl.fApp, Vl.fLenO, Vl.fMake, Vl.fRaise, Vl.fFldS, Vl.fDInO, Vl.fDPutO, Vl.fDGetO, Vl.fPop, Vl.fListD, Vl.fDOne, Vl.fDNewK, Vl.isi, Vl.bOf, Vl.sOf, Vl.fFmt, Vl.fJs, Vl.oFmt, Vl.fM1, Vl.fM0, Vl.fFor, Vl.fItems, Vl.fEnum, Vl.fSl, Vl.fPart, Vl.fNoPart, Vl.fNeg, Vl.fAugI, Vl.fInO, Vl.fYes, Vl.fTruO, Vl.fComp, Vl.fCompO, Vl.calmE, Vl.wipeE, Vl.backE, Vl.oIsN, Vl.oStr, Vl.fMakeL, Vl.fCM, Vl.fCMK, Vl.resE, Vl.fItemsS, Vl.fPar3, Vl.fTry2, Vl.hand1, Vl.gK, Vl.gF, Vl.gNil, Vl.gCons, Vl.gTup, Vl.gLst, Vl.gIte, Vl.fSlO, ↓Vl.fRng1_one, Vl.oLen_lst, Vl.oLen_tup, Vl.oLen_ctup, Vl.oLen_scr, Vl.oIx_lst, Vl.oIx_tup, Vl.oIx_ctup, Vl.oIx_scr, Vl.oInt_int, Vl.oInt_bl, Vl.oAbs_int, Vl.oMax_int, Vl.oMin_int, Vl.oTuple_lst, Vl.oTuple_tup, Vl.oList_lst, Vl.oList_tup, Vl.oNeg_int, Vl.ty_non, Vl.ty_bl, Vl.ty_int, Vl.ty_str, Vl.ty_tup, Vl.ty_ctup, Vl.ty_lst, Vl.ty_dk, Vl.ty_scr, Vl.tru_non, Vl.tru_bl, Vl.tru_int, Vl.tru_lst, Vl.tru_tup, Vl.oEqS_int, Vl.oEqS_str, Vl.oEqS_bl, Vl.oCat_lst, Vl.oCatA_tup, Vl.oSlT_tup, Vl.oSlL_lst, Vl.keyOf_int, Vl.keyOf_str, Vl.isNon_non, Vl.isNon_bl, Vl.isNon_int, Vl.isNon_str, Vl.isNon_tup, Vl.isNon_lst, Vl.oFld_ob, Vl.isOb_ob', Vl.atI_0, Vl.atI_1, Vl.atI_2, Vl.atI_3, Vl.ixN_0, Vl.ixN_1, Vl.ixN_2, List.zipWith, List.replicate, List.append, List.cons_append, List.nil_append, List.append_nil, List.getElem?_cons_zero, List.getElem?_cons_succ, List.getElem?_nil, List.set_cons_zero, List.set_cons_succ, List.length_cons, List.length_nil, List.map_cons, List.map_nil, List.nodup_cons, List.nodup_nil, List.not_mem_nil, List.reverse_cons, List.reverse_nil, Bool.false_eq_true, ite_true, ite_false, if_true, if_false, reduceIte, decide_true, decide_false, Bool.true_and, Bool.and_true, Bool.false_and, Bool.and_false, Bool.not_true, Bool.not_false, Bool.or_false, Bool.false_or, Bool.or_true, Bool.true_or, reduceCtorEq, not_false_eq_true, not_true_eq_false, and_self, and_true, true_and, or_false, or_true, Nat.reduceSub, Nat.reduceAdd, Nat.reduceLeDiff, Nat.zero_add, Option.map_some, Option.map_none, Option.bind_some, Option.bind_none, Option.isSome_some, Option.isSome_none, List.mem_cons, List.all_cons, List.all_nil, eq_self, Int.cast_ofNat_Int, Int.natCast_zero, Int.natCast_one, Int.reduceEq, Int.reduceLT, Int.reduceLE, Int.reduceAdd, Int.reduceSub, Int.reduceNeg, Nat.reduceEqDiff])
/-- rows of some machine -/
def Rows (rs : List Row) : Prop := rs ≠ [] ∧ rs.length ≤ 100 ∧ ∀ r, r ∈ rs → smallRow r ∧ (r.put = 0 ∨ r.put = 1) ∧ eokN 0 (plD r.a) ∧ eokN 0 (plD r.b)
theorem Rows.h {hs : List Row} (k : HearerOk hs) : Rows hs := ⟨fun z => by
  have := k.1
  rw [z] at this
  simp at this, k.2.1, fun r hr => ⟨smallRow_of (smallW (.inl rfl)) (Nat.le_trans k.2.1 (by decide)) (k.2.2.1 r hr), (k.2.2.1 r hr).1, plD_eokN (.inl rfl) (k.2.2.1 r hr).2.1, plD_eokN (.inl rfl) (k.2.2.1 r hr).2.2⟩⟩
theorem Rows.s {ss : List Row} (k : SenderOk ss) : Rows ss := ⟨fun z => by
  have := k.1
  rw [z] at this
  simp at this, k.2.1, fun r hr => ⟨smallRow_of (smallW (.inr rfl)) (Nat.le_trans k.2.1 (by decide)) (k.2.2 r hr), (k.2.2 r hr).1, plD_eokN (.inr rfl) (k.2.2 r hr).2.1, plD_eokN (.inr rfl) (k.2.2 r hr).2.2⟩⟩
theorem read_any {ps qs : List Row} (h1 : Rows ps) (h2 : Rows qs) : readM (endT ps qs) = some (ps, qs) := by
  have s1 : ∀ r, r ∈ ps → smallRow r := fun r hr => (h1.2.2 r hr).1
  have s2 : ∀ r, r ∈ qs → smallRow r := fun r hr => (h2.2.2 r hr).1
  unfold readM
  rw [end_split s1 s2]
  show (allS ((rowsIn (machT ps)).map readRow)).bind _ = _
  rw [rows_in s1 h1.1, all_read fun r hr => ⟨s1 r hr, (h1.2.2 r hr).2.1⟩, Option.bind_some]
  rw [rows_in s2 h2.1, all_read fun r hr => ⟨s2 r hr, (h2.2.2 r hr).2.1⟩]
  rfl
theorem fine_any {ps qs : List Row} (h1 : Rows ps) (h2 : Rows qs) : Fine 100000 (endT ps qs) := by
  have s1 : ∀ r, r ∈ ps → smallRow r := fun r hr => (h1.2.2 r hr).1
  have s2 : ∀ r, r ∈ qs → smallRow r := fun r hr => (h2.2.2 r hr).1
  have l1 := machT_fits s1 (Nat.le_trans h1.2.1 (by decide))
  have l2 := machT_fits s2 (Nat.le_trans h2.2.1 (by decide))
  have e : (" | " : Str).length = 3 := by decide +kernel
  have e0 : Str.empty.length = 0 := by decide +kernel
  refine ⟨strOk_of (end_asc s1 s2), ?_⟩
  unfold endT
  rw [strLen_append, strLen_append, strLen_append, e, e0]
  omega
theorem fine_of {d : D} (h0 : d.ty.isSome = true) (h : eokN 0 d) : D.fine d = true := by
  unfold D.fine
  rw [h0, h.eok (by omega)]
  rfl
theorem fine_pl {p : Pl} (h : eokN 0 (plD p)) : D.fine (plD p) = true := fine_of (by cases p <;> rfl) h
theorem good_row {r : Row} (h : eokN 0 (plD r.a) ∧ eokN 0 (plD r.b)) : goodRow (Pg.rowD r) := by
  refine ⟨rfl, fun l z => ?_, fun l z x hx => ?_⟩
  · cases z
  · cases z
    simp only [List.mem_cons, List.not_mem_nil, or_false] at hx
    rcases hx with rfl | rfl | rfl
    · exact fine_of rfl (eokN_int _)
    · exact fine_pl h.1
    · exact fine_pl h.2
/-- an error's row -/
def Rw (r : D) : Prop := r = .non ∨ ∃ i : Nat, r = .int (i : Int)
theorem fault_rw {few : Nat} {ws : List Str} {m : Mac} {r : D} (h : faultM few 100 ws m = some r) : Rw r := by
  unfold faultM at h
  split at h
  · obtain ⟨i, hi, rfl⟩ := Option.map_eq_some_iff.mp h
    exact .inr ⟨i, rfl⟩
  · cases h
    exact .inl rfl
theorem rowD_inj {p q : Row} (h : Pg.rowD p = Pg.rowD q) : p = q := by
  have e := eqv_rowD p q
  rw [h, eqv_rowD q q, decide_eq_true rfl] at e
  exact of_decide_eq_true e.symm
theorem rowsD_inj : ∀ {ps qs : List Row}, Pg.rowsD ps = Pg.rowsD qs → ps = qs
  | [], [], _ => rfl
  | [], _ :: _, h => by cases h
  | _ :: _, [], h => by cases h
  | p :: ps, q :: qs, h => by
    have h : Pg.rowD p :: Pg.rowsD ps = Pg.rowD q :: Pg.rowsD qs := h
    injection h with h1 h2
    rw [rowD_inj h1, rowsD_inj h2]
/-- an end of any rows: made, or refused, as tuples and as lists -/
theorem same_init {ps qs : List Row} (h1 : Rows ps) (h2 : Rows qs) :
    (∃ r part, Φ_End_init [.ob "End" [], .tup (Pg.rowsD ps), .tup (Pg.rowsD qs)] = badD r part ∧ Φ_End_init [.ob "End" [], .lst (Pg.rowsD ps), .lst (Pg.rowsD qs)] = badD r part ∧ Rw r ∧ PyData.strOk part = true) ∨
    (HearerOk ps ∧ SenderOk qs) := by
  have g : ∀ {rs : List Row}, Rows rs → ∀ x, x ∈ Pg.rowsD rs → goodRow x := fun h x hx => by
    obtain ⟨r, hr, rfl⟩ := List.mem_map.mp hx
    exact good_row (h.2.2 r hr).2.2
  have w : PyData.strOk ("hearer" : Str) = true ∧ PyData.strOk ("sender" : Str) = true ∧ PyData.strOk ("body" : Str) = true := by decide +kernel
  have ft : ∀ few ws (rs : List Row), faultM few 100 ws (.tp (Pg.rowsD rs)) = faultM few 100 ws (.ls (Pg.rowsD rs)) := fun _ _ _ => rfl
  cases e1 : faultM 2 100 hearerWords (.ls (Pg.rowsD ps)) with
  | some r =>
    have a := init_hearer (h := .tp (Pg.rowsD ps)) (s := .tp (Pg.rowsD qs)) (g h1) ((ft _ _ _).trans e1)
    have b := init_hearer (h := .ls (Pg.rowsD ps)) (s := .ls (Pg.rowsD qs)) (g h1) e1
    exact .inl ⟨r, _, a, b, fault_rw e1, w.1⟩
  | none =>
    cases e2 : faultM 1 100 senderWords (.ls (Pg.rowsD qs)) with
    | some r =>
      have a := init_sender (h := .tp (Pg.rowsD ps)) (s := .tp (Pg.rowsD qs)) (g h1) (g h2) ((ft _ _ _).trans e1) ((ft _ _ _).trans e2)
      have b := init_sender (h := .ls (Pg.rowsD ps)) (s := .ls (Pg.rowsD qs)) (g h1) (g h2) e1 e2
      exact .inl ⟨r, _, a, b, fault_rw e2, w.2.1⟩
    | none =>
      obtain ⟨rs, m1, a1, a2, a3, ea⟩ := fault_rows e1
      obtain ⟨ss, m2, b1, b2, b3, eb⟩ := fault_rows e2
      obtain rfl := rowsD_inj (show Pg.rowsD ps = Pg.rowsD rs from ea)
      obtain rfl := rowsD_inj (show Pg.rowsD qs = Pg.rowsD ss from eb)
      by_cases hr : Reach ps 1 (.word "taken")
      · exact .inl ⟨.non, _, init_body (.inr rfl) (.inr rfl) a1 a2 a3 hr ⟨b1, b2, b3⟩, init_body (.inl rfl) (.inl rfl) a1 a2 a3 hr ⟨b1, b2, b3⟩, .inl rfl, w.2.2⟩
      · exact .inr ⟨⟨a1, a2, a3, hr⟩, b1, b2, b3⟩
/-- what is told of them -/
def told7 : Ev D → Ev D := fTold (fun d => Vl.o1 (oStrOwn "End" Φ_End_str) [d]) (exOne "BadEnd" (gTup (gCons (gF 1) (gCons (gF 0) gNil))))
theorem same_told {ps qs : List Row} (h1 : Rows ps) (h2 : Rows qs) : ∃ z, z.eok = true ∧
    (∀ (f : Ev (List D)) (env : List Slot), f env = .val [.tup (Pg.rowsD ps), .tup (Pg.rowsD qs)] env → told7 (fMake "End" [true, false, false] Φ_End_init [] f) env = .val z env) ∧
    (∀ (f : Ev (List D)) (env : List Slot), f env = .val [.str (endT ps qs)] env → told7 (fCM "End" [false, false] Φ_End_from_text f) env = .val z env) := by
  have hft := from_text (fine_any h1 h2)
  unfold fromT at hft
  rw [read_any h1 h2] at hft
  have hft : Φ_End_from_text [.cl "End", .str (endT ps qs)] = madeOf (Φ_End_init [.ob "End" [], .lst (Pg.rowsD ps), .lst (Pg.rowsD qs)]) := hft
  rcases same_init h1 h2 with ⟨r, part, a, b, hr, hp⟩ | ⟨k1, k2⟩
  · rw [b] at hft
    have hft : Φ_End_from_text [.cl "End", .str (endT ps qs)] = .exc "BadEnd" [r, .str part] [.non, .non] := hft
    refine ⟨.tup [.str part, r], (eokN_tup (n := 0) fun d hd => ?_).eok (by omega), fun f env hf => ?_, fun f env hf => ?_⟩
    · simp only [List.mem_cons, List.not_mem_nil, or_false] at hd
      rcases hd with rfl | rfl
      · exact eokN_str hp
      · rcases hr with rfl | ⟨i, rfl⟩
        · exact eokN_non
        · exact eokN_int _
    · unfold badD at a
      unfold told7 fTold fMake
      rw [hf]
      show (match (match Φ_End_init [.ob "End" [], .tup (Pg.rowsD ps), .tup (Pg.rowsD qs)] with
        | .ret false .non (z :: _) => .val z env
        | .exc c as _ => .exc c as env
        | _ => .stuck : Out D) with
        | .stuck => .stuck
        | .val d e => Out.opt _ e
        | .exc c l e => Out.opt _ e : Out D) = _
      rw [a]
      rfl
    · unfold told7 fTold fCM
      rw [hf]
      show (match resE (Φ_End_from_text [.cl "End", .str (endT ps qs)]) env with
        | .stuck => .stuck
        | .val d e => Out.opt _ e
        | .exc c l e => Out.opt _ e : Out D) = _
      rw [hft]
      rfl
  · rw [made (.inl rfl) (.inl rfl) k1 k2] at hft
    have hft : Φ_End_from_text [.cl "End", .str (endT ps qs)] = .ret false (endD ps qs) [.non, .non] := hft
    have hst := str_own k1 k2
    refine ⟨.str (endT ps qs), (eokN_str (endT_fine k1 k2).1).eok (by omega), fun f env hf => ?_, fun f env hf => ?_⟩
    · unfold told7 fTold fMake
      rw [hf]
      show (match (match Φ_End_init [.ob "End" [], .tup (Pg.rowsD ps), .tup (Pg.rowsD qs)] with
        | .ret false .non (z :: _) => .val z env
        | .exc c as _ => .exc c as env
        | _ => .stuck : Out D) with
        | .stuck => .stuck
        | .val d e => Out.opt (oStrOwn "End" Φ_End_str d) e
        | .exc c l e => Out.opt _ e : Out D) = _
      rw [made (.inr rfl) (.inr rfl) k1 k2]
      show Out.opt (oStrOwn "End" Φ_End_str (endD ps qs)) env = _
      rw [hst]
      rfl
    · unfold told7 fTold fCM
      rw [hf]
      show (match resE (Φ_End_from_text [.cl "End", .str (endT ps qs)]) env with
        | .stuck => .stuck
        | .val d e => Out.opt (oStrOwn "End" Φ_End_str d) e
        | .exc c l e => Out.opt _ e : Out D) = _
      rw [hft]
      show Out.opt (oStrOwn "End" Φ_End_str (endD ps qs)) env = _
      rw [hst]
      rfl
end K07
set_option Elab.async false
set_option linter.all false
set_option maxRecDepth 100000
set_option maxHeartbeats 2000000
namespace K07
open PySem L2 Vl Pg
open Sb hiding plD rowD rowsD firstBad
local macro_rules | `(tactic| walk_at "ev") => `(tactic| simp only [Vl.runV, Vl.mkEnv, Vl.Res.of, Vl.Res.quiet, Vl.Res.val, Vl.ioAt, Vl.fSeq, Vl.fIte, Vl.fAsg, Vl.fVar, Vl.fC, Vl.fOp, Vl.fIxO, Vl.fPutL, Vl.fRet, Vl.fRetW, Vl.fRetO, Vl.fRetN, Vl.fLst, Vl.fTup, Vl.fB, Vl.fTru, Vl.fCB, Vl.fCons, Vl.fNil, Vl.o1, Vl.o2, Vl.oI, Vl.oIC, Vl.slotL, Vl.slotO, Vl.own, Vl.Pat.put, Vl.Pat.puts, Vl.Out.bind, Vl.Out.opt, Vl.fNx, Vl.fCt, Vl.fBk, Vl.fPar, Vl.fCall, Vl.fCallN, Vl.fCallL, Vl.fSetN, Vl.gIo, Vl.gCn, Vl.gNl, Vl.agDs, Vl.agD, Vl.ioSlots, Vl.putAll, Vl.put1, Vl.Ag.isIo, Vl.fAnd, Vl.fOr, Vl.fNot, Vl.fAndT, Vl.fOrT, Vl.fNotT, Vl.fChain, Vl.fIsi, Vl.fIsi2, Vl.fUn, Vl.fDrop, Vl.fApp, Vl.fLenO, Vl.fMake, Vl.fRaise, Vl.fFldS, Vl.fDInO, Vl.fDPutO, Vl.fDGetO, Vl.fPop, Vl.fListD, Vl.fDOne, Vl.fDNewK, Vl.isi, Vl.bOf, Vl.sOf, Vl.fFmt, Vl.fJs, Vl.oFmt, Vl.fM1, Vl.fM0, Vl.fFor, Vl.fItems, Vl.fEnum, Vl.fSl, Vl.fPart, Vl.fNoPart, Vl.fNeg, Vl.fAugI, Vl.fInO, Vl.fYes, Vl.fTruO, Vl.fComp, Vl.fCompO, Vl.calmE, Vl.wipeE, Vl.backE, Vl.oIsN, Vl.oStr, Vl.fMakeL, Vl.fCM, Vl.fCMK, Vl.resE, Vl.fItemsS, Vl.fPar3, Vl.fTry2, Vl.hand1, Vl.gK, Vl.gF, Vl.gNil, Vl.gCons, Vl.gTup, Vl.gLst, Vl.gIte, Vl.fSlO, ↓Vl.fRng1_one, Vl.oLen_lst, Vl.oLen_tup, Vl.oLen_ctup, Vl.oLen_scr, Vl.oIx_lst, Vl.oIx_tup, Vl.oIx_ctup, Vl.oIx_scr, Vl.oInt_int, Vl.oInt_bl, Vl.oAbs_int, Vl.oMax_int, Vl.oMin_int, Vl.oTuple_lst, Vl.oTuple_tup, Vl.oList_lst, Vl.oList_tup, Vl.oNeg_int, Vl.ty_non, Vl.ty_bl, Vl.ty_int, Vl.ty_str, Vl.ty_tup, Vl.ty_ctup, Vl.ty_lst, Vl.ty_dk, Vl.ty_scr, Vl.tru_non, Vl.tru_bl, Vl.tru_int, Vl.tru_lst, Vl.tru_tup, Vl.oEqS_int, Vl.oEqS_str, Vl.oEqS_bl, Vl.oCat_lst, Vl.oCatA_tup, Vl.oSlT_tup, Vl.oSlL_lst, Vl.keyOf_int, Vl.keyOf_str, Vl.isNon_non, Vl.isNon_bl, Vl.isNon_int, Vl.isNon_str, Vl.isNon_tup, Vl.isNon_lst, Vl.oFld_ob, Vl.isOb_ob', Vl.atI_0, Vl.atI_1, Vl.atI_2, Vl.atI_3, Vl.ixN_0, Vl.ixN_1, Vl.ixN_2, List.zipWith, List.replicate, List.append, List.cons_append, List.nil_append, List.append_nil, List.getElem?_cons_zero, List.getElem?_cons_succ, List.getElem?_nil, List.set_cons_zero, List.set_cons_succ, List.length_cons, List.length_nil, List.map_cons, List.map_nil, List.nodup_cons, List.nodup_nil, List.not_mem_nil, List.reverse_cons, List.reverse_nil, Bool.false_eq_true, ite_true, ite_false, if_true, if_false, reduceIte, decide_true, decide_false, Bool.true_and, Bool.and_true, Bool.false_and, Bool.and_false, Bool.not_true, Bool.not_false, Bool.or_false, Bool.false_or, Bool.or_true, Bool.true_or, reduceCtorEq, not_false_eq_true, not_true_eq_false, and_self, and_true, true_and, or_false, or_true, Nat.reduceSub, Nat.reduceAdd, Nat.reduceLeDiff, Nat.zero_add, Option.map_some, Option.map_none, Option.bind_some, Option.bind_none, Option.isSome_some, Option.isSome_none, List.mem_cons, List.all_cons, List.all_nil, eq_self, Int.cast_ofNat_Int, Int.natCast_zero, Int.natCast_one, Int.reduceEq, Int.reduceLT, Int.reduceLE, Int.reduceAdd, Int.reduceSub, Int.reduceNeg, Nat.reduceEqDiff, *])
local macro_rules | `(tactic| walk_at "e0") => `(tactic| simp only [Vl.runV, Vl.mkEnv, Vl.Res.of, Vl.Res.quiet, Vl.Res.val, Vl.ioAt, Vl.fSeq, Vl.fIte, Vl.fAsg, Vl.fVar, Vl.fC, Vl.fOp, Vl.fIxO, Vl.fPutL, Vl.fRet, Vl.fRetW, Vl.fRetO, Vl.fRetN, Vl.fLst, Vl.fTup, Vl.fB, Vl.fTru, Vl.fCB, Vl.fCons, Vl.fNil, Vl.o1, Vl.o2, Vl.oI, Vl.oIC, Vl.slotL, Vl.slotO, Vl.own, Vl.Pat.put, Vl.Pat.puts, Vl.Out.bind, Vl.Out.opt, Vl.fNx, Vl.fCt, Vl.fBk, Vl.fPar, Vl.fCall, Vl.fCallN, Vl.fCallL, Vl.fSetN, Vl.gIo, Vl.gCn, Vl.gNl, Vl.agDs, Vl.agD, Vl.ioSlots, Vl.putAll, Vl.put1, Vl.Ag.isIo, Vl.fAnd, Vl.fOr, Vl.fNot, Vl.fAndT, Vl.fOrT, Vl.fNotT, Vl.fChain, Vl.fIsi, Vl.fIsi2, Vl.fUn, Vl.fDrop, Vl.fApp, Vl.fLenO, Vl.fMake, Vl.fRaise, Vl.fFldS, Vl.fDInO, Vl.fDPutO, Vl.fDGetO, Vl.fPop, Vl.fListD, Vl.fDOne, Vl.fDNewK, Vl.isi, Vl.bOf, Vl.sOf, Vl.fFmt, Vl.fJs, Vl.oFmt, Vl.fM1, Vl.fM0, Vl.fFor, Vl.fItems, Vl.fEnum, Vl.fSl, Vl.fPart, Vl.fNoPart, Vl.fNeg, Vl.fAugI, Vl.fInO, Vl.fYes, Vl.fTruO, Vl.fComp, Vl.fCompO, Vl.calmE, Vl.wipeE, Vl.backE, Vl.oIsN, Vl.oStr, Vl.fMakeL, Vl.fCM, Vl.fCMK, Vl.resE, Vl.fItemsS, Vl.fPar3, Vl.fTry2, Vl.hand1, Vl.gK, Vl.gF, Vl.gNil, Vl.gCons, Vl.gTup, Vl.gLst, Vl.gIte, Vl.fSlO, ↓Vl.fRng1_one, Vl.oLen_lst, Vl.oLen_tup, Vl.oLen_ctup, Vl.oLen_scr, Vl.oIx_lst, Vl.oIx_tup, Vl.oIx_ctup, Vl.oIx_scr, Vl.oInt_int, Vl.oInt_bl, Vl.oAbs_int, Vl.oMax_int, Vl.oMin_int, Vl.oTuple_lst, Vl.oTuple_tup, Vl.oList_lst, Vl.oList_tup, Vl.oNeg_int, Vl.ty_non, Vl.ty_bl, Vl.ty_int, Vl.ty_str, Vl.ty_tup, Vl.ty_ctup, Vl.ty_lst, Vl.ty_dk, Vl.ty_scr, Vl.tru_non, Vl.tru_bl, Vl.tru_int, Vl.tru_lst, Vl.tru_tup, Vl.oEqS_int, Vl.oEqS_str, Vl.oEqS_bl, Vl.oCat_lst, Vl.oCatA_tup, Vl.oSlT_tup, Vl.oSlL_lst, Vl.keyOf_int, Vl.keyOf_str, Vl.isNon_non, Vl.isNon_bl, Vl.isNon_int, Vl.isNon_str, Vl.isNon_tup, Vl.isNon_lst, Vl.oFld_ob, Vl.isOb_ob', Vl.atI_0, Vl.atI_1, Vl.atI_2, Vl.atI_3, Vl.ixN_0, Vl.ixN_1, Vl.ixN_2, List.zipWith, List.replicate, List.append, List.cons_append, List.nil_append, List.append_nil, List.getElem?_cons_zero, List.getElem?_cons_succ, List.getElem?_nil, List.set_cons_zero, List.set_cons_succ, List.length_cons, List.length_nil, List.map_cons, List.map_nil, List.nodup_cons, List.nodup_nil, List.not_mem_nil, List.reverse_cons, List.reverse_nil, Bool.false_eq_true, ite_true, ite_false, if_true, if_false, reduceIte, decide_true, decide_false, Bool.true_and, Bool.and_true, Bool.false_and, Bool.and_false, Bool.not_true, Bool.not_false, Bool.or_false, Bool.false_or, Bool.or_true, Bool.true_or, reduceCtorEq, not_false_eq_true, not_true_eq_false, and_self, and_true, true_and, or_false, or_true, Nat.reduceSub, Nat.reduceAdd, Nat.reduceLeDiff, Nat.zero_add, Option.map_some, Option.map_none, Option.bind_some, Option.bind_none, Option.isSome_some, Option.isSome_none, List.mem_cons, List.all_cons, List.all_nil, eq_self, Int.cast_ofNat_Int, Int.natCast_zero, Int.natCast_one, Int.reduceEq, Int.reduceLT, Int.reduceLE, Int.reduceAdd, Int.reduceSub, Int.reduceNeg, Nat.reduceEqDiff])
theorem text_inj {hs ss hs' ss' : List Row} (k1 : HearerOk hs) (k2 : SenderOk ss) (k3 : HearerOk hs') (k4 : SenderOk ss') : endT hs ss = endT hs' ss' ↔ hs = hs' ∧ ss = ss' := by
  refine ⟨fun h => ?_, fun ⟨a, b⟩ => by rw [a, b]⟩
  have e := readM_end k1 k2
  rw [h, readM_end k3 k4] at e
  cases e
  exact ⟨rfl, rfl⟩
theorem split_end {ps qs : List Row} (h1 : Rows ps) (h2 : Rows qs) : oSplit (endT ps qs) (.str " | ") = some (.lst [.str (machT ps), .str (machT qs)]) := by
  rw [oSplit_ok (by rw [tl_stroke]; simp) (fine_any h1 h2).2, end_split (fun r hr => (h1.2.2 r hr).1) fun r hr => (h2.2.2 r hr).1]
  rfl
theorem glue_tl (ps qs : List Row) : machT ps ++ (" | " : Str) ++ machT qs = endT ps qs := TL.ext_tl (by
  rw [tl_endT, TL.tl_append, TL.tl_append, tl_stroke, List.append_assoc])
theorem add_end {ps qs : List Row} (h1 : Rows ps) (h2 : Rows qs) : oAddS (.str (machT ps)) (.str " | ") = some (.str (machT ps ++ (" | " : Str))) ∧ oAddS (.str (machT ps ++ (" | " : Str))) (.str (machT qs)) = some (.str (endT ps qs)) := by
  have hl := (fine_any h1 h2).2
  rw [← glue_tl, strLen_append, strLen_append] at hl
  have big : 100000 ≤ sizeLine := by decide +kernel
  refine ⟨if_pos (by omega), ?_⟩
  rw [← glue_tl]
  refine if_pos ?_
  rw [strLen_append]
  omega
theorem pair_ok {hs ss hs' ss' : List Row} (k1 : HearerOk hs) (k2 : SenderOk ss) (k3 : HearerOk hs') (k4 : SenderOk ss') : Φ_L_pair_right [endD hs ss, endD hs' ss'] = .ret false (.bl true) [.non, .non] := by
  have l1 := k1.2.1
  have l2 := k2.2.1
  have l3 := k3.2.1
  have l4 := k4.2.1
  have r1 := Rows.h k1
  have r2 := Rows.s k2
  have r3 := Rows.h k3
  have r4 := Rows.s k4
  have t1 := str_own k1 k2
  have t2 := str_own k3 k4
  have t3 := str_own k1 k4
  have e1 := eq_own2 k1 k2 k3 k4
  have e2 := eq_own2 k3 k4 k1 k2
  have e3 := eq_own k1 k4
  have p0 := eq_pts k1 k2 k3 k4
  have s1 := split_end r1 r2
  have s2 := split_end r3 r4
  obtain ⟨a1, a2⟩ := add_end r1 r4
  obtain ⟨a3, a4⟩ := add_end r2 r3
  have fr := from_end k1 k4
  have m1 := made (.inr rfl : IsRows (.tup (Pg.rowsD hs)) hs) (.inr rfl : IsRows (.tup (Pg.rowsD ss')) ss') k1 k4
  obtain ⟨z, hz, w1, w2⟩ := same_told r2 r3
  have zz := oEq_self false hz
  have b2 : decide (hs' = hs ∧ ss' = ss) = decide (hs = hs' ∧ ss = ss') := decide_eq_decide.mpr ⟨fun ⟨a, b⟩ => ⟨a.symm, b.symm⟩, fun ⟨a, b⟩ => ⟨a.symm, b.symm⟩⟩
  have q1 : oEqS false (.str (endT hs ss)) (.str (endT hs' ss')) = some (.bl (decide (hs = hs' ∧ ss = ss'))) := by
    show some (D.bl (decide (endT hs ss = endT hs' ss'))) = _
    rw [decide_eq_decide.mpr (text_inj k1 k2 k3 k4)]
  have q2 : oEqS true (.str (endT hs ss')) (.str (endT hs ss')) = some (.bl false) := by
    show some (D.bl (!decide (endT hs ss' = endT hs ss'))) = _
    rw [decide_eq_true rfl]
    rfl
  rw [b2] at e2
  generalize decide (hs = hs' ∧ ss = ss') = b at e1 e2 p0 q1
  have q3 : oEqS true (.bl b) (.bl b) = some (.bl false) := by
    show some (D.bl (!decide (b = b))) = _
    rw [decide_eq_true rfl]
    rfl
  have q4 : oRep (.lst [.bl b]) (.int 2) = some (.lst [.bl b, .bl b]) := rfl
  have q5 : oEq true (.lst [.bl b, .bl b]) (.lst [.bl b, .bl b]) = some (.bl false) := oEq_self true (by cases b <;> rfl)
  have f1 : oFld "End" 0 (endD hs ss) = some (.tup (Pg.rowsD hs)) := rfl
  have f2 : oFld "End" 1 (endD hs' ss') = some (.tup (Pg.rowsD ss')) := rfl
  have hi1 : ∀ s2 s3 s4 s5 s6 s7 s8 : Slot, fItOwn "End" 2 (fVar 0) [.sh (endD hs ss), .sh (endD hs' ss'), s2, s3, s4, s5, s6, s7, s8] = .val ((ptsT hs ss).map ptD) [.sh (endD hs ss), .sh (endD hs' ss'), s2, s3, s4, s5, s6, s7, s8] := fun _ _ _ _ _ _ _ => by
    rw [end_pts hs ss]
    rfl
  have hi2 : ∀ s2 s3 s4 s5 s6 s7 s8 : Slot, fItOwn "End" 2 (fVar 1) [.sh (endD hs ss), .sh (endD hs' ss'), s2, s3, s4, s5, s6, s7, s8] = .val ((ptsT hs' ss').map ptD) [.sh (endD hs ss), .sh (endD hs' ss'), s2, s3, s4, s5, s6, s7, s8] := fun _ _ _ _ _ _ _ => by
    rw [end_pts hs' ss']
    rfl
  have c1 : fComp (fItOwn "End" 2 (fVar 0)) (.nm 8) fYes E_L_pair_right_1 [8] [.sh (endD hs ss), .sh (endD hs' ss'), .un, .un, .un, .un, .un, .un, .un] = .val (.lst ((ptsT hs ss).map ptD)) [.sh (endD hs ss), .sh (endD hs' ss'), .un, .un, .un, .un, .un, .un, .un] :=
    own_comp (g := ptD) (by rw [pts_len]; omega) (hi1 _ _ _ _ _ _ _) rfl (fun t => rfl) rfl (fun s => rfl) (fun s => rfl) fun d => rfl
  have c2 : fComp (fItOwn "End" 2 (fVar 1)) (.nm 8) fYes E_L_pair_right_2 [8] [.sh (endD hs ss), .sh (endD hs' ss'), .un, .un, .un, .un, .un, .un, .un] = .val (.lst ((ptsT hs' ss').map ptD)) [.sh (endD hs ss), .sh (endD hs' ss'), .un, .un, .un, .un, .un, .un, .un] :=
    own_comp (g := ptD) (by rw [pts_len]; omega) (hi2 _ _ _ _ _ _ _) rfl (fun t => rfl) rfl (fun s => rfl) (fun s => rfl) fun d => rfl
  have x1 : ∀ s2 s3 s4 s5 s6 s7 s8 : Slot, told7 (fMake "End" [true, false, false] Φ_End_init [] (fCons (fUn (oFld "End" 1) (fVar 0)) (fCons (fUn (oFld "End" 0) (fVar 1)) fNil))) [.sh (endD hs ss), .sh (endD hs' ss'), s2, s3, s4, s5, s6, s7, s8] = .val z [.sh (endD hs ss), .sh (endD hs' ss'), s2, s3, s4, s5, s6, s7, s8] := fun _ _ _ _ _ _ _ => w1 _ _ rfl
  have x2 : ∀ s0 s1 s2 s3 s4 s5 s6 s8 : Slot, told7 (fCM "End" [false, false] Φ_End_from_text (fCons (fVar 7) fNil)) [s0, s1, s2, s3, s4, s5, s6, .sh (.str (endT ss hs')), s8] = .val z [s0, s1, s2, s3, s4, s5, s6, .sh (.str (endT ss hs')), s8] := fun _ _ _ _ _ _ _ _ => w2 _ _ rfl
  clear w1 w2 hi1 hi2 b2 hz k1 k2 k3 k4 l1 l2 l3 l4 r1 r2 r3 r4
  generalize (ptsT hs ss).map ptD = P1 at c1 p0
  generalize (ptsT hs' ss').map ptD = P2 at c2 p0
  generalize machT ss ++ (" | " : Str) = g1 at *
  generalize machT hs ++ (" | " : Str) = g2 at *
  generalize machT hs = u1 at *
  generalize machT ss = u2 at *
  generalize machT hs' = u3 at *
  generalize machT ss' = u4 at *
  generalize endT ss hs' = v1 at *
  generalize endT hs ss' = v2 at *
  generalize endT hs ss = v3 at *
  generalize endT hs' ss' = v4 at *
  generalize endD hs ss = d1 at *
  generalize endD hs' ss' = d2 at *
  generalize endD hs ss' = d3 at *
  generalize D.tup (Pg.rowsD hs) = y1 at *
  generalize D.tup (Pg.rowsD ss') = y2 at *
  unfold told7 at x1 x2
  unfold Φ_L_pair_right F_L_pair_right R_L_pair_right_7 R_L_pair_right_6 R_L_pair_right_5 R_L_pair_right_4 R_L_pair_right_3 R_L_pair_right_2 R_L_pair_right_1 H_L_pair_right_7 H_L_pair_right_6 H_L_pair_right_5 H_L_pair_right_4 H_L_pair_right_3 H_L_pair_right_2 H_L_pair_right_1
  generalize fTold (fun d => Vl.o1 (oStrOwn "End" Φ_End_str) [d]) (exOne "BadEnd" (gTup (gCons (gF 1) (gCons (gF 0) gNil)))) (fMake "End" [true, false, false] Φ_End_init [] (fCons (fUn (oFld "End" 1) (fVar 0)) (fCons (fUn (oFld "End" 0) (fVar 1)) fNil))) = T1 at x1 ⊢
  generalize fTold (fun d => Vl.o1 (oStrOwn "End" Φ_End_str) [d]) (exOne "BadEnd" (gTup (gCons (gF 1) (gCons (gF 0) gNil)))) (fCM "End" [false, false] Φ_End_from_text (fCons (fVar 7) fNil)) = T2 at x2 ⊢
  generalize fComp (fItOwn "End" 2 (fVar 0)) (.nm 8) fYes E_L_pair_right_1 [8] = C1 at c1 ⊢
  generalize fComp (fItOwn "End" 2 (fVar 1)) (.nm 8) fYes E_L_pair_right_2 [8] = C2 at c2 ⊢
  generalize oStrOwn "End" Φ_End_str = o1 at t1 t2 t3 ⊢
  generalize oEqOwn "End" Φ_End_eq = o2 at e1 e2 e3 ⊢
  generalize oSplit = o3 at s1 s2 ⊢
  generalize oAddS = o4 at a1 a2 a3 a4 ⊢
  generalize oEqS false = o5 at q1 ⊢
  generalize oEqS true = o6 at q2 q3 ⊢
  generalize oEq false = o7 at p0 zz ⊢
  generalize oEq true = o8 at q5 ⊢
  generalize oRep = o9 at q4 ⊢
  generalize oFld "End" 0 = o10 at f1 ⊢
  generalize oFld "End" 1 = o11 at f2 ⊢
  walk_at "ev"
end K07
set_option Elab.async false
set_option linter.all false
set_option maxRecDepth 100000
set_option maxHeartbeats 4000000
namespace K07
open PySem L2 Vl Pg
open Sb hiding plD rowD rowsD firstBad
local macro_rules | `(tactic| walk_at "ev") => `(tactic| simp only [Vl.runV, Vl.mkEnv, Vl.Res.of, Vl.Res.quiet, Vl.Res.val, Vl.ioAt, Vl.fSeq, Vl.fIte, Vl.fAsg, Vl.fVar, Vl.fC, Vl.fOp, Vl.fIxO, Vl.fPutL, Vl.fRet, Vl.fRetW, Vl.fRetO, Vl.fRetN, Vl.fLst, Vl.fTup, Vl.fB, Vl.fTru, Vl.fCB, Vl.fCons, Vl.fNil, Vl.o1, Vl.o2, Vl.oI, Vl.oIC, Vl.slotL, Vl.slotO, Vl.own, Vl.Pat.put, Vl.Pat.puts, Vl.Out.bind, Vl.Out.opt, Vl.fNx, Vl.fCt, Vl.fBk, Vl.fPar, Vl.fCall, Vl.fCallN, Vl.fCallL, Vl.fSetN, Vl.gIo, Vl.gCn, Vl.gNl, Vl.agDs, Vl.agD, Vl.ioSlots, Vl.putAll, Vl.put1, Vl.Ag.isIo, Vl.fAnd, Vl.fOr, Vl.fNot, Vl.fAndT, Vl.fOrT, Vl.fNotT, Vl.fChain, Vl.fIsi, Vl.fIsi2, Vl.fUn, Vl.fDrop, Vl.fApp, Vl.fLenO, Vl.fMake, Vl.fRaise, Vl.fFldS, Vl.fDInO, Vl.fDPutO, Vl.fDGetO, Vl.fPop, Vl.fListD, Vl.fDOne, Vl.fDNewK, Vl.isi, Vl.bOf, Vl.sOf, Vl.fFmt, Vl.fJs, Vl.oFmt, Vl.fM1, Vl.fM0, Vl.fFor, Vl.fItems, Vl.fEnum, Vl.fSl, Vl.fPart, Vl.fNoPart, Vl.fNeg, Vl.fAugI, Vl.fInO, Vl.fYes, Vl.fTruO, Vl.fComp, Vl.fCompO, Vl.calmE, Vl.wipeE, Vl.backE, Vl.oIsN, Vl.oStr, Vl.fMakeL, Vl.fCM, Vl.fCMK, Vl.resE, Vl.fItemsS, Vl.fPar3, Vl.fTry2, Vl.hand1, Vl.gK, Vl.gF, Vl.gNil, Vl.gCons, Vl.gTup, Vl.gLst, Vl.gIte, Vl.fSlO, ↓Vl.fRng1_one, Vl.oLen_lst, Vl.oLen_tup, Vl.oLen_ctup, Vl.oLen_scr, Vl.oIx_lst, Vl.oIx_tup, Vl.oIx_ctup, Vl.oIx_scr, Vl.oInt_int, Vl.oInt_bl, Vl.oAbs_int, Vl.oMax_int, Vl.oMin_int, Vl.oTuple_lst, Vl.oTuple_tup, Vl.oList_lst, Vl.oList_tup, Vl.oNeg_int, Vl.ty_non, Vl.ty_bl, Vl.ty_int, Vl.ty_str, Vl.ty_tup, Vl.ty_ctup, Vl.ty_lst, Vl.ty_dk, Vl.ty_scr, Vl.tru_non, Vl.tru_bl, Vl.tru_int, Vl.tru_lst, Vl.tru_tup, Vl.oEqS_int, Vl.oEqS_str, Vl.oEqS_bl, Vl.oCat_lst, Vl.oCatA_tup, Vl.oSlT_tup, Vl.oSlL_lst, Vl.keyOf_int, Vl.keyOf_str, Vl.isNon_non, Vl.isNon_bl, Vl.isNon_int, Vl.isNon_str, Vl.isNon_tup, Vl.isNon_lst, Vl.oFld_ob, Vl.isOb_ob', Vl.atI_0, Vl.atI_1, Vl.atI_2, Vl.atI_3, Vl.ixN_0, Vl.ixN_1, Vl.ixN_2, List.zipWith, List.replicate, List.append, List.cons_append, List.nil_append, List.append_nil, List.getElem?_cons_zero, List.getElem?_cons_succ, List.getElem?_nil, List.set_cons_zero, List.set_cons_succ, List.length_cons, List.length_nil, List.map_cons, List.map_nil, List.nodup_cons, List.nodup_nil, List.not_mem_nil, List.reverse_cons, List.reverse_nil, Bool.false_eq_true, ite_true, ite_false, if_true, if_false, reduceIte, decide_true, decide_false, Bool.true_and, Bool.and_true, Bool.false_and, Bool.and_false, Bool.not_true, Bool.not_false, Bool.or_false, Bool.false_or, Bool.or_true, Bool.true_or, reduceCtorEq, not_false_eq_true, not_true_eq_false, and_self, and_true, true_and, or_false, or_true, Nat.reduceSub, Nat.reduceAdd, Nat.reduceLeDiff, Nat.zero_add, Option.map_some, Option.map_none, Option.bind_some, Option.bind_none, Option.isSome_some, Option.isSome_none, List.mem_cons, List.all_cons, List.all_nil, eq_self, Int.cast_ofNat_Int, Int.natCast_zero, Int.natCast_one, Int.reduceEq, Int.reduceLT, Int.reduceLE, Int.reduceAdd, Int.reduceSub, Int.reduceNeg, Nat.reduceEqDiff, *])
local macro_rules | `(tactic| walk_at "e0") => `(tactic| simp only [Vl.runV, Vl.mkEnv, Vl.Res.of, Vl.Res.quiet, Vl.Res.val, Vl.ioAt, Vl.fSeq, Vl.fIte, Vl.fAsg, Vl.fVar, Vl.fC, Vl.fOp, Vl.fIxO, Vl.fPutL, Vl.fRet, Vl.fRetW, Vl.fRetO, Vl.fRetN, Vl.fLst, Vl.fTup, Vl.fB, Vl.fTru, Vl.fCB, Vl.fCons, Vl.fNil, Vl.o1, Vl.o2, Vl.oI, Vl.oIC, Vl.slotL, Vl.slotO, Vl.own, Vl.Pat.put, Vl.Pat.puts, Vl.Out.bind, Vl.Out.opt, Vl.fNx, Vl.fCt, Vl.fBk, Vl.fPar, Vl.fCall, Vl.fCallN, Vl.fCallL, Vl.fSetN, Vl.gIo, Vl.gCn, Vl.gNl, Vl.agDs, Vl.agD, Vl.ioSlots, Vl.putAll, Vl.put1, Vl.Ag.isIo, Vl.fAnd, Vl.fOr, Vl.fNot, Vl.fAndT, Vl.fOrT, Vl.fNotT, Vl.fChain, Vl.fIsi, Vl.fIsi2, Vl.fUn, Vl.fDrop, Vl.fApp, Vl.fLenO, Vl.fMake, Vl.fRaise, Vl.fFldS, Vl.fDInO, Vl.fDPutO, Vl.fDGetO, Vl.fPop, Vl.fListD, Vl.fDOne, Vl.fDNewK, Vl.isi, Vl.bOf, Vl.sOf, Vl.fFmt, Vl.fJs, Vl.oFmt, Vl.fM1, Vl.fM0, Vl.fFor, Vl.fItems, Vl.fEnum, Vl.fSl, Vl.fPart, Vl.fNoPart, Vl.fNeg, Vl.fAugI, Vl.fInO, Vl.fYes, Vl.fTruO, Vl.fComp, Vl.fCompO, Vl.calmE, Vl.wipeE, Vl.backE, Vl.oIsN, Vl.oStr, Vl.fMakeL, Vl.fCM, Vl.fCMK, Vl.resE, Vl.fItemsS, Vl.fPar3, Vl.fTry2, Vl.hand1, Vl.gK, Vl.gF, Vl.gNil, Vl.gCons, Vl.gTup, Vl.gLst, Vl.gIte, Vl.fSlO, ↓Vl.fRng1_one, Vl.oLen_lst, Vl.oLen_tup, Vl.oLen_ctup, Vl.oLen_scr, Vl.oIx_lst, Vl.oIx_tup, Vl.oIx_ctup, Vl.oIx_scr, Vl.oInt_int, Vl.oInt_bl, Vl.oAbs_int, Vl.oMax_int, Vl.oMin_int, Vl.oTuple_lst, Vl.oTuple_tup, Vl.oList_lst, Vl.oList_tup, Vl.oNeg_int, Vl.ty_non, Vl.ty_bl, Vl.ty_int, Vl.ty_str, Vl.ty_tup, Vl.ty_ctup, Vl.ty_lst, Vl.ty_dk, Vl.ty_scr, Vl.tru_non, Vl.tru_bl, Vl.tru_int, Vl.tru_lst, Vl.tru_tup, Vl.oEqS_int, Vl.oEqS_str, Vl.oEqS_bl, Vl.oCat_lst, Vl.oCatA_tup, Vl.oSlT_tup, Vl.oSlL_lst, Vl.keyOf_int, Vl.keyOf_str, Vl.isNon_non, Vl.isNon_bl, Vl.isNon_int, Vl.isNon_str, Vl.isNon_tup, Vl.isNon_lst, Vl.oFld_ob, Vl.isOb_ob', Vl.atI_0, Vl.atI_1, Vl.atI_2, Vl.atI_3, Vl.ixN_0, Vl.ixN_1, Vl.ixN_2, List.zipWith, List.replicate, List.append, List.cons_append, List.nil_append, List.append_nil, List.getElem?_cons_zero, List.getElem?_cons_succ, List.getElem?_nil, List.set_cons_zero, List.set_cons_succ, List.length_cons, List.length_nil, List.map_cons, List.map_nil, List.nodup_cons, List.nodup_nil, List.not_mem_nil, List.reverse_cons, List.reverse_nil, Bool.false_eq_true, ite_true, ite_false, if_true, if_false, reduceIte, decide_true, decide_false, Bool.true_and, Bool.and_true, Bool.false_and, Bool.and_false, Bool.not_true, Bool.not_false, Bool.or_false, Bool.false_or, Bool.or_true, Bool.true_or, reduceCtorEq, not_false_eq_true, not_true_eq_false, and_self, and_true, true_and, or_false, or_true, Nat.reduceSub, Nat.reduceAdd, Nat.reduceLeDiff, Nat.zero_add, Option.map_some, Option.map_none, Option.bind_some, Option.bind_none, Option.isSome_some, Option.isSome_none, List.mem_cons, List.all_cons, List.all_nil, eq_self, Int.cast_ofNat_Int, Int.natCast_zero, Int.natCast_one, Int.reduceEq, Int.reduceLT, Int.reduceLE, Int.reduceAdd, Int.reduceSub, Int.reduceNeg, Nat.reduceEqDiff])
theorem bag_ok (ns : List Int) (i : Nat) (hi : i < 1000) : ∃ d, Φ_L_bag [.scr ns, .int (i : Int)] = .ret true d [.non, .non] ∧ BagA 0 d := by
  have key : ∀ x : Int, (∃ cell, (cell = true ↔ (i : Int) < (ns.length : Int)) ∧ (if cell = true then atI ns (i : Int) = some x else x = 0)) → ∃ d, Φ_L_bag [.scr ns, .int (i : Int)] = .ret true d [.non, .non] ∧ BagA 0 d := by
    rintro x ⟨cell, hc, hx⟩
    have e0 := powOk (i := 10) (j := 18) 5 (by decide) (by decide) (by decide)
    rw [Bool.and_eq_true] at e0
    replace e0 := e0.2
    have p18 : (10 : Int) ^ (18 : Int).toNat = 1000000000000000000 := by decide
    have z1 : decide ((0 : Int) < 2305843009213693951) = true := rfl
    have e1 : cMul (x % 2305843009213693951) 45991 = true := cMulR (by decide)
    have e2 : cMul 5407 (i : Int) = true := cMulL (by decide)
    have p90 : (2 : Int) ^ 90 = 1237940039285380274899124224 := by decide
    obtain ⟨y, hy, hab⟩ : ∃ y, oAbs (.int x) = some (.int y) ∧ 0 ≤ y := ⟨_, rfl, by split <;> omega⟩
    have fin : ∀ k : Bool, decide (1000000000000000000 ≤ y) = k → ∃ d, Φ_L_bag [.scr ns, .int (i : Int)] = .ret true d [.non, .non] ∧ BagA 0 d := fun k hk => by
      refine ⟨.lst [.int (if k = true then y else 0), .int (x % 2305843009213693951 * 45991 + 5407 * (i : Int) + 31), .int 0], ?_, ⟨_, _, _, rfl, by split <;> omega, by omega, by rw [p90]; omega, by omega, by omega⟩⟩
      clear p90 hab
      unfold Φ_L_bag F_L_bag
      cases cell with
      | true =>
        have hl : decide ((i : Int) < (ns.length : Int)) = true := decide_eq_true (hc.mp rfl)
        have hx : atI ns (i : Int) = some x := hx
        clear hc hi
        cases k <;> walk_at "ev"
      | false =>
        have hl : decide ((i : Int) < (ns.length : Int)) = false := decide_eq_false fun h => by
          have := hc.mpr h
          cases this
        have hx : x = 0 := by simpa using hx
        subst hx
        clear hc hi
        cases k <;> walk_at "ev"
    exact fin _ rfl
  by_cases h : (i : Int) < (ns.length : Int)
  · refine key (ns[i]'(by omega)) ⟨true, by simpa using h, ?_⟩
    rw [if_pos rfl]
    unfold atI ixN
    rw [if_pos (by omega), if_pos h]
    simp
  · exact key 0 ⟨false, by simpa using h, by simp⟩
/-- an end that is drawn -/
abbrev En7 := List Row × List Row
def Ok7 (p : En7) : Prop := HearerOk p.1 ∧ SenderOk p.2
def eD (p : En7) : D := endD p.1 p.2
theorem h3 (sc at_ bag : D) (s3 s4 s5 s6 s7 s8 s9 : Slot) (k : Int) (hb : BagA k bag) (hk : k < 700000) : ∃ p bag', Ok7 p ∧ H_law_3 [.sh sc, .sh at_, .ow bag, s3, s4, s5, s6, s7, s8, s9] = .val .nx [.sh sc, .sh at_, .ow bag', s3, s4, s5, .sh (.tup [.lst (Pg.rowsD p.1), .lst (Pg.rowsD p.2)]), s7, s8, s9] ∧ BagA (k + 30) bag' := by
  obtain ⟨r1, b1, e1, hb1, p1, p2⟩ := take_ok k 3 bag hb (by omega) (by decide) (by decide)
  obtain ⟨m, hm⟩ : ∃ m : Nat, 2 + r1 = (m : Int) := ⟨(2 + r1).toNat, (Int.toNat_of_nonneg (by omega)).symm⟩
  obtain ⟨hs, b2, e2, hb2, l1, ok1⟩ := hearer_ok (k + 1) m b1 hb1 (by omega) (by omega) (by omega)
  obtain ⟨r2, b3, e3, hb3, q1, q2⟩ := take_ok (k + 1 + 3 * m) 3 b2 hb2 (by omega) (by decide) (by decide)
  obtain ⟨n, hn⟩ : ∃ n : Nat, 1 + r2 = (n : Int) := ⟨(1 + r2).toNat, (Int.toNat_of_nonneg (by omega)).symm⟩
  obtain ⟨ss, b4, e4, hb4, l2, ok2⟩ := sender_ok (k + 1 + 3 * m + 1) n b3 hb3 (by omega) (by omega) (by omega)
  refine ⟨(hs, ss), b4, ⟨ok1, ok2⟩, ?_, hb4.more (by omega)⟩
  clear hb hb1 hb2 hb3 hb4 ok1 ok2 l1 l2 p1 p2 q1 q2 hk
  have b2 : (2 ≤ 1000) = True := eq_true (by decide)
  unfold H_law_3
  walk_at "ev"
theorem h2 {p : En7} (hp : Ok7 p) (sc at_ bag : D) (s3 s5 s7 s8 s9 : Slot) {l : List D} (hl : l.length < sizeLine) : H_law_2 [.sh sc, .sh at_, .ow bag, s3, .ow (.lst l), s5, .sh (.tup [.lst (Pg.rowsD p.1), .lst (Pg.rowsD p.2)]), s7, s8, s9] = .val .nx [.sh sc, .sh at_, .ow bag, s3, .ow (.lst (l ++ [eD p])), s5, .sh (.tup [.lst (Pg.rowsD p.1), .lst (Pg.rowsD p.2)]), s7, s8, s9] := by
  have hm := made (.inl rfl : IsRows (.lst (Pg.rowsD p.1)) p.1) (.inl rfl : IsRows (.lst (Pg.rowsD p.2)) p.2) hp.1 hp.2
  have i0 : oIx (.tup [.lst (Pg.rowsD p.1), .lst (Pg.rowsD p.2)]) (.int 0) = some (.lst (Pg.rowsD p.1)) := rfl
  have i1 : oIx (.tup [.lst (Pg.rowsD p.1), .lst (Pg.rowsD p.2)]) (.int 1) = some (.lst (Pg.rowsD p.2)) := rfl
  have ed : eD p = endD p.1 p.2 := rfl
  rw [ed]
  clear hp ed
  generalize endD p.1 p.2 = d at *
  generalize D.lst (Pg.rowsD p.1) = x at *
  generalize D.lst (Pg.rowsD p.2) = y at *
  unfold H_law_2
  generalize oIx = o at *
  walk_at "ev"
/-- one of the three ends is made of another's machines -/
theorem r2 {p q : En7} (hp : Ok7 p) (hq : Ok7 q) (sc at_ bag : D) (s3 s7 s8 s9 : Slot) (k : Int) (hb : BagA k bag) (hk : k < 700000) {l : List D} {i : Nat} (hi : 0 < i) (hi3 : i < 3) (h0 : atI l ((i : Int) - 1) = some (eD p)) (h1 : ixN l.length (i : Int) = some i) (h2 : l[i]? = some (eD q)) :
    ∃ bag' t7 r, Ok7 r ∧ R_law_2 [.sh sc, .sh at_, .ow bag, s3, .ow (.lst l), .sh (.int (i : Int)), .sh (.tup [.lst (Pg.rowsD q.1), .lst (Pg.rowsD q.2)]), s7, s8, s9] = .val .nx [.sh sc, .sh at_, .ow bag', s3, .ow (.lst (l.set i (eD r))), .sh (.int (i : Int)), .sh (.tup [.lst (Pg.rowsD q.1), .lst (Pg.rowsD q.2)]), t7, s8, s9] ∧ BagA (k + 2) bag' := by
  obtain ⟨r1, b1, e1, hb1, p1, p2⟩ := take_ok k 2 bag hb (by omega) (by decide) (by decide)
  obtain ⟨r2, b2, e2, hb2, p3, p4⟩ := take_ok (k + 1) 2 b1 hb1 (by omega) (by decide) (by decide)
  have c0 : decide ((0 : Int) < (i : Int)) = true := decide_eq_true (by omega)
  have i1 : oIx (.tup [.lst (Pg.rowsD q.1), .lst (Pg.rowsD q.2)]) (.int 1) = some (.lst (Pg.rowsD q.2)) := rfl
  have f0 : oFld "End" 0 (eD p) = some (.tup (Pg.rowsD p.1)) := rfl
  have f1 : oFld "End" 1 (eD p) = some (.tup (Pg.rowsD p.2)) := rfl
  have m1 := made (.inr rfl : IsRows (.tup (Pg.rowsD p.1)) p.1) (.inl rfl : IsRows (.lst (Pg.rowsD q.2)) q.2) hp.1 hq.2
  have m2 := made (.inr rfl : IsRows (.tup (Pg.rowsD p.1)) p.1) (.inr rfl : IsRows (.tup (Pg.rowsD p.2)) p.2) hp.1 hp.2
  have s0 : l.set i (eD q) = l := by
    obtain ⟨hl, e⟩ := List.getElem?_eq_some_iff.mp h2
    rw [← e]
    exact List.set_getElem_self hl
  by_cases z1 : r1 = 0
  · have w1 : oEqS false (.int r1) (.int 0) = some (.bl true) := by
      rw [z1]
      rfl
    by_cases z2 : r2 = 0
    · have w2 : oEqS false (.int r2) (.int 0) = some (.bl true) := by
        rw [z2]
        rfl
      refine ⟨b2, .sh (eD p), (p.1, q.2), ⟨hp.1, hq.2⟩, ?_, hb2.more (by omega)⟩
      have er : eD (p.1, q.2) = endD p.1 q.2 := rfl
      rw [er]
      clear hp hq hb hk hi hi3 s0 hb1 hb2 p1 p2 p3 p4 m2 z1 z2 er h2
      generalize endD p.1 q.2 = d at *
      generalize eD p = ep at *
      generalize D.lst (Pg.rowsD q.1) = x1 at *
      generalize D.lst (Pg.rowsD q.2) = x2 at *
      generalize D.tup (Pg.rowsD p.1) = x3 at *
      generalize D.tup (Pg.rowsD p.2) = x4 at *
      generalize (i : Int) = j at *
      unfold R_law_2 R_law_1 H_law_1
      generalize oIx = o1 at *
      generalize oFld "End" 0 = o2 at f0 ⊢
      generalize oFld "End" 1 = o3 at f1 ⊢
      generalize oEqS false = o4 at w1 w2 ⊢
      walk_at "ev"
    · have w2 : oEqS false (.int r2) (.int 0) = some (.bl false) := by
        show some (D.bl (decide (r2 = 0))) = _
        rw [decide_eq_false z2]
      refine ⟨b2, .sh (eD p), p, hp, ?_, hb2.more (by omega)⟩
      have er : eD p = endD p.1 p.2 := rfl
      rw [← er] at m2
      clear hp hq hb hk hi hi3 s0 hb1 hb2 p1 p2 p3 p4 m1 z1 z2 er h2
      generalize eD p = ep at *
      generalize D.lst (Pg.rowsD q.1) = x1 at *
      generalize D.lst (Pg.rowsD q.2) = x2 at *
      generalize D.tup (Pg.rowsD p.1) = x3 at *
      generalize D.tup (Pg.rowsD p.2) = x4 at *
      generalize (i : Int) = j at *
      unfold R_law_2 R_law_1 H_law_1
      generalize oIx = o1 at *
      generalize oFld "End" 0 = o2 at f0 ⊢
      generalize oFld "End" 1 = o3 at f1 ⊢
      generalize oEqS false = o4 at w1 w2 ⊢
      walk_at "ev"
  · have w1 : oEqS false (.int r1) (.int 0) = some (.bl false) := by
      show some (D.bl (decide (r1 = 0))) = _
      rw [decide_eq_false z1]
    refine ⟨b1, s7, q, hq, ?_, hb1.more (by omega)⟩
    rw [s0]
    clear hp hq hb hk hi hi3 s0 hb1 hb2 p1 p2 p3 p4 m1 m2 z1 h0 h1 h2 e2 f0 f1 i1
    generalize (i : Int) = j at *
    unfold R_law_2 R_law_1 H_law_1
    generalize oEqS false = o4 at w1 ⊢
    walk_at "ev"
theorem r2_0 (sc at_ bag : D) (s3 s4 s6 s7 s8 s9 : Slot) : R_law_2 [.sh sc, .sh at_, .ow bag, s3, s4, .sh (.int 0), s6, s7, s8, s9] = .val .nx [.sh sc, .sh at_, .ow bag, s3, s4, .sh (.int 0), s6, s7, s8, s9] := rfl
/-- the slots while the ends are made -/
def InvA (sc at_ : D) (s3 s8 s9 : Slot) (k : Int) (n : Nat) (env : List Slot) : Prop := ∃ (bag : D) (es : List En7) (s5 s6 s7 : Slot), env = [.sh sc, .sh at_, .ow bag, s3, .ow (.lst (es.map eD)), s5, s6, s7, s8, s9] ∧ BagA k bag ∧ es.length = n ∧ ∀ p, p ∈ es → Ok7 p
theorem b1 (sc at_ : D) (s3 s8 s9 : Slot) (k : Int) (hk : k < 600000) (i : Nat) (hi : i < 3) {env : List Slot} (h : InvA sc at_ s3 s8 s9 k i env) : ∃ env', B_law_1 (env.set 5 (.sh (.int (i : Int)))) = .val .nx env' ∧ InvA sc at_ s3 s8 s9 (k + 32) (i + 1) env' := by
  obtain ⟨bag, es, s5, s6, s7, rfl, hb, hl, hes⟩ := h
  obtain ⟨q, bag1, hq, e1, hb1⟩ := h3 sc at_ bag s3 (.ow (.lst (es.map eD))) (.sh (.int (i : Int))) s6 s7 s8 s9 k hb (by omega)
  have big : 10 < sizeLine := by decide +kernel
  have e2 := h2 hq sc at_ bag1 s3 (.sh (.int (i : Int))) s7 s8 s9 (l := es.map eD) (by rw [List.length_map]; omega)
  have el : es.map eD ++ [eD q] = (es ++ [q]).map eD := by rw [List.map_append]; rfl
  rw [el] at e2
  by_cases h0 : i = 0
  · subst h0
    refine ⟨_, seq7 e1 (seq7 e2 (r2_0 sc at_ bag1 s3 (.ow (.lst ((es ++ [q]).map eD))) _ s7 s8 s9)), bag1, es ++ [q], _, _, _, rfl, hb1.more (by omega), by rw [List.length_append, hl]; rfl, fun p hp => ?_⟩
    rcases List.mem_append.mp hp with z | z
    · exact hes p z
    · rw [List.mem_singleton.mp z]
      exact hq
  · obtain ⟨p, hp⟩ : ∃ p, es[i - 1]? = some p := ⟨es[i - 1]'(by omega), List.getElem?_eq_getElem _⟩
    have hpm := List.mem_of_getElem? hp
    have ln : ((es ++ [q]).map eD).length = i + 1 := by rw [List.length_map, List.length_append, hl]; rfl
    have g0 : atI ((es ++ [q]).map eD) ((i : Int) - 1) = some (eD p) := by
      have e0 : ((i : Int) - 1).toNat = i - 1 := by omega
      unfold atI ixN
      rw [ln, if_pos (by omega), if_pos (by omega)]
      show ((es ++ [q]).map eD)[((i : Int) - 1).toNat]? = _
      rw [e0, List.getElem?_map, List.getElem?_append_left (by omega), hp]
      rfl
    have g1 : ixN ((es ++ [q]).map eD).length (i : Int) = some i := by
      rw [ln]
      unfold ixN
      rw [if_pos (by omega), if_pos (by omega)]
      simp
    have g2 : ((es ++ [q]).map eD)[i]? = some (eD q) := by
      rw [List.getElem?_map, List.getElem?_append_right (by omega), hl, Nat.sub_self]
      rfl
    obtain ⟨bag2, t7, r, hr, e3, hb2⟩ := r2 (hes p hpm) hq sc at_ bag1 s3 s7 s8 s9 (k + 30) hb1 (by omega) (by omega) hi g0 g1 g2
    refine ⟨_, seq7 e1 (seq7 e2 e3), bag2, (es ++ [q]).set i r, _, _, _, by rw [List.map_set], hb2.more (by omega), by rw [List.length_set, List.length_append, hl]; rfl, fun x hx => ?_⟩
    rcases List.mem_or_eq_of_mem_set hx with z | z
    · rcases List.mem_append.mp z with z | z
      · exact hes x z
      · rw [List.mem_singleton.mp z]
        exact hq
    · rw [z]
      exact hr
theorem loop_rng {p : Pat} {s : Ev Fl} {n : Nat} {env env' : List Slot} (hn : n ≤ 1000) (h : loopF p s (rangeD 0 n) env = .val .nx env') : fFor (fRng1 (fCons (fC (.int (n : Int))) fNil)) p s env = .val .nx env' := by
  unfold fFor
  rw [fRng1_one]
  show ((rng1 [.int (n : Int)] env).bind fun ds e => loopF p s ds e) = _
  rw [rng1_nat (by omega)]
  exact h
theorem l1 (sc at_ : D) (s3 s8 s9 : Slot) (k : Int) (hk : k < 500000) {env : List Slot} (h : InvA sc at_ s3 s8 s9 k 0 env) : ∃ env', L_law_1 env = .val .nx env' ∧ InvA sc at_ s3 s8 s9 (k + 96) 3 env' := by
  obtain ⟨env', e, hi⟩ := loop_ok (p := .nm 5) (s := B_law_1) (ds := rangeD 0 3) (fun i env => i ≤ 3 ∧ InvA sc at_ s3 s8 s9 (k + 32 * (i : Int)) i env) (fun i d env hd hi => by
    obtain ⟨hl, rfl⟩ := rangeD_get hd
    obtain ⟨_, hi⟩ := hi
    obtain ⟨env', e, bag, es, s5, s6, s7, rfl, hb, hle, hok⟩ := b1 sc at_ s3 s8 s9 _ (by omega) i hl hi
    obtain ⟨bag0, es0, t5, t6, t7, rfl, _⟩ := hi
    refine ⟨_, _, rfl, .inl ?_, by omega, bag, es, s5, s6, s7, rfl, hb.more (by omega), hle, hok⟩
    rw [Int.zero_add]
    exact e) (env := env) ⟨by omega, by simpa using h⟩
  rw [rangeD_len] at hi
  exact ⟨env', loop_rng (n := 3) (by omega) e, hi.2⟩
theorem b2 {p q : En7} (hp : Ok7 p) (hq : Ok7 q) (s0 s1 s2 s3 s4 s5 s6 s7 : Slot) : B_law_2 [s0, s1, s2, s3, s4, s5, s6, s7, .sh (eD p), .sh (eD q)] = .val .nx [s0, s1, s2, s3, s4, s5, s6, s7, .sh (eD p), .sh (eD q)] := by
  have e : Φ_L_pair_right [eD p, eD q] = .ret false (.bl true) [.non, .non] := pair_ok hp.1 hp.2 hq.1 hq.2
  have e2 : (fun ds => (Φ_L_pair_right ds).plain) [eD p, eD q] = .ret false (.bl true) [.non, .non] := by
    show (Φ_L_pair_right [eD p, eD q]).plain = _
    rw [e]
    rfl
  clear hp hq e
  unfold B_law_2
  generalize (fun ds => (Φ_L_pair_right ds).plain) = f at e2 ⊢
  generalize eD p = x at *
  generalize eD q = y at *
  walk_at "ev"
theorem l2 {es : List En7} (hes : ∀ p, p ∈ es → Ok7 p) {p : En7} (hp : Ok7 p) (s0 s1 s2 s3 s5 s6 s7 s9 : Slot) : ∃ t9, L_law_2 [s0, s1, s2, s3, .sh (.lst (es.map eD)), s5, s6, s7, .sh (eD p), s9] = .val .nx [s0, s1, s2, s3, .sh (.lst (es.map eD)), s5, s6, s7, .sh (eD p), t9] := by
  obtain ⟨env', e, t9, rfl⟩ := loop_ok (p := .nm 9) (s := B_law_2) (ds := es.map eD) (fun i env => ∃ t9, env = [s0, s1, s2, s3, .sh (.lst (es.map eD)), s5, s6, s7, .sh (eD p), t9]) (fun i d env hd hi => by
    obtain ⟨t9, rfl⟩ := hi
    obtain ⟨q, hq, rfl⟩ := List.mem_map.mp (List.mem_of_getElem? hd)
    exact ⟨_, _, rfl, .inl (b2 hp (hes q hq) s0 s1 s2 s3 (.sh (.lst (es.map eD))) s5 s6 s7), _, rfl⟩) (env := [s0, s1, s2, s3, .sh (.lst (es.map eD)), s5, s6, s7, .sh (eD p), s9]) ⟨_, rfl⟩
  exact ⟨t9, e⟩
theorem h4 {p : En7} (hp : Ok7 p) (s0 s1 s2 s3 s4 s5 s6 s7 s9 : Slot) : H_law_4 [s0, s1, s2, s3, s4, s5, s6, s7, .sh (eD p), s9] = .val .nx [s0, s1, s2, s3, s4, s5, s6, s7, .sh (eD p), s9] := by
  have e : Φ_L_alone_right [eD p] = .ret false (.bl true) [.non] := alone_ok hp.1 hp.2
  clear hp
  unfold H_law_4
  generalize eD p = x at *
  walk_at "ev"
theorem l3 {es : List En7} (hes : ∀ p, p ∈ es → Ok7 p) (s0 s1 s2 s3 s5 s6 s7 s8 s9 : Slot) : ∃ t8 t9, L_law_3 [s0, s1, s2, s3, .ow (.lst (es.map eD)), s5, s6, s7, s8, s9] = .val .nx [s0, s1, s2, s3, .sh (.lst (es.map eD)), s5, s6, s7, t8, t9] := by
  obtain ⟨env', e, t8, t9, rfl⟩ := loop_ok (p := .nm 8) (s := B_law_3) (ds := es.map eD) (fun i env => ∃ t8 t9, env = [s0, s1, s2, s3, .sh (.lst (es.map eD)), s5, s6, s7, t8, t9]) (fun i d env hd hi => by
    obtain ⟨t8, t9, rfl⟩ := hi
    obtain ⟨q, hq, rfl⟩ := List.mem_map.mp (List.mem_of_getElem? hd)
    obtain ⟨u9, e⟩ := l2 hes (hes q hq) s0 s1 s2 s3 s5 s6 s7 t9
    exact ⟨_, _, rfl, .inl (seq7 (h4 (hes q hq) s0 s1 s2 s3 (.sh (.lst (es.map eD))) s5 s6 s7 t9) e), _, _, rfl⟩) (env := [s0, s1, s2, s3, .sh (.lst (es.map eD)), s5, s6, s7, s8, s9]) ⟨_, _, rfl⟩
  exact ⟨t8, t9, e⟩
/-- the slots within the turns -/
def InvT (sc at_ : D) (k : Int) (env : List Slot) : Prop := ∃ bag s3 s4 s5 s6 s7 s8 s9, env = [.sh sc, .sh at_, .ow bag, s3, s4, s5, s6, s7, s8, s9] ∧ BagA k bag
theorem b4 (sc at_ bag : D) (s3 s4 s5 s6 s7 s8 s9 : Slot) (k : Int) (hb : BagA k bag) (hk : k < 400000) : ∃ bag' t4 t5 t6 t7 t8 t9, B_law_4 [.sh sc, .sh at_, .ow bag, s3, s4, s5, s6, s7, s8, s9] = .val .nx [.sh sc, .sh at_, .ow bag', s3, t4, t5, t6, t7, t8, t9] ∧ BagA (k + 96) bag' := by
  have e6 : H_law_6 [.sh sc, .sh at_, .ow bag, s3, s4, s5, s6, s7, s8, s9] = .val .nx [.sh sc, .sh at_, .ow bag, s3, .ow (.lst []), s5, s6, s7, s8, s9] := rfl
  obtain ⟨env', e1, bag1, es, t5, t6, t7, rfl, hb1, _, hes⟩ := l1 sc at_ s3 s8 s9 k (by omega) (env := [.sh sc, .sh at_, .ow bag, s3, .ow (.lst []), s5, s6, s7, s8, s9]) ⟨bag, [], s5, s6, s7, rfl, hb, rfl, fun p hp => by cases hp⟩
  obtain ⟨t8, t9, e3⟩ := l3 hes (.sh sc) (.sh at_) (.ow bag1) s3 t5 t6 t7 s8 s9
  exact ⟨bag1, _, t5, t6, t7, t8, t9, seq7 e6 (seq7 e1 e3), hb1⟩
theorem l4 (sc at_ : D) {env : List Slot} (h : InvT sc at_ 0 env) : ∃ env', L_law_4 env = .val .nx env' ∧ InvT sc at_ 480 env' := by
  obtain ⟨env', e, hi⟩ := loop_ok (p := .nm 3) (s := B_law_4) (ds := rangeD 0 5) (fun i env => i ≤ 5 ∧ InvT sc at_ (96 * (i : Int)) env) (fun i d env hd hi => by
    obtain ⟨hl, rfl⟩ := rangeD_get hd
    obtain ⟨_, bag, s3, s4, s5, s6, s7, s8, s9, rfl, hb⟩ := hi
    obtain ⟨bag', t4, t5, t6, t7, t8, t9, e, hb'⟩ := b4 sc at_ bag (.sh (.int (0 + (i : Int)))) s4 s5 s6 s7 s8 s9 _ hb (by omega)
    exact ⟨_, _, rfl, .inl e, by omega, bag', _, t4, t5, t6, t7, t8, t9, rfl, hb'.more (by omega)⟩) (env := env) ⟨by omega, by simpa using h⟩
  rw [rangeD_len] at hi
  exact ⟨env', loop_rng (n := 5) (by omega) e, hi.2⟩
def InvO (sc : D) (env : List Slot) : Prop := ∃ s1 s2 s3 s4 s5 s6 s7 s8 s9, env = [.sh sc, s1, s2, s3, s4, s5, s6, s7, s8, s9]
theorem b5 (ns : List Int) (i : Nat) (hi : i < 1000) (s2 s3 s4 s5 s6 s7 s8 s9 : Slot) : ∃ env', B_law_5 [.sh (.scr ns), .sh (.int (i : Int)), s2, s3, s4, s5, s6, s7, s8, s9] = .val .nx env' ∧ InvO (.scr ns) env' := by
  obtain ⟨d, e, hb⟩ := bag_ok ns i hi
  have e1 : H_law_7 [.sh (.scr ns), .sh (.int (i : Int)), s2, s3, s4, s5, s6, s7, s8, s9] = .val .nx [.sh (.scr ns), .sh (.int (i : Int)), .ow d, s3, s4, s5, s6, s7, s8, s9] := by
    clear hi hb
    unfold H_law_7
    walk_at "ev"
  obtain ⟨env', e2, bag, t3, t4, t5, t6, t7, t8, t9, rfl, _⟩ := l4 (.scr ns) (.int (i : Int)) ⟨d, s3, s4, s5, s6, s7, s8, s9, rfl, hb⟩
  exact ⟨_, seq7 e1 e2, _, _, _, _, _, _, _, _, _, rfl⟩
theorem many_cells (m : Nat) (env : List Slot) (h : m ≤ 1000) : ∃ n : Nat, n ≤ 4 ∧ ((o2 oMin [.int 4, .int (m : Int)]).bind fun x => o2 oMax [.int 2, x]) = some (.int (n : Int)) := by
  refine ⟨if 2 < min 4 m then min 4 m else 2, by split <;> omega, ?_⟩
  simp only [o2, oMin_int, oMax_int, Option.bind_some]
  congr 2
  split <;> split <;> split <;> omega
theorem l5 (ns : List Int) (hns : ns.length ≤ 63) {env : List Slot} (h : InvO (.scr ns) env) : ∃ env', L_law_5 env = .val .nx env' ∧ InvO (.scr ns) env' := by
  obtain ⟨n, hn, hc⟩ := many_cells ns.length env (by omega)
  obtain ⟨env', e, hi⟩ := loop_ok (p := .nm 1) (s := B_law_5) (ds := rangeD 0 n) (fun i env => InvO (.scr ns) env) (fun i d env hd hi => by
    obtain ⟨hl, rfl⟩ := rangeD_get hd
    obtain ⟨s1, s2, s3, s4, s5, s6, s7, s8, s9, rfl⟩ := hi
    obtain ⟨env', e, h'⟩ := b5 ns i (by omega) s2 s3 s4 s5 s6 s7 s8 s9
    refine ⟨_, env', rfl, .inl ?_, h'⟩
    rw [Int.zero_add]
    exact e) (env := env) h
  refine ⟨env', ?_, hi⟩
  obtain ⟨s1, s2, s3, s4, s5, s6, s7, s8, s9, rfl⟩ := h
  have hr := rng1_nat (n := n) (by omega)
  simp only [o2, oMin_int, oMax_int, Option.bind_some] at hc
  have hc := Option.some.inj hc
  clear hi hns hn
  unfold L_law_5
  generalize B_law_5 = bb at e ⊢
  walk_at "ev"
theorem law_true (ns : List Int) (h : ns.length ≤ 63) : ∃ l, Φ_law [.scr ns] = .ret false (.bl true) l := by
  obtain ⟨env', e, s1, s2, s3, s4, s5, s6, s7, s8, s9, rfl⟩ := l5 ns h (env := [.sh (.scr ns), .un, .un, .un, .un, .un, .un, .un, .un, .un]) ⟨_, _, _, _, _, _, _, _, _, rfl⟩
  have e2 : R_law_8 [.sh (.scr ns), s1, s2, s3, s4, s5, s6, s7, s8, s9] = .val (.rt false (.bl true)) [.sh (.scr ns), s1, s2, s3, s4, s5, s6, s7, s8, s9] := rfl
  have : F_law [.sh (.scr ns), .un, .un, .un, .un, .un, .un, .un, .un, .un] = .val (.rt false (.bl true)) _ := seq7 e e2
  refine ⟨[.non], ?_⟩
  show ((Res.of [false] (F_law [.sh (.scr ns), .un, .un, .un, .un, .un, .un, .un, .un, .un])).quiet) = _
  rw [this]
  rfl
end K07
set_option Elab.async false
set_option linter.all false
set_option maxRecDepth 100000
set_option maxHeartbeats 4000000
namespace K07
open PySem L2 Sb Vl Pg
abbrev sBadEnd_init : Stmt := inClass (top 1) 0
theorem scBadEnd_init : FnScope ["self", "part", "row"] ["self", "part", "row"] (defScope sBadEnd_init) := ⟨rfl, rfl, rfl, by decide +kernel, rfl, by decide +kernel, by decide +kernel⟩
abbrev sBadText_init : Stmt := inClass (top 2) 0
theorem scBadText_init : FnScope ["self", "text"] ["self", "text"] (defScope sBadText_init) := ⟨rfl, rfl, rfl, by decide +kernel, rfl, by decide +kernel, by decide +kernel⟩
abbrev sEnd_hearer : Stmt := inClass (top 20) 3
theorem scEnd_hearer : FnScope ["self"] ["self"] (defScope sEnd_hearer) := ⟨rfl, rfl, rfl, by decide +kernel, rfl, by decide +kernel, by decide +kernel⟩
abbrev sEnd_sender : Stmt := inClass (top 20) 4
theorem scEnd_sender : FnScope ["self"] ["self"] (defScope sEnd_sender) := ⟨rfl, rfl, rfl, by decide +kernel, rfl, by decide +kernel, by decide +kernel⟩
theorem ok_BadEnd_init {P : Program} {w : World} {K : PySem.W.Frag} {mg : Str → Option Value} {base : Heap} {f C : Addr} {fd : FuncData} (F : Fun K "__init__" "BadEnd.__init__" sBadEnd_init f fd) (c : OexC K C) (n1 : PySem.W.findIn K (.ref C) "part" = some none) (n2 : PySem.W.findIn K (.ref C) "row" = some none) :
    FnOk P w K mg base CX0 1 f fd ["self", "part", "row"] (spXI C ["row", "part"]) := by
  refine F.ok scBadEnd_init (fun vs H Q E h => ?_) (fun cdv A outer s H vs Q E hr h => ?_)
  · obtain ⟨a, ws, rfl, hl, _⟩ := h
    simp [hl]
  · obtain ⟨a, v1, v2, rfl, ea, k⟩ := spXI_two h
    refine ⟨_, (pss_cons (ps_ost (pv 0) (pv 1)) (pss_one (ps_ost (pv 0) (pv 2)))), ?_⟩
    refine ⟨_, rfl, _, rfl, a, C, rfl, c, n1, .inl ⟨ea, fun dx hdx ne => ?_⟩⟩
    refine ⟨_, rfl, _, rfl, a, C, rfl, c, n2, .inr ⟨dx, _, upd_same, by rw [upd_ne ne]; exact upd_same, (by show 1 ≤ 900; decide), ?_⟩⟩
    exact k _ dx (by rw [upd_ne (Ne.symm ne)]; exact upd_same) hdx ne upd_same fun b o e hb => by
      rw [upd_ne (ne_of_none e hdx), upd_ne hb, upd_ne (ne_of_none e hdx)]
      exact e
theorem ok_BadText_init {P : Program} {w : World} {K : PySem.W.Frag} {mg : Str → Option Value} {base : Heap} {f C : Addr} {fd : FuncData} (F : Fun K "__init__" "BadText.__init__" sBadText_init f fd) (c : OexC K C) (n1 : PySem.W.findIn K (.ref C) "text" = some none) :
    FnOk P w K mg base CX0 1 f fd ["self", "text"] (spXI C ["text"]) := by
  refine F.ok scBadText_init (fun vs H Q E h => ?_) (fun cdv A outer s H vs Q E hr h => ?_)
  · obtain ⟨a, ws, rfl, hl, _⟩ := h
    simp [hl]
  · obtain ⟨a, v1, rfl, ea, k⟩ := spXI_one h
    refine ⟨_, (pss_one (ps_ost (pv 0) (pv 1))), ?_⟩
    refine ⟨_, rfl, _, rfl, a, C, rfl, c, n1, .inl ⟨ea, fun dx hdx ne => ?_⟩⟩
    exact k _ dx upd_same hdx ne (by rw [upd_ne ne]; exact upd_same) fun b o e hb => by
      rw [upd_ne hb, upd_ne (ne_of_none e hdx)]
      exact e
theorem ok_End_hearer_get {P : Program} {w : World} {K : PySem.W.Frag} {mg : Str → Option Value} {base : Heap} {f D : Addr} {fd : FuncData} (F : Fun K "hearer" "End.hearer" sEnd_hearer f fd) (c : Cls K D) (n : NoAttr K D "hearer_rows") : FnOk P w K mg base CX0 1 f fd ["self"] (getSp D "hearer_rows") := by
  obtain ⟨oc, od, kV, doc, pm, an, cdv, ct, osl, rfl, at_, cd_⟩ := F.ex
  exact fn_getter at_ cd_ scEnd_hearer rfl rfl c n
theorem ok_End_sender_get {P : Program} {w : World} {K : PySem.W.Frag} {mg : Str → Option Value} {base : Heap} {f D : Addr} {fd : FuncData} (F : Fun K "sender" "End.sender" sEnd_sender f fd) (c : Cls K D) (n : NoAttr K D "sender_rows") : FnOk P w K mg base CX0 1 f fd ["self"] (getSp D "sender_rows") := by
  obtain ⟨oc, od, kV, doc, pm, an, cdv, ct, osl, rfl, at_, cd_⟩ := F.ex
  exact fn_getter at_ cd_ scEnd_sender rfl rfl c n
theorem all_mk {l : PySem.W.OpenLaw} {w : World} {K : PySem.W.Frag} {h : Heap} {mg : Str → Option Value} {fa : Addr} (X : K.In h) (G : h.Ns mainGlobals mg) (hfa : mg "law" = some (.ref fa))
    {C_End : Addr}
    {C_BadEnd : Addr}
    {C_BadText : Addr}
    {f1 : Addr} {oc1 dc1 pm1 cd1 ct1 : Value} {od1 an1 : Option Addr} {sl1 : Array (Option Value)} {kV1 : Value}
    {f2 : Addr} {oc2 dc2 pm2 cd2 ct2 : Value} {od2 an2 : Option Addr} {sl2 : Array (Option Value)} {kV2 : Value}
    {f3 : Addr} {oc3 dc3 pm3 cd3 ct3 : Value} {od3 an3 : Option Addr} {sl3 : Array (Option Value)} {kV3 : Value}
    {p3 : Addr} {rs3 : List Value}
    {f4 : Addr} {oc4 dc4 pm4 cd4 ct4 : Value} {od4 an4 : Option Addr} {sl4 : Array (Option Value)} {kV4 : Value}
    {p4 : Addr} {rs4 : List Value}
    {f5 : Addr} {oc5 dc5 pm5 cd5 ct5 : Value} {od5 an5 : Option Addr} {sl5 : Array (Option Value)} {kV5 : Value}
    {f6 : Addr} {oc6 dc6 pm6 cd6 ct6 : Value} {od6 an6 : Option Addr} {sl6 : Array (Option Value)} {kV6 : Value}
    {f7 : Addr} {oc7 dc7 pm7 cd7 ct7 : Value} {od7 an7 : Option Addr} {sl7 : Array (Option Value)} {kV7 : Value}
    {f8 : Addr} {oc8 dc8 pm8 cd8 ct8 : Value} {od8 an8 : Option Addr} {sl8 : Array (Option Value)} {kV8 : Value}
    {f9 : Addr} {oc9 dc9 pm9 cd9 ct9 : Value} {od9 an9 : Option Addr} {sl9 : Array (Option Value)} {kV9 : Value}
    {f10 : Addr} {oc10 dc10 pm10 cd10 ct10 : Value} {od10 an10 : Option Addr} {sl10 : Array (Option Value)} {kV10 : Value}
    {f11 : Addr} {oc11 dc11 pm11 cd11 ct11 : Value} {od11 an11 : Option Addr} {sl11 : Array (Option Value)} {kV11 : Value}
    {f12 : Addr} {oc12 dc12 pm12 cd12 ct12 : Value} {od12 an12 : Option Addr} {sl12 : Array (Option Value)} {kV12 : Value}
    {f13 : Addr} {oc13 dc13 pm13 cd13 ct13 : Value} {od13 an13 : Option Addr} {sl13 : Array (Option Value)} {kV13 : Value}
    {f14 : Addr} {oc14 dc14 pm14 cd14 ct14 : Value} {od14 an14 : Option Addr} {sl14 : Array (Option Value)} {kV14 : Value}
    {f15 : Addr} {oc15 dc15 pm15 cd15 ct15 : Value} {od15 an15 : Option Addr} {sl15 : Array (Option Value)} {kV15 : Value}
    {f16 : Addr} {oc16 dc16 pm16 cd16 ct16 : Value} {od16 an16 : Option Addr} {sl16 : Array (Option Value)} {kV16 : Value}
    {f17 : Addr} {oc17 dc17 pm17 cd17 ct17 : Value} {od17 an17 : Option Addr} {sl17 : Array (Option Value)} {kV17 : Value}
    {f18 : Addr} {oc18 dc18 pm18 cd18 ct18 : Value} {od18 an18 : Option Addr} {sl18 : Array (Option Value)} {kV18 : Value}
    {f19 : Addr} {oc19 dc19 pm19 cd19 ct19 : Value} {od19 an19 : Option Addr} {sl19 : Array (Option Value)} {kV19 : Value}
    {f20 : Addr} {oc20 dc20 pm20 cd20 ct20 : Value} {od20 an20 : Option Addr} {sl20 : Array (Option Value)} {kV20 : Value}
    {f21 : Addr} {oc21 dc21 pm21 cd21 ct21 : Value} {od21 an21 : Option Addr} {sl21 : Array (Option Value)} {kV21 : Value}
    {f22 : Addr} {oc22 dc22 pm22 cd22 ct22 : Value} {od22 an22 : Option Addr} {sl22 : Array (Option Value)} {kV22 : Value}
    {p22 : Addr} {rs22 : List Value}
    {f23 : Addr} {oc23 dc23 pm23 cd23 ct23 : Value} {od23 an23 : Option Addr} {sl23 : Array (Option Value)} {kV23 : Value}
    {f24 : Addr} {oc24 dc24 pm24 cd24 ct24 : Value} {od24 an24 : Option Addr} {sl24 : Array (Option Value)} {kV24 : Value}
    {f25 : Addr} {oc25 dc25 pm25 cd25 ct25 : Value} {od25 an25 : Option Addr} {sl25 : Array (Option Value)} {kV25 : Value}
    {f26 : Addr} {oc26 dc26 pm26 cd26 ct26 : Value} {od26 an26 : Option Addr} {sl26 : Array (Option Value)} {kV26 : Value}
    {f27 : Addr} {oc27 dc27 pm27 cd27 ct27 : Value} {od27 an27 : Option Addr} {sl27 : Array (Option Value)} {kV27 : Value}
    {f28 : Addr} {oc28 dc28 pm28 cd28 ct28 : Value} {od28 an28 : Option Addr} {sl28 : Array (Option Value)} {kV28 : Value}
    {f29 : Addr} {oc29 dc29 pm29 cd29 ct29 : Value} {od29 an29 : Option Addr} {sl29 : Array (Option Value)} {kV29 : Value}
    {f30 : Addr} {oc30 dc30 pm30 cd30 ct30 : Value} {od30 an30 : Option Addr} {sl30 : Array (Option Value)} {kV30 : Value}
    {f31 : Addr} {oc31 dc31 pm31 cd31 ct31 : Value} {od31 an31 : Option Addr} {sl31 : Array (Option Value)} {kV31 : Value}
    {f32 : Addr} {oc32 dc32 pm32 ct32 : Value} {cc32 P32 : Addr} {od32 an32 : Option Addr} {sl32 : Array (Option Value)} {kV32 : Value}
    {f33 : Addr} {oc33 dc33 pm33 cd33 ct33 : Value} {od33 an33 : Option Addr} {sl33 : Array (Option Value)} {kV33 : Value}
    {f34 : Addr} {oc34 dc34 pm34 cd34 ct34 : Value} {od34 an34 : Option Addr} {sl34 : Array (Option Value)} {kV34 : Value}
    {A_HEARER_WORDS : Addr} {dd_HEARER_WORDS : Option Addr} {nn_HEARER_WORDS : Nat} {sl_HEARER_WORDS : Array (Option Value)} {tk_HEARER_WORDS_0 : Tok} {tk_HEARER_WORDS_1 : Tok}
    {tk_MOST_DIGITS : Tok}
    {A_SENDER_WORDS : Addr} {dd_SENDER_WORDS : Option Addr} {nn_SENDER_WORDS : Nat} {sl_SENDER_WORDS : Array (Option Value)} {tk_SENDER_WORDS_0 : Tok} {tk_SENDER_WORDS_1 : Tok}
    {tcv_End_MOST : Tok}
    {nm_BadEnd q_BadEnd : Str} {N_BadEnd : Addr} {bs_BadEnd : List Value} {sn_BadEnd : List Str} {sub_BadEnd : List Value} {ab_BadEnd : Bool} {col_BadEnd : Option Bool} {dd_BadEnd : Option Addr} {m0_BadEnd m1_BadEnd m2_BadEnd m3_BadEnd m5_BadEnd : Option Value}
    {nm_BadText q_BadText : Str} {N_BadText : Addr} {bs_BadText : List Value} {sn_BadText : List Str} {sub_BadText : List Value} {ab_BadText : Bool} {col_BadText : Option Bool} {dd_BadText : Option Addr} {m0_BadText m1_BadText m2_BadText m3_BadText m5_BadText : Option Value}
    (a1 : PySem.W.findIn K (.ref C_BadEnd) "__init__" = some (some (.ref f1))) (i1 : PySem.W.isFn K (.ref f1) = true)
    (l1 : K.lookup f1 = some ⟨oc1, od1, .func (PySem.W.fnOf "__init__" "BadEnd.__init__" (defArgs sBadEnd_init) (defBody sBadEnd_init) (defScope sBadEnd_init) .none kV1 dc1 pm1 an1 cd1 ct1), sl1⟩) (c1 : PySem.W.codeIn K cd1 "BadEnd.__init__" = true) (k1 : PySem.W.keepIn K (.ref f1) = true)
    (a2 : PySem.W.findIn K (.ref C_BadText) "__init__" = some (some (.ref f2))) (i2 : PySem.W.isFn K (.ref f2) = true)
    (l2 : K.lookup f2 = some ⟨oc2, od2, .func (PySem.W.fnOf "__init__" "BadText.__init__" (defArgs sBadText_init) (defBody sBadText_init) (defScope sBadText_init) .none kV2 dc2 pm2 an2 cd2 ct2), sl2⟩) (c2 : PySem.W.codeIn K cd2 "BadText.__init__" = true) (k2 : PySem.W.keepIn K (.ref f2) = true)
    (a3 : PySem.W.findIn K (.ref C_End) "hearer" = some (some (.ref p3))) (g3 : PySem.W.specialIn K (.ref p3) "__get__" = some (some (.builtin "property.__get__"))) (t3 : PySem.W.takesIn K (.ref p3) = some true) (r3 : PySem.W.recIn K p3 "property" = some (.ref f3 :: rs3))
    (l3 : K.lookup f3 = some ⟨oc3, od3, .func (PySem.W.fnOf "hearer" "End.hearer" (defArgs sEnd_hearer) (defBody sEnd_hearer) (defScope sEnd_hearer) .none kV3 dc3 pm3 an3 cd3 ct3), sl3⟩) (c3 : PySem.W.codeIn K cd3 "End.hearer" = true) (k3 : PySem.W.keepIn K (.ref f3) = true)
    (a4 : PySem.W.findIn K (.ref C_End) "sender" = some (some (.ref p4))) (g4 : PySem.W.specialIn K (.ref p4) "__get__" = some (some (.builtin "property.__get__"))) (t4 : PySem.W.takesIn K (.ref p4) = some true) (r4 : PySem.W.recIn K p4 "property" = some (.ref f4 :: rs4))
    (l4 : K.lookup f4 = some ⟨oc4, od4, .func (PySem.W.fnOf "sender" "End.sender" (defArgs sEnd_sender) (defBody sEnd_sender) (defScope sEnd_sender) .none kV4 dc4 pm4 an4 cd4 ct4), sl4⟩) (c4 : PySem.W.codeIn K cd4 "End.sender" = true) (k4 : PySem.W.keepIn K (.ref f4) = true)
    (a5 : PySem.W.nsIn K mainGlobals "is_number" = some (some (.ref f5)))
    (l5 : K.lookup f5 = some ⟨oc5, od5, .func (PySem.W.fnOf "is_number" "is_number" (defArgs sis_number) (defBody sis_number) (defScope sis_number) .none kV5 dc5 pm5 an5 cd5 ct5), sl5⟩) (c5 : PySem.W.codeIn K cd5 "is_number" = true) (k5 : PySem.W.keepIn K (.ref f5) = true)
    (a6 : PySem.W.nsIn K mainGlobals "is_follower" = some (some (.ref f6)))
    (l6 : K.lookup f6 = some ⟨oc6, od6, .func (PySem.W.fnOf "is_follower" "is_follower" (defArgs sis_follower) (defBody sis_follower) (defScope sis_follower) .none kV6 dc6 pm6 an6 cd6 ct6), sl6⟩) (c6 : PySem.W.codeIn K cd6 "is_follower" = true) (k6 : PySem.W.keepIn K (.ref f6) = true)
    (a7 : PySem.W.nsIn K mainGlobals "is_row" = some (some (.ref f7)))
    (l7 : K.lookup f7 = some ⟨oc7, od7, .func (PySem.W.fnOf "is_row" "is_row" (defArgs sis_row) (defBody sis_row) (defScope sis_row) .none kV7 dc7 pm7 an7 cd7 ct7), sl7⟩) (c7 : PySem.W.codeIn K cd7 "is_row" = true) (k7 : PySem.W.keepIn K (.ref f7) = true)
    (a8 : PySem.W.nsIn K mainGlobals "reached" = some (some (.ref f8)))
    (l8 : K.lookup f8 = some ⟨oc8, od8, .func (PySem.W.fnOf "reached" "reached" (defArgs sreached) (defBody sreached) (defScope sreached) .none kV8 dc8 pm8 an8 cd8 ct8), sl8⟩) (c8 : PySem.W.codeIn K cd8 "reached" = true) (k8 : PySem.W.keepIn K (.ref f8) = true)
    (a9 : PySem.W.nsIn K mainGlobals "check_machine" = some (some (.ref f9)))
    (l9 : K.lookup f9 = some ⟨oc9, od9, .func (PySem.W.fnOf "check_machine" "check_machine" (defArgs scheck_machine) (defBody scheck_machine) (defScope scheck_machine) .none kV9 dc9 pm9 an9 cd9 ct9), sl9⟩) (c9 : PySem.W.codeIn K cd9 "check_machine" = true) (k9 : PySem.W.keepIn K (.ref f9) = true)
    (a10 : PySem.W.nsIn K mainGlobals "numbered_rows" = some (some (.ref f10)))
    (l10 : K.lookup f10 = some ⟨oc10, od10, .func (PySem.W.fnOf "numbered_rows" "numbered_rows" (defArgs snumbered_rows) (defBody snumbered_rows) (defScope snumbered_rows) .none kV10 dc10 pm10 an10 cd10 ct10), sl10⟩) (c10 : PySem.W.codeIn K cd10 "numbered_rows" = true) (k10 : PySem.W.keepIn K (.ref f10) = true)
    (a11 : PySem.W.findIn K (.ref C_End) "__init__" = some (some (.ref f11))) (i11 : PySem.W.isFn K (.ref f11) = true)
    (l11 : K.lookup f11 = some ⟨oc11, od11, .func (PySem.W.fnOf "__init__" "End.__init__" (defArgs sEnd_init) (defBody sEnd_init) (defScope sEnd_init) .none kV11 dc11 pm11 an11 cd11 ct11), sl11⟩) (c11 : PySem.W.codeIn K cd11 "End.__init__" = true) (k11 : PySem.W.keepIn K (.ref f11) = true)
    (a12 : PySem.W.findIn K (.ref C_End) "__eq__" = some (some (.ref f12))) (i12 : PySem.W.isFn K (.ref f12) = true)
    (l12 : K.lookup f12 = some ⟨oc12, od12, .func (PySem.W.fnOf "__eq__" "End.__eq__" (defArgs sEnd_eq) (defBody sEnd_eq) (defScope sEnd_eq) .none kV12 dc12 pm12 an12 cd12 ct12), sl12⟩) (c12 : PySem.W.codeIn K cd12 "End.__eq__" = true) (k12 : PySem.W.keepIn K (.ref f12) = true)
    (a13 : PySem.W.findIn K (.ref C_End) "__contains__" = some (some (.ref f13))) (i13 : PySem.W.isFn K (.ref f13) = true)
    (l13 : K.lookup f13 = some ⟨oc13, od13, .func (PySem.W.fnOf "__contains__" "End.__contains__" (defArgs sEnd_contains) (defBody sEnd_contains) (defScope sEnd_contains) .none kV13 dc13 pm13 an13 cd13 ct13), sl13⟩) (c13 : PySem.W.codeIn K cd13 "End.__contains__" = true) (k13 : PySem.W.keepIn K (.ref f13) = true)
    (a14 : PySem.W.findIn K (.ref C_End) "__len__" = some (some (.ref f14))) (i14 : PySem.W.isFn K (.ref f14) = true)
    (l14 : K.lookup f14 = some ⟨oc14, od14, .func (PySem.W.fnOf "__len__" "End.__len__" (defArgs sEnd_len) (defBody sEnd_len) (defScope sEnd_len) .none kV14 dc14 pm14 an14 cd14 ct14), sl14⟩) (c14 : PySem.W.codeIn K cd14 "End.__len__" = true) (k14 : PySem.W.keepIn K (.ref f14) = true)
    (a15 : PySem.W.findIn K (.ref C_End) "__iter__" = some (some (.ref f15))) (i15 : PySem.W.isFn K (.ref f15) = true)
    (l15 : K.lookup f15 = some ⟨oc15, od15, .func (PySem.W.fnOf "__iter__" "End.__iter__" (defArgs sEnd_iter) (defBody sEnd_iter) (defScope sEnd_iter) .none kV15 dc15 pm15 an15 cd15 ct15), sl15⟩) (c15 : PySem.W.codeIn K cd15 "End.__iter__" = true) (k15 : PySem.W.keepIn K (.ref f15) = true)
    (a16 : PySem.W.nsIn K mainGlobals "machine_text" = some (some (.ref f16)))
    (l16 : K.lookup f16 = some ⟨oc16, od16, .func (PySem.W.fnOf "machine_text" "machine_text" (defArgs smachine_text) (defBody smachine_text) (defScope smachine_text) .none kV16 dc16 pm16 an16 cd16 ct16), sl16⟩) (c16 : PySem.W.codeIn K cd16 "machine_text" = true) (k16 : PySem.W.keepIn K (.ref f16) = true)
    (a17 : PySem.W.findIn K (.ref C_End) "__str__" = some (some (.ref f17))) (i17 : PySem.W.isFn K (.ref f17) = true)
    (l17 : K.lookup f17 = some ⟨oc17, od17, .func (PySem.W.fnOf "__str__" "End.__str__" (defArgs sEnd_str) (defBody sEnd_str) (defScope sEnd_str) .none kV17 dc17 pm17 an17 cd17 ct17), sl17⟩) (c17 : PySem.W.codeIn K cd17 "End.__str__" = true) (k17 : PySem.W.keepIn K (.ref f17) = true)
    (a18 : PySem.W.nsIn K mainGlobals "is_numeral" = some (some (.ref f18)))
    (l18 : K.lookup f18 = some ⟨oc18, od18, .func (PySem.W.fnOf "is_numeral" "is_numeral" (defArgs sis_numeral) (defBody sis_numeral) (defScope sis_numeral) .none kV18 dc18 pm18 an18 cd18 ct18), sl18⟩) (c18 : PySem.W.codeIn K cd18 "is_numeral" = true) (k18 : PySem.W.keepIn K (.ref f18) = true)
    (a19 : PySem.W.nsIn K mainGlobals "read_follower" = some (some (.ref f19)))
    (l19 : K.lookup f19 = some ⟨oc19, od19, .func (PySem.W.fnOf "read_follower" "read_follower" (defArgs sread_follower) (defBody sread_follower) (defScope sread_follower) .none kV19 dc19 pm19 an19 cd19 ct19), sl19⟩) (c19 : PySem.W.codeIn K cd19 "read_follower" = true) (k19 : PySem.W.keepIn K (.ref f19) = true)
    (a20 : PySem.W.nsIn K mainGlobals "read_row" = some (some (.ref f20)))
    (l20 : K.lookup f20 = some ⟨oc20, od20, .func (PySem.W.fnOf "read_row" "read_row" (defArgs sread_row) (defBody sread_row) (defScope sread_row) .none kV20 dc20 pm20 an20 cd20 ct20), sl20⟩) (c20 : PySem.W.codeIn K cd20 "read_row" = true) (k20 : PySem.W.keepIn K (.ref f20) = true)
    (a21 : PySem.W.nsIn K mainGlobals "read_machines" = some (some (.ref f21)))
    (l21 : K.lookup f21 = some ⟨oc21, od21, .func (PySem.W.fnOf "read_machines" "read_machines" (defArgs sread_machines) (defBody sread_machines) (defScope sread_machines) .none kV21 dc21 pm21 an21 cd21 ct21), sl21⟩) (c21 : PySem.W.codeIn K cd21 "read_machines" = true) (k21 : PySem.W.keepIn K (.ref f21) = true)
    (a22 : PySem.W.findCls K (.ref C_End) (.type "type") "from_text" = some (.get (.builtin "classmethod.__get__") (.ref p22) .none (.ref C_End))) (r22 : PySem.W.recIn K p22 "classmethod" = some (.ref f22 :: rs22)) (i22 : PySem.W.fnIn K f22 = true)
    (l22 : K.lookup f22 = some ⟨oc22, od22, .func (PySem.W.fnOf "from_text" "End.from_text" (defArgs sEnd_from_text) (defBody sEnd_from_text) (defScope sEnd_from_text) .none kV22 dc22 pm22 an22 cd22 ct22), sl22⟩) (c22 : PySem.W.codeIn K cd22 "End.from_text" = true) (k22 : PySem.W.keepIn K (.ref f22) = true)
    (a23 : PySem.W.nsIn K mainGlobals "_law_bag" = some (some (.ref f23)))
    (l23 : K.lookup f23 = some ⟨oc23, od23, .func (PySem.W.fnOf "_law_bag" "_law_bag" (defArgs sL_bag) (defBody sL_bag) (defScope sL_bag) .none kV23 dc23 pm23 an23 cd23 ct23), sl23⟩) (c23 : PySem.W.codeIn K cd23 "_law_bag" = true) (k23 : PySem.W.keepIn K (.ref f23) = true)
    (a24 : PySem.W.nsIn K mainGlobals "_law_take" = some (some (.ref f24)))
    (l24 : K.lookup f24 = some ⟨oc24, od24, .func (PySem.W.fnOf "_law_take" "_law_take" (defArgs sL_take) (defBody sL_take) (defScope sL_take) .none kV24 dc24 pm24 an24 cd24 ct24), sl24⟩) (c24 : PySem.W.codeIn K cd24 "_law_take" = true) (k24 : PySem.W.keepIn K (.ref f24) = true)
    (a25 : PySem.W.nsIn K mainGlobals "_law_place" = some (some (.ref f25)))
    (l25 : K.lookup f25 = some ⟨oc25, od25, .func (PySem.W.fnOf "_law_place" "_law_place" (defArgs sL_place) (defBody sL_place) (defScope sL_place) .none kV25 dc25 pm25 an25 cd25 ct25), sl25⟩) (c25 : PySem.W.codeIn K cd25 "_law_place" = true) (k25 : PySem.W.keepIn K (.ref f25) = true)
    (a26 : PySem.W.nsIn K mainGlobals "_law_rows" = some (some (.ref f26)))
    (l26 : K.lookup f26 = some ⟨oc26, od26, .func (PySem.W.fnOf "_law_rows" "_law_rows" (defArgs sL_rows) (defBody sL_rows) (defScope sL_rows) .none kV26 dc26 pm26 an26 cd26 ct26), sl26⟩) (c26 : PySem.W.codeIn K cd26 "_law_rows" = true) (k26 : PySem.W.keepIn K (.ref f26) = true)
    (a27 : PySem.W.nsIn K mainGlobals "_law_led" = some (some (.ref f27)))
    (l27 : K.lookup f27 = some ⟨oc27, od27, .func (PySem.W.fnOf "_law_led" "_law_led" (defArgs sL_led) (defBody sL_led) (defScope sL_led) .none kV27 dc27 pm27 an27 cd27 ct27), sl27⟩) (c27 : PySem.W.codeIn K cd27 "_law_led" = true) (k27 : PySem.W.keepIn K (.ref f27) = true)
    (a28 : PySem.W.nsIn K mainGlobals "_law_hearer" = some (some (.ref f28)))
    (l28 : K.lookup f28 = some ⟨oc28, od28, .func (PySem.W.fnOf "_law_hearer" "_law_hearer" (defArgs sL_hearer) (defBody sL_hearer) (defScope sL_hearer) .none kV28 dc28 pm28 an28 cd28 ct28), sl28⟩) (c28 : PySem.W.codeIn K cd28 "_law_hearer" = true) (k28 : PySem.W.keepIn K (.ref f28) = true)
    (a29 : PySem.W.nsIn K mainGlobals "_law_sender" = some (some (.ref f29)))
    (l29 : K.lookup f29 = some ⟨oc29, od29, .func (PySem.W.fnOf "_law_sender" "_law_sender" (defArgs sL_sender) (defBody sL_sender) (defScope sL_sender) .none kV29 dc29 pm29 an29 cd29 ct29), sl29⟩) (c29 : PySem.W.codeIn K cd29 "_law_sender" = true) (k29 : PySem.W.keepIn K (.ref f29) = true)
    (a30 : PySem.W.nsIn K mainGlobals "_law_rows_of" = some (some (.ref f30)))
    (l30 : K.lookup f30 = some ⟨oc30, od30, .func (PySem.W.fnOf "_law_rows_of" "_law_rows_of" (defArgs sL_rows_of) (defBody sL_rows_of) (defScope sL_rows_of) .none kV30 dc30 pm30 an30 cd30 ct30), sl30⟩) (c30 : PySem.W.codeIn K cd30 "_law_rows_of" = true) (k30 : PySem.W.keepIn K (.ref f30) = true)
    (a31 : PySem.W.nsIn K mainGlobals "_law_tried" = some (some (.ref f31)))
    (l31 : K.lookup f31 = some ⟨oc31, od31, .func (PySem.W.fnOf "_law_tried" "_law_tried" (defArgs sL_tried) (defBody sL_tried) (defScope sL_tried) .none kV31 dc31 pm31 an31 cd31 ct31), sl31⟩) (c31 : PySem.W.codeIn K cd31 "_law_tried" = true) (k31 : PySem.W.keepIn K (.ref f31) = true)
    (a32 : PySem.W.nsIn K mainGlobals "_law_pair_right" = some (some (.ref f32)))
    (l32 : K.lookup f32 = some ⟨oc32, od32, .func (PySem.W.fnOf "_law_pair_right" "_law_pair_right" (defArgs sL_pair_right) (defBody sL_pair_right) (defScope sL_pair_right) .none kV32 dc32 pm32 an32 (.ref cc32) ct32), sl32⟩) (c32 : PySem.W.codeIn K (.ref cc32) "_law_pair_right" = true) (k32 : PySem.W.keepIn K (.ref f32) = true)
    (a33 : PySem.W.nsIn K mainGlobals "_law_alone_right" = some (some (.ref f33)))
    (l33 : K.lookup f33 = some ⟨oc33, od33, .func (PySem.W.fnOf "_law_alone_right" "_law_alone_right" (defArgs sL_alone_right) (defBody sL_alone_right) (defScope sL_alone_right) .none kV33 dc33 pm33 an33 cd33 ct33), sl33⟩) (c33 : PySem.W.codeIn K cd33 "_law_alone_right" = true) (k33 : PySem.W.keepIn K (.ref f33) = true)
    (a34 : PySem.W.nsIn K mainGlobals "law" = some (some (.ref f34)))
    (l34 : K.lookup f34 = some ⟨oc34, od34, .func (PySem.W.fnOf "law" "law" (defArgs slaw) (defBody slaw) (defScope slaw) .none kV34 dc34 pm34 an34 cd34 ct34), sl34⟩) (c34 : PySem.W.codeIn K cd34 "law" = true) (k34 : PySem.W.keepIn K (.ref f34) = true)
    (ch32 : PySem.W.codeHdIn K cc32 P32 = true) (np32 : K.lookup P32 = none)
    (z_abs : PySem.W.nsIn K mainGlobals "abs" = some none)
    (z_any : PySem.W.nsIn K mainGlobals "any" = some none)
    (z_bool : PySem.W.nsIn K mainGlobals "bool" = some none)
    (z_enumerate : PySem.W.nsIn K mainGlobals "enumerate" = some none)
    (z_int : PySem.W.nsIn K mainGlobals "int" = some none)
    (z_isinstance : PySem.W.nsIn K mainGlobals "isinstance" = some none)
    (z_iter : PySem.W.nsIn K mainGlobals "iter" = some none)
    (z_len : PySem.W.nsIn K mainGlobals "len" = some none)
    (z_list : PySem.W.nsIn K mainGlobals "list" = some none)
    (z_max : PySem.W.nsIn K mainGlobals "max" = some none)
    (z_min : PySem.W.nsIn K mainGlobals "min" = some none)
    (z_range : PySem.W.nsIn K mainGlobals "range" = some none)
    (z_str : PySem.W.nsIn K mainGlobals "str" = some none)
    (z_tuple : PySem.W.nsIn K mainGlobals "tuple" = some none)
    (m_HEARER_WORDS : PySem.W.nsIn K mainGlobals "HEARER_WORDS" = some (some (.ref A_HEARER_WORDS)))
    (ml_HEARER_WORDS : K.lookup A_HEARER_WORDS = some ⟨.type "tuple", dd_HEARER_WORDS, .seq #[.str "taken" tk_HEARER_WORDS_0, .str "lost" tk_HEARER_WORDS_1] nn_HEARER_WORDS, sl_HEARER_WORDS⟩)
    (m_MOST_DIGITS : PySem.W.nsIn K mainGlobals "MOST_DIGITS" = some (some (.int 9 tk_MOST_DIGITS)))
    (m_SENDER_WORDS : PySem.W.nsIn K mainGlobals "SENDER_WORDS" = some (some (.ref A_SENDER_WORDS)))
    (ml_SENDER_WORDS : K.lookup A_SENDER_WORDS = some ⟨.type "tuple", dd_SENDER_WORDS, .seq #[.str "done" tk_SENDER_WORDS_0, .str "again" tk_SENDER_WORDS_1] nn_SENDER_WORDS, sl_SENDER_WORDS⟩)
    (x_End : PySem.W.nsIn K mainGlobals "End" = some (some (.ref C_End)))
    (ypg_End : PySem.W.plainGet K C_End Str.empty = true)
    (yhd_End : PySem.W.hasDictIn K C_End = true)
    (ypo_End : PySem.W.plainOver K C_End = true)
    (ysa_End : PySem.W.findIn K (.ref C_End) "__setattr__" = some (some (.builtin "object.__setattr__")))
    (yic_End : PySem.W.isClsIn K C_End = true)
    (ytc_End : PySem.W.typeIn K (.ref C_End) = some (.type "type"))
    (yuc_End : PySem.W.findIn K (.ref C_End) "__class__" = some (some (.builtin "object.__class__")))
    (ymc_End : PySem.W.mroIn K C_End (.type "object") = some true)
    (ymk_End : PySem.W.makesIn K C_End = true)
    (ykc_End : PySem.W.keepIn K (.ref C_End) = true)
    (wg : PySem.W.specialIn K (.builtin "object.__class__") "__get__" = some (some (.builtin "getset_descriptor.__get__")))
    (wk : PySem.W.takesIn K (.builtin "object.__class__") = some true)
    (xga_BadEnd : PySem.W.findIn K (.ref C_BadEnd) "__getattribute__" = some (some (.builtin "BaseException.__getattribute__")))
    (xgg_BadEnd : PySem.W.findIn K (.ref C_BadEnd) "__getattr__" = some none)
    (xhC_BadEnd : PySem.W.hasDictIn K C_BadEnd = true)
    (xiC_BadEnd : PySem.W.isClsIn K C_BadEnd = true)
    (xsC_BadEnd : PySem.W.subIn K (.ref C_BadEnd) (.ref C_BadEnd) = some true)
    (n_End_hearer_rows : PySem.W.findIn K (.ref C_End) "hearer_rows" = some none)
    (n_End_rows : PySem.W.findIn K (.ref C_End) "rows" = some none)
    (n_End_sender_rows : PySem.W.findIn K (.ref C_End) "sender_rows" = some none)
    (yrd_End : PySem.W.readsIn K C_End (.type "type") = true)
    (yga_End : PySem.W.specialIn K (.ref C_End) "__getattribute__" = some (some (.builtin "type.__getattribute__")))
    (yat_End_MOST : PySem.W.findCls K (.ref C_End) (.type "type") "MOST" = some (.val (.int 100 tcv_End_MOST)))
    (x_BadEnd : PySem.W.nsIn K mainGlobals "BadEnd" = some (some (.ref C_BadEnd)))
    (xL_BadEnd : K.lookup C_BadEnd = some (excClassObj nm_BadEnd q_BadEnd C_BadEnd N_BadEnd bs_BadEnd [.type "ValueError", .type "Exception", .type "BaseException", .type "object"] true sn_BadEnd sub_BadEnd ab_BadEnd col_BadEnd dd_BadEnd m0_BadEnd m1_BadEnd m2_BadEnd m3_BadEnd m5_BadEnd "ValueError.__new__"))
    (xsa_BadEnd : PySem.W.findIn K (.ref C_BadEnd) "__setattr__" = some (some (.builtin "object.__setattr__")))
    (xt1_BadEnd : PySem.W.typeIn K (.ref f1) = some (.type "function"))
    (xkC_BadEnd : PySem.W.keepIn K (.ref C_BadEnd) = true)
    (xeC_BadEnd : PySem.W.subIn K (.ref C_BadEnd) (.type "BaseException") = some true)
    (xtC_BadEnd : PySem.W.typeIn K (.ref C_BadEnd) = some (.type "type"))
    (xn_BadEnd_part : PySem.W.findIn K (.ref C_BadEnd) "part" = some none)
    (xn_BadEnd_row : PySem.W.findIn K (.ref C_BadEnd) "row" = some none)
    (x_BadText : PySem.W.nsIn K mainGlobals "BadText" = some (some (.ref C_BadText)))
    (xL_BadText : K.lookup C_BadText = some (excClassObj nm_BadText q_BadText C_BadText N_BadText bs_BadText [.type "ValueError", .type "Exception", .type "BaseException", .type "object"] true sn_BadText sub_BadText ab_BadText col_BadText dd_BadText m0_BadText m1_BadText m2_BadText m3_BadText m5_BadText "ValueError.__new__"))
    (xsa_BadText : PySem.W.findIn K (.ref C_BadText) "__setattr__" = some (some (.builtin "object.__setattr__")))
    (xt1_BadText : PySem.W.typeIn K (.ref f2) = some (.type "function"))
    (xkC_BadText : PySem.W.keepIn K (.ref C_BadText) = true)
    (xeC_BadText : PySem.W.subIn K (.ref C_BadText) (.type "BaseException") = some true)
    (xtC_BadText : PySem.W.typeIn K (.ref C_BadText) = some (.type "type"))
    (xn_BadText_text : PySem.W.findIn K (.ref C_BadText) "text" = some none)
    (em32 : h.get? P32 = some (PySem.W.tabObj #[])) :
    ∃ (fd : FuncData) (cs : Tbs), (∀ (s : Shared) (v : Value), BindsTo s fd ⟨[v], []⟩ [("_law_script", v)]) ∧ (∀ p ∈ cs, h.get? p.2.2 = some (PySem.W.tabObj #[])) ∧ (∀ p ∈ cs, K.lookup p.2.2 = none) ∧ (∀ p ∈ cs, PySem.W.codeHdIn K p.2.1 p.2.2 = true) ∧ ∀ base : Heap, K.In base → base.Ns mainGlobals mg → (∀ p ∈ cs, LamX.TabB base mg p.2.1 p.2.2) → FnG l.prog w K mg base CX0 15 fa fd ["_law_script"] (spLawT K cs) := by
  have e := hfa.symm.trans (PySem.W.mg_of X G a34)
  cases e
  have F1 := fun_mk (st := sBadEnd_init) l1 c1 k1
  have B1 := F1.binds (ps := ["self", "part", "row"]) fun _ _ _ _ _ _ us hl => match us, hl with | [_, _, _], _ => rfl
  have F2 := fun_mk (st := sBadText_init) l2 c2 k2
  have B2 := F2.binds (ps := ["self", "text"]) fun _ _ _ _ _ _ us hl => match us, hl with | [_, _], _ => rfl
  have F3 := fun_mk (st := sEnd_hearer) l3 c3 k3
  have B3 := F3.binds (ps := ["self"]) fun _ _ _ _ _ _ us hl => match us, hl with | [_], _ => rfl
  have F4 := fun_mk (st := sEnd_sender) l4 c4 k4
  have B4 := F4.binds (ps := ["self"]) fun _ _ _ _ _ _ us hl => match us, hl with | [_], _ => rfl
  have F5 := fun_mk (st := sis_number) l5 c5 k5
  have B5 := F5.binds (ps := ["value"]) fun _ _ _ _ _ _ us hl => match us, hl with | [_], _ => rfl
  have F6 := fun_mk (st := sis_follower) l6 c6 k6
  have B6 := F6.binds (ps := ["value", "size", "words"]) fun _ _ _ _ _ _ us hl => match us, hl with | [_, _, _], _ => rfl
  have F7 := fun_mk (st := sis_row) l7 c7 k7
  have B7 := F7.binds (ps := ["value", "size", "words"]) fun _ _ _ _ _ _ us hl => match us, hl with | [_, _, _], _ => rfl
  have F8 := fun_mk (st := sreached) l8 c8 k8
  have B8 := F8.binds (ps := ["rows", "begin"]) fun _ _ _ _ _ _ us hl => match us, hl with | [_, _], _ => rfl
  have F9 := fun_mk (st := scheck_machine) l9 c9 k9
  have B9 := F9.binds (ps := ["part", "machine", "fewest", "most", "words"]) fun _ _ _ _ _ _ us hl => match us, hl with | [_, _, _, _, _], _ => rfl
  have F10 := fun_mk (st := snumbered_rows) l10 c10 k10
  have B10 := F10.binds (ps := ["part", "machine"]) fun _ _ _ _ _ _ us hl => match us, hl with | [_, _], _ => rfl
  have F11 := fun_mk (st := sEnd_init) l11 c11 k11
  have B11 := F11.binds (ps := ["self", "hearer", "sender"]) fun _ _ _ _ _ _ us hl => match us, hl with | [_, _, _], _ => rfl
  have F12 := fun_mk (st := sEnd_eq) l12 c12 k12
  have B12 := F12.binds (ps := ["self", "other"]) fun _ _ _ _ _ _ us hl => match us, hl with | [_, _], _ => rfl
  have F13 := fun_mk (st := sEnd_contains) l13 c13 k13
  have B13 := F13.binds (ps := ["self", "x"]) fun _ _ _ _ _ _ us hl => match us, hl with | [_, _], _ => rfl
  have F14 := fun_mk (st := sEnd_len) l14 c14 k14
  have B14 := F14.binds (ps := ["self"]) fun _ _ _ _ _ _ us hl => match us, hl with | [_], _ => rfl
  have F15 := fun_mk (st := sEnd_iter) l15 c15 k15
  have B15 := F15.binds (ps := ["self"]) fun _ _ _ _ _ _ us hl => match us, hl with | [_], _ => rfl
  have F16 := fun_mk (st := smachine_text) l16 c16 k16
  have B16 := F16.binds (ps := ["rows"]) fun _ _ _ _ _ _ us hl => match us, hl with | [_], _ => rfl
  have F17 := fun_mk (st := sEnd_str) l17 c17 k17
  have B17 := F17.binds (ps := ["self"]) fun _ _ _ _ _ _ us hl => match us, hl with | [_], _ => rfl
  have F18 := fun_mk (st := sis_numeral) l18 c18 k18
  have B18 := F18.binds (ps := ["piece"]) fun _ _ _ _ _ _ us hl => match us, hl with | [_], _ => rfl
  have F19 := fun_mk (st := sread_follower) l19 c19 k19
  have B19 := F19.binds (ps := ["piece"]) fun _ _ _ _ _ _ us hl => match us, hl with | [_], _ => rfl
  have F20 := fun_mk (st := sread_row) l20 c20 k20
  have B20 := F20.binds (ps := ["text"]) fun _ _ _ _ _ _ us hl => match us, hl with | [_], _ => rfl
  have F21 := fun_mk (st := sread_machines) l21 c21 k21
  have B21 := F21.binds (ps := ["text"]) fun _ _ _ _ _ _ us hl => match us, hl with | [_], _ => rfl
  have F22 := fun_mk (st := sEnd_from_text) l22 c22 k22
  have B22 := F22.binds (ps := ["cls", "text"]) fun _ _ _ _ _ _ us hl => match us, hl with | [_, _], _ => rfl
  have F23 := fun_mk (st := sL_bag) l23 c23 k23
  have B23 := F23.binds (ps := ["_law_script", "_law_at"]) fun _ _ _ _ _ _ us hl => match us, hl with | [_, _], _ => rfl
  have F24 := fun_mk (st := sL_take) l24 c24 k24
  have B24 := F24.binds (ps := ["_law_bag_here", "_law_many"]) fun _ _ _ _ _ _ us hl => match us, hl with | [_, _], _ => rfl
  have F25 := fun_mk (st := sL_place) l25 c25 k25
  have B25 := F25.binds (ps := ["_law_bag_here", "_law_many", "_law_words"]) fun _ _ _ _ _ _ us hl => match us, hl with | [_, _, _], _ => rfl
  have F26 := fun_mk (st := sL_rows) l26 c26 k26
  have B26 := F26.binds (ps := ["_law_bag_here", "_law_many", "_law_words"]) fun _ _ _ _ _ _ us hl => match us, hl with | [_, _, _], _ => rfl
  have F27 := fun_mk (st := sL_led) l27 c27 k27
  have B27 := F27.binds (ps := ["_law_rows_here", "_law_first"]) fun _ _ _ _ _ _ us hl => match us, hl with | [_, _], _ => rfl
  have F28 := fun_mk (st := sL_hearer) l28 c28 k28
  have B28 := F28.binds (ps := ["_law_bag_here", "_law_many"]) fun _ _ _ _ _ _ us hl => match us, hl with | [_, _], _ => rfl
  have F29 := fun_mk (st := sL_sender) l29 c29 k29
  have B29 := F29.binds (ps := ["_law_bag_here", "_law_many"]) fun _ _ _ _ _ _ us hl => match us, hl with | [_, _], _ => rfl
  have F30 := fun_mk (st := sL_rows_of) l30 c30 k30
  have B30 := F30.binds (ps := ["_law_end", "_law_name"]) fun _ _ _ _ _ _ us hl => match us, hl with | [_, _], _ => rfl
  have F31 := fun_mk (st := sL_tried) l31 c31 k31
  have B31 := F31.binds (ps := ["_law_call"]) fun _ _ _ _ _ _ us hl => match us, hl with | [_], _ => rfl
  have F32 := fun_mk (st := sL_pair_right) l32 c32 k32
  have B32 := F32.binds (ps := ["_law_one", "_law_other"]) fun _ _ _ _ _ _ us hl => match us, hl with | [_, _], _ => rfl
  have F33 := fun_mk (st := sL_alone_right) l33 c33 k33
  have B33 := F33.binds (ps := ["_law_end"]) fun _ _ _ _ _ _ us hl => match us, hl with | [_], _ => rfl
  have F34 := fun_mk (st := slaw) l34 c34 k34
  have B34 := F34.binds (ps := ["_law_script"]) fun _ _ _ _ _ _ us hl => match us, hl with | [_], _ => rfl
  have FC32 : FunC K "_law_pair_right" "_law_pair_right" sL_pair_right f32 _ (.ref cc32) := ⟨_, _, _, _, _, _, _, _, rfl, l32, c32⟩
  have FC34 : FunC K "law" "law" slaw fa _ cd34 := ⟨_, _, _, _, _, _, _, _, rfl, l34, c34⟩
  let tbs : Tbs := [("_law_pair_right" ++ ".<locals>." ++ "<lambda>", cc32, P32)]
  refine ⟨PySem.W.fnOf "law" "law" (defArgs slaw) (defBody slaw) (defScope slaw) .none kV34 dc34 pm34 an34 cd34 ct34, tbs, fun s v => .of_eq rfl, ?_, ?_, ?_, fun base _ _ TBS => ?_⟩
  · intro p hp
    simp only [tbs, List.mem_cons, List.not_mem_nil, or_false] at hp
    subst hp
    exact em32
  · intro p hp
    simp only [tbs, List.mem_cons, List.not_mem_nil, or_false] at hp
    subst hp
    exact np32
  · intro p hp
    simp only [tbs, List.mem_cons, List.not_mem_nil, or_false] at hp
    subst hp
    exact ch32
  have TB32 := TBS _ List.mem_cons_self
  obtain ⟨CT, hw_, h_End, h_BadEnd, h_BadText⟩ : ∃ CT : Ct, CT.w = w ∧ CT "End" = some (C_End, (["hearer_rows", "sender_rows", "rows"] : List Str)) ∧ CT "BadEnd" = some (C_BadEnd, (["row", "part"] : List Str)) ∧ CT "BadText" = some (C_BadText, (["text"] : List Str)) := ⟨⟨fun c => if c = "End" then some (C_End, (["hearer_rows", "sender_rows", "rows"] : List Str)) else if c = "BadEnd" then some (C_BadEnd, (["row", "part"] : List Str)) else if c = "BadText" then some (C_BadText, (["text"] : List Str)) else none, w⟩, rfl, by rfl, by rfl, by rfl⟩
  have e_End : cA CT "End" = C_End := by unfold cA; rw [h_End]; rfl
  have e_BadEnd : cA CT "BadEnd" = C_BadEnd := by unfold cA; rw [h_BadEnd]; rfl
  have e_BadText : cA CT "BadText" = C_BadText := by unfold cA; rw [h_BadText]; rfl
  have T : Txt K mg CT := { b_abs := PySem.W.mg_none_of X G z_abs, b_any := PySem.W.mg_none_of X G z_any, b_bool := PySem.W.mg_none_of X G z_bool, b_enumerate := PySem.W.mg_none_of X G z_enumerate, b_int := PySem.W.mg_none_of X G z_int, b_isinstance := PySem.W.mg_none_of X G z_isinstance, b_iter := PySem.W.mg_none_of X G z_iter, b_len := PySem.W.mg_none_of X G z_len, b_list := PySem.W.mg_none_of X G z_list, b_max := PySem.W.mg_none_of X G z_max, b_min := PySem.W.mg_none_of X G z_min, b_range := PySem.W.mg_none_of X G z_range, b_str := PySem.W.mg_none_of X G z_str, b_tuple := PySem.W.mg_none_of X G z_tuple, m_HEARER_WORDS := ⟨.ref A_HEARER_WORDS, ⟨_, PySem.W.mg_of X G m_HEARER_WORDS, rfl⟩, fun F => .ctup (vs := [.str "taken", .str "lost"]) (.inr ⟨_, _, _, ml_HEARER_WORDS, rfl, rfl, (by show 2 ≤ sizeLine; decide), (.cons ⟨_, rfl⟩ (.cons ⟨_, rfl⟩ .nil))⟩) (.cons (.str _) (.cons (.str _) .nil))⟩, m_MOST_DIGITS := ⟨.int 9, ⟨_, PySem.W.mg_of X G m_MOST_DIGITS, ⟨_, rfl⟩⟩, fun F => .int _⟩, m_SENDER_WORDS := ⟨.ref A_SENDER_WORDS, ⟨_, PySem.W.mg_of X G m_SENDER_WORDS, rfl⟩, fun F => .ctup (vs := [.str "done", .str "again"]) (.inr ⟨_, _, _, ml_SENDER_WORDS, rfl, rfl, (by show 2 ≤ sizeLine; decide), (.cons ⟨_, rfl⟩ (.cons ⟨_, rfl⟩ .nil))⟩) (.cons (.str _) (.cons (.str _) .nil))⟩, mc_End := (by rw [e_End]; exact PySem.W.mg_of X G x_End), o_End := (by rw [e_End]; exact ⟨⟨ypg_End, yhd_End, ypo_End, ysa_End⟩, yic_End, ytc_End, yuc_End, wg, wk, ymc_End⟩), c_End := (by rw [e_End]; exact h_End), c_BadEnd := (by rw [e_BadEnd]; exact h_BadEnd), c_BadText := (by rw [e_BadText]; exact h_BadText), me_BadEnd := (by rw [e_BadEnd]; exact PySem.W.mg_of X G x_BadEnd), x_BadEnd := (by rw [e_BadEnd]; exact ⟨xga_BadEnd, xgg_BadEnd, xeC_BadEnd, xhC_BadEnd⟩), te_BadEnd := (by rw [e_BadEnd]; exact te_own xeC_BadEnd xiC_BadEnd xtC_BadEnd xsC_BadEnd), xn_BadEnd_part := (by rw [e_BadEnd]; exact xn_BadEnd_part), xn_BadEnd_row := (by rw [e_BadEnd]; exact xn_BadEnd_row), n_End_hearer_rows := (by rw [e_End]; exact n_End_hearer_rows), n_End_rows := (by rw [e_End]; exact n_End_rows), n_End_sender_rows := (by rw [e_End]; exact n_End_sender_rows), cv_End_MOST := (by rw [e_End]; exact ⟨_, _, ⟨yrd_End, yga_End⟩, ⟨yat_End_MOST, ⟨_, rfl⟩⟩⟩) }
  have oc_BadEnd : OexC K (cA CT "BadEnd") := by
    rw [e_BadEnd]
    exact ⟨⟨nm_BadEnd, q_BadEnd, N_BadEnd, bs_BadEnd, _, sn_BadEnd, sub_BadEnd, ab_BadEnd, col_BadEnd, dd_BadEnd, m0_BadEnd, m1_BadEnd, m2_BadEnd, m3_BadEnd, m5_BadEnd, xL_BadEnd, by decide +kernel⟩, xsa_BadEnd, xeC_BadEnd, xtC_BadEnd, xkC_BadEnd⟩
  have O_BadEnd : Ox l.prog w K mg base 1 "BadEnd" (cA CT "BadEnd") f1 (PySem.W.fnOf "__init__" "BadEnd.__init__" (defArgs sBadEnd_init) (defBody sBadEnd_init) (defScope sBadEnd_init) .none kV1 dc1 pm1 an1 cd1 ct1) ["self", "part", "row"] (spXI (cA CT "BadEnd") ["row", "part"]) := by
    refine ⟨oc_BadEnd, by rw [e_BadEnd]; exact a1, xt1_BadEnd, ?_, B1, by rw [e_BadEnd]; exact PySem.W.mg_of X G x_BadEnd⟩
    exact ok_BadEnd_init F1 oc_BadEnd (by rw [e_BadEnd]; exact xn_BadEnd_part) (by rw [e_BadEnd]; exact xn_BadEnd_row)
  have oc_BadText : OexC K (cA CT "BadText") := by
    rw [e_BadText]
    exact ⟨⟨nm_BadText, q_BadText, N_BadText, bs_BadText, _, sn_BadText, sub_BadText, ab_BadText, col_BadText, dd_BadText, m0_BadText, m1_BadText, m2_BadText, m3_BadText, m5_BadText, xL_BadText, by decide +kernel⟩, xsa_BadText, xeC_BadText, xtC_BadText, xkC_BadText⟩
  have O_BadText : Ox l.prog w K mg base 1 "BadText" (cA CT "BadText") f2 (PySem.W.fnOf "__init__" "BadText.__init__" (defArgs sBadText_init) (defBody sBadText_init) (defScope sBadText_init) .none kV2 dc2 pm2 an2 cd2 ct2) ["self", "text"] (spXI (cA CT "BadText") ["text"]) := by
    refine ⟨oc_BadText, by rw [e_BadText]; exact a2, xt1_BadText, ?_, B2, by rw [e_BadText]; exact PySem.W.mg_of X G x_BadText⟩
    exact ok_BadText_init F2 oc_BadText (by rw [e_BadText]; exact xn_BadText_text)
  have P_End_hearer : Px l.prog w K mg base (cA CT "End") p3 f3 (PySem.W.fnOf "hearer" "End.hearer" (defArgs sEnd_hearer) (defBody sEnd_hearer) (defScope sEnd_hearer) .none kV3 dc3 pm3 an3 cd3 ct3) "hearer" "hearer_rows" := by
    rw [e_End]
    exact ⟨⟨a3, g3, t3, _, r3⟩, ok_End_hearer_get F3 ⟨ypg_End, yhd_End, ypo_End, ysa_End⟩ n_End_hearer_rows, B3⟩
  have P_End_sender : Px l.prog w K mg base (cA CT "End") p4 f4 (PySem.W.fnOf "sender" "End.sender" (defArgs sEnd_sender) (defBody sEnd_sender) (defScope sEnd_sender) .none kV4 dc4 pm4 an4 cd4 ct4) "sender" "sender_rows" := by
    rw [e_End]
    exact ⟨⟨a4, g4, t4, _, r4⟩, ok_End_sender_get F4 ⟨ypg_End, yhd_End, ypo_End, ysa_End⟩ n_End_sender_rows, B4⟩
  have V_is_number : Vx l.prog w K mg base 1 "is_number" f5 _ ["value"] CT [false] Φ_is_number := ⟨dv_is_number T  F5, PySem.W.mg_of X G a5, k5, B5⟩
  have V_is_follower : Vx l.prog w K mg base 2 "is_follower" f6 _ ["value", "size", "words"] CT [false, false, false] Φ_is_follower := ⟨dv_is_follower T V_is_number F6, PySem.W.mg_of X G a6, k6, B6⟩
  have V_is_row : Vx l.prog w K mg base 3 "is_row" f7 _ ["value", "size", "words"] CT [false, false, false] Φ_is_row := ⟨dv_is_row T V_is_follower V_is_number F7, PySem.W.mg_of X G a7, k7, B7⟩
  have V_reached : Vx l.prog w K mg base 2 "reached" f8 _ ["rows", "begin"] CT [false, false] Φ_reached := ⟨dv_reached T V_is_number F8, PySem.W.mg_of X G a8, k8, B8⟩
  have V_check_machine : VxX l.prog w K mg base 4 "check_machine" f9 _ ["part", "machine", "fewest", "most", "words"] CT [false, false, false, false, false] Φ_check_machine := ⟨dv_check_machine T V_is_row O_BadEnd F9, PySem.W.mg_of X G a9, k9, B9⟩
  have V_numbered_rows : Vx l.prog w K mg base 1 "numbered_rows" f10 _ ["part", "machine"] CT [false, false] Φ_numbered_rows := ⟨dv_numbered_rows T  F10, PySem.W.mg_of X G a10, k10, B10⟩
  have V_End_init : Vc l.prog w K mg base (L2.CX l.prog w) 5 "End" (cA CT "End") f11 _ ["self", "hearer", "sender"] CT [true, false, false] Φ_End_init := ⟨(by rw [e_End]; exact ⟨ymk_End, a11, i11, ykc_End⟩), dv_End_init T V_check_machine V_numbered_rows V_reached O_BadEnd F11, (by rw [e_End]; exact PySem.W.mg_of X G x_End), B11⟩
  have V_End_eq : Vm l.prog w K mg base CX0 1 (cA CT "End") "__eq__" f12 _ ["self", "other"] CT [false, false] Φ_End_eq := ⟨(by rw [e_End]; exact ⟨a12, i12, k12⟩), dv_End_eq T  F12, B12⟩
  have V_End_contains : Vm l.prog w K mg base CX0 1 (cA CT "End") "__contains__" f13 _ ["self", "x"] CT [false, false] Φ_End_contains := ⟨(by rw [e_End]; exact ⟨a13, i13, k13⟩), dv_End_contains T  F13, B13⟩
  have V_End_len : Vm l.prog w K mg base CX0 1 (cA CT "End") "__len__" f14 _ ["self"] CT [false] Φ_End_len := ⟨(by rw [e_End]; exact ⟨a14, i14, k14⟩), dv_End_len T  F14, B14⟩
  have I_End : Vit l.prog w K mg base 1 (cA CT "End") f15 _ "rows" := ⟨(by rw [e_End]; exact ⟨a15, i15, k15⟩), dv_End_iter T  F15, B15⟩
  have V_machine_text : Vx l.prog w K mg base 1 "machine_text" f16 _ ["rows"] CT [false] Φ_machine_text := ⟨dv_machine_text T  F16, PySem.W.mg_of X G a16, k16, B16⟩
  have V_End_str : Vm l.prog w K mg base CX0 2 (cA CT "End") "__str__" f17 _ ["self"] CT [false] Φ_End_str := ⟨(by rw [e_End]; exact ⟨a17, i17, k17⟩), dv_End_str T V_machine_text F17, B17⟩
  have V_is_numeral : Vx l.prog w K mg base 1 "is_numeral" f18 _ ["piece"] CT [false] Φ_is_numeral := ⟨dv_is_numeral T  F18, PySem.W.mg_of X G a18, k18, B18⟩
  have V_read_follower : Vx l.prog w K mg base 2 "read_follower" f19 _ ["piece"] CT [false] Φ_read_follower := ⟨dv_read_follower T V_is_numeral F19, PySem.W.mg_of X G a19, k19, B19⟩
  have V_read_row : Vx l.prog w K mg base 3 "read_row" f20 _ ["text"] CT [false] Φ_read_row := ⟨dv_read_row T V_read_follower F20, PySem.W.mg_of X G a20, k20, B20⟩
  have V_read_machines : Vx l.prog w K mg base 4 "read_machines" f21 _ ["text"] CT [false] Φ_read_machines := ⟨dv_read_machines T V_read_row F21, PySem.W.mg_of X G a21, k21, B21⟩
  have V_End_from_text : Vcm l.prog w K mg base (L2.CX l.prog w) 7 (cA CT "End") "from_text" f22 _ ["cls", "text"] CT [false, false] Φ_End_from_text := ⟨(by rw [e_End]; exact ⟨_, _, ⟨yrd_End, yga_End⟩, ⟨a22, ⟨_, r22⟩, i22⟩⟩), dv_End_from_text T V_End_init V_read_machines O_BadText F22, B22⟩
  have V__law_bag : Vx l.prog w K mg base 1 "_law_bag" f23 _ ["_law_script", "_law_at"] CT [false, false] Φ_L_bag := ⟨dv_L_bag T  F23, PySem.W.mg_of X G a23, k23, B23⟩
  have V__law_take : Vx l.prog w K mg base 1 "_law_take" f24 _ ["_law_bag_here", "_law_many"] CT [true, false] Φ_L_take := ⟨dv_L_take T  F24, PySem.W.mg_of X G a24, k24, B24⟩
  have V__law_place : Vx l.prog w K mg base 2 "_law_place" f25 _ ["_law_bag_here", "_law_many", "_law_words"] CT [true, false, false] Φ_L_place := ⟨dv_L_place T V__law_take F25, PySem.W.mg_of X G a25, k25, B25⟩
  have V__law_rows : Vx l.prog w K mg base 3 "_law_rows" f26 _ ["_law_bag_here", "_law_many", "_law_words"] CT [true, false, false] Φ_L_rows := ⟨dv_L_rows T V__law_place V__law_take F26, PySem.W.mg_of X G a26, k26, B26⟩
  have V__law_led : Vx l.prog w K mg base 1 "_law_led" f27 _ ["_law_rows_here", "_law_first"] CT [false, false] Φ_L_led := ⟨dv_L_led T  F27, PySem.W.mg_of X G a27, k27, B27⟩
  have V__law_hearer : Vx l.prog w K mg base 4 "_law_hearer" f28 _ ["_law_bag_here", "_law_many"] CT [true, false] Φ_L_hearer := ⟨dv_L_hearer T V__law_led V__law_rows F28, PySem.W.mg_of X G a28, k28, B28⟩
  have V__law_sender : Vx l.prog w K mg base 4 "_law_sender" f29 _ ["_law_bag_here", "_law_many"] CT [true, false] Φ_L_sender := ⟨dv_L_sender T V__law_rows F29, PySem.W.mg_of X G a29, k29, B29⟩
  have V__law_rows_of : Vx l.prog w K mg base 2 "_law_rows_of" f30 _ ["_law_end", "_law_name"] CT [false, false] Φ_L_rows_of := ⟨dv_L_rows_of T I_End F30, PySem.W.mg_of X G a30, k30, B30⟩
  have TX__law_tried := tx_L_tried T V_End_str F31 (PySem.W.mg_of X G a31) k31 B31
  have V__law_pair_right : VxL l.prog w K mg base 14 "_law_pair_right" f32 _ ["_law_one", "_law_other"] CT (tbOf tbs) [false, false] Φ_L_pair_right := ⟨dv_L_pair_right (tb := tbOf tbs) T I_End V_End_eq V_End_init V_End_str V_End_from_text TX__law_tried P_End_hearer P_End_sender TB32 (by simp [tbOf, tbs]) FC32, PySem.W.mg_of X G a32, k32, B32⟩
  have V__law_alone_right : Vx l.prog w K mg base 7 "_law_alone_right" f33 _ ["_law_end"] CT [false] Φ_L_alone_right := ⟨dv_L_alone_right T I_End V_End_contains V_End_eq V_End_init V_End_len V_End_str V__law_rows_of F33, PySem.W.mg_of X G a33, k33, B33⟩
  exact law_ofT (by simp [tbs]) (dv_law (tb := tbOf tbs) T V_End_init V__law_alone_right V__law_bag V__law_hearer V__law_pair_right V__law_sender V__law_take P_End_hearer P_End_sender FC34) law_true
end K07
open PySem PySem.W PyProof.Rows
set_option maxRecDepth 100000 in
set_option maxHeartbeats 0 in
theorem PySem.Challenge.cw_strongbit_k07_whole_one_text_one_end_holds : PySem.Challenge.rw_strongbit_k07_whole_one_text_one_end.Holds := by
  w_on; o_law; k_head; (case hw => w_witness2)
  k_fill
  refine Vl.walkGT (l := PySem.Challenge.rw_strongbit_k07_whole_one_text_one_end) (k := 15) (x := "_law_script") rfl rfl ⟨rfl, by decide, by decide⟩ (fun w h Y => PySem.W.km_in_of Y) ?F
  case F =>
    intro w mg fa h Y KX G hmg
    refine' K07.all_mk KX G hmg ?a1 ?i1 ?l1 ?c1 ?k1 ?a2 ?i2 ?l2 ?c2 ?k2 ?a3 ?g3 ?t3 ?r3 ?l3 ?c3 ?k3 ?a4 ?g4 ?t4 ?r4 ?l4 ?c4 ?k4 ?a5 ?l5 ?c5 ?k5 ?a6 ?l6 ?c6 ?k6 ?a7 ?l7 ?c7 ?k7 ?a8 ?l8 ?c8 ?k8 ?a9 ?l9 ?c9 ?k9 ?a10 ?l10 ?c10 ?k10 ?a11 ?i11 ?l11 ?c11 ?k11 ?a12 ?i12 ?l12 ?c12 ?k12 ?a13 ?i13 ?l13 ?c13 ?k13 ?a14 ?i14 ?l14 ?c14 ?k14 ?a15 ?i15 ?l15 ?c15 ?k15 ?a16 ?l16 ?c16 ?k16 ?a17 ?i17 ?l17 ?c17 ?k17 ?a18 ?l18 ?c18 ?k18 ?a19 ?l19 ?c19 ?k19 ?a20 ?l20 ?c20 ?k20 ?a21 ?l21 ?c21 ?k21 ?a22 ?r22 ?i22 ?l22 ?c22 ?k22 ?a23 ?l23 ?c23 ?k23 ?a24 ?l24 ?c24 ?k24 ?a25 ?l25 ?c25 ?k25 ?a26 ?l26 ?c26 ?k26 ?a27 ?l27 ?c27 ?k27 ?a28 ?l28 ?c28 ?k28 ?a29 ?l29 ?c29 ?k29 ?a30 ?l30 ?c30 ?k30 ?a31 ?l31 ?c31 ?k31 ?a32 ?l32 ?c32 ?k32 ?a33 ?l33 ?c33 ?k33 ?a34 ?l34 ?c34 ?k34 ?ch32 ?np32 ?z_abs ?z_any ?z_bool ?z_enumerate ?z_int ?z_isinstance ?z_iter ?z_len ?z_list ?z_max ?z_min ?z_range ?z_str ?z_tuple ?m_HEARER_WORDS ?ml_HEARER_WORDS ?m_MOST_DIGITS ?m_SENDER_WORDS ?ml_SENDER_WORDS ?x_End ?ypg_End ?yhd_End ?ypo_End ?ysa_End ?yic_End ?ytc_End ?yuc_End ?ymc_End ?ymk_End ?ykc_End ?wg ?wk ?xga_BadEnd ?xgg_BadEnd ?xhC_BadEnd ?xiC_BadEnd ?xsC_BadEnd ?n_End_hearer_rows ?n_End_rows ?n_End_sender_rows ?yrd_End ?yga_End ?yat_End_MOST ?x_BadEnd ?xL_BadEnd ?xsa_BadEnd ?xt1_BadEnd ?xkC_BadEnd ?xeC_BadEnd ?xtC_BadEnd ?xn_BadEnd_part ?xn_BadEnd_row ?x_BadText ?xL_BadText ?xsa_BadText ?xt1_BadText ?xkC_BadText ?xeC_BadText ?xtC_BadText ?xn_BadText_text ?em32
    (case x_End => k_is)
    (case x_BadEnd => k_is)
    (case x_BadText => k_is)
    (case a1 => k_is)
    (case i1 => k_is)
    (case l1 => k_is)
    (case c1 => k_is)
    (case k1 => k_is)
    (case a2 => k_is)
    (case i2 => k_is)
    (case l2 => k_is)
    (case c2 => k_is)
    (case k2 => k_is)
    (case a3 => k_is)
    (case g3 => k_is)
    (case t3 => k_is)
    (case r3 => k_is)
    (case l3 => k_is)
    (case c3 => k_is)
    (case k3 => k_is)
    (case a4 => k_is)
    (case g4 => k_is)
    (case t4 => k_is)
    (case r4 => k_is)
    (case l4 => k_is)
    (case c4 => k_is)
    (case k4 => k_is)
    (case a5 => k_is)
    (case l5 => k_is)
    (case c5 => k_is)
    (case k5 => k_is)
    (case a6 => k_is)
    (case l6 => k_is)
    (case c6 => k_is)
    (case k6 => k_is)
    (case a7 => k_is)
    (case l7 => k_is)
    (case c7 => k_is)
    (case k7 => k_is)
    (case a8 => k_is)
    (case l8 => k_is)
    (case c8 => k_is)
    (case k8 => k_is)
    (case a9 => k_is)
    (case l9 => k_is)
    (case c9 => k_is)
    (case k9 => k_is)
    (case a10 => k_is)
    (case l10 => k_is)
    (case c10 => k_is)
    (case k10 => k_is)
    (case a11 => k_is)
    (case i11 => k_is)
    (case l11 => k_is)
    (case c11 => k_is)
    (case k11 => k_is)
    (case a12 => k_is)
    (case i12 => k_is)
    (case l12 => k_is)
    (case c12 => k_is)
    (case k12 => k_is)
    (case a13 => k_is)
    (case i13 => k_is)
    (case l13 => k_is)
    (case c13 => k_is)
    (case k13 => k_is)
    (case a14 => k_is)
    (case i14 => k_is)
    (case l14 => k_is)
    (case c14 => k_is)
    (case k14 => k_is)
    (case a15 => k_is)
    (case i15 => k_is)
    (case l15 => k_is)
    (case c15 => k_is)
    (case k15 => k_is)
    (case a16 => k_is)
    (case l16 => k_is)
    (case c16 => k_is)
    (case k16 => k_is)
    (case a17 => k_is)
    (case i17 => k_is)
    (case l17 => k_is)
    (case c17 => k_is)
    (case k17 => k_is)
    (case a18 => k_is)
    (case l18 => k_is)
    (case c18 => k_is)
    (case k18 => k_is)
    (case a19 => k_is)
    (case l19 => k_is)
    (case c19 => k_is)
    (case k19 => k_is)
    (case a20 => k_is)
    (case l20 => k_is)
    (case c20 => k_is)
    (case k20 => k_is)
    (case a21 => k_is)
    (case l21 => k_is)
    (case c21 => k_is)
    (case k21 => k_is)
    (case a22 => k_is)
    (case r22 => k_is)
    (case i22 => k_is)
    (case l22 => k_is)
    (case c22 => k_is)
    (case k22 => k_is)
    (case a23 => k_is)
    (case l23 => k_is)
    (case c23 => k_is)
    (case k23 => k_is)
    (case a24 => k_is)
    (case l24 => k_is)
    (case c24 => k_is)
    (case k24 => k_is)
    (case a25 => k_is)
    (case l25 => k_is)
    (case c25 => k_is)
    (case k25 => k_is)
    (case a26 => k_is)
    (case l26 => k_is)
    (case c26 => k_is)
    (case k26 => k_is)
    (case a27 => k_is)
    (case l27 => k_is)
    (case c27 => k_is)
    (case k27 => k_is)
    (case a28 => k_is)
    (case l28 => k_is)
    (case c28 => k_is)
    (case k28 => k_is)
    (case a29 => k_is)
    (case l29 => k_is)
    (case c29 => k_is)
    (case k29 => k_is)
    (case a30 => k_is)
    (case l30 => k_is)
    (case c30 => k_is)
    (case k30 => k_is)
    (case a31 => k_is)
    (case l31 => k_is)
    (case c31 => k_is)
    (case k31 => k_is)
    (case a32 => k_is)
    (case l32 => k_is)
    (case c32 => k_is)
    (case k32 => k_is)
    (case a33 => k_is)
    (case l33 => k_is)
    (case c33 => k_is)
    (case k33 => k_is)
    (case a34 => k_is)
    (case l34 => k_is)
    (case c34 => k_is)
    (case k34 => k_is)
    (case z_abs => k_is)
    (case z_any => k_is)
    (case z_bool => k_is)
    (case z_enumerate => k_is)
    (case z_int => k_is)
    (case z_isinstance => k_is)
    (case z_iter => k_is)
    (case z_len => k_is)
    (case z_list => k_is)
    (case z_max => k_is)
    (case z_min => k_is)
    (case z_range => k_is)
    (case z_str => k_is)
    (case z_tuple => k_is)
    (case m_HEARER_WORDS => k_is)
    (case ml_HEARER_WORDS => k_is)
    (case m_MOST_DIGITS => k_is)
    (case m_SENDER_WORDS => k_is)
    (case ml_SENDER_WORDS => k_is)
    (case ypg_End => k_is)
    (case yhd_End => k_is)
    (case ypo_End => k_is)
    (case ysa_End => k_is)
    (case yic_End => k_is)
    (case ytc_End => k_is)
    (case yuc_End => k_is)
    (case ymc_End => k_is)
    (case ymk_End => k_is)
    (case ykc_End => k_is)
    (case wg => k_is)
    (case wk => k_is)
    (case xga_BadEnd => k_is)
    (case xgg_BadEnd => k_is)
    (case xhC_BadEnd => k_is)
    (case xiC_BadEnd => k_is)
    (case xsC_BadEnd => k_is)
    (case n_End_hearer_rows => k_is)
    (case n_End_rows => k_is)
    (case n_End_sender_rows => k_is)
    (case yrd_End => k_is)
    (case yga_End => k_is)
    (case yat_End_MOST => k_is)
    (case xL_BadEnd => k_is)
    (case xsa_BadEnd => k_is)
    (case xt1_BadEnd => k_is)
    (case xkC_BadEnd => k_is)
    (case xeC_BadEnd => k_is)
    (case xtC_BadEnd => k_is)
    (case xn_BadEnd_part => k_is)
    (case xn_BadEnd_row => k_is)
    (case xL_BadText => k_is)
    (case xsa_BadText => k_is)
    (case xt1_BadText => k_is)
    (case xkC_BadText => k_is)
    (case xeC_BadText => k_is)
    (case xtC_BadText => k_is)
    (case xn_BadText_text => k_is)
    (case em32 => exact PySem.W.km_tabs_of Y _ List.mem_cons_self)
    (case ch32 => kernel_rfl)
    (case np32 => kernel_rfl)
