import PyProof.Rows.All
import Wide.All
import OpenK.AllK
import Wide.FinOn
import HandS.ForMost
import HandS.ForExc
import HandS.IsInst
import HandS.FStr
import HandS.TryMany
import HandS.ExcInit
import HandS.ExcField
import HandS.ExcIs
import HandS.Codes
import HandS.Defaults
import HandS.SortInts
import KE.KTypeName
import HandS.CallSlots
import HandS.Lambda
import HandS.EndTab
import KE.KNestM
import HandS.EndOwn
import KE.KEqSeq
import HandS.Zip
import HandS.WrittenGet
import HandS.TupAny
import HandS.FStrTup
import HandS.More
import HandS.SortKw
import KE.DataMinMax
import OpenK.KOps
import HandS.TupLe
import HandS.TupSets
import HandS.DictTup
import HandS.ListItems
import HandS.Small
import HandS.Style
import PyProof.DictMoreH
import PySem.Challenge.RW_reedtapes_k33_whole_stands_are_their_not
set_option Elab.async false
set_option linter.all false
set_option maxRecDepth 100000
set_option maxHeartbeats 4000000
namespace Rt
open PySem PySem.Spec PyProof.Rows L2
/-! ### heaps: what was known stays known -/
def Ex (H H' : Hp) : Prop := ∀ b o, H b = some o → H' b = some o
theorem Ex.refl (H : Hp) : Ex H H := fun _ _ h => h
theorem Ex.trans {H H1 H2 : Hp} (a : Ex H H1) (b : Ex H1 H2) : Ex H H2 := fun c o h => b c o (a c o h)
theorem Ex.to {H H' : Hp} {b : Addr} {o : HO} (e : Ex H H') (h : H b = some o) : H' b = some o := e b o h
theorem Ex.seq {K : PySem.W.Frag} {H H' : Hp} {a : Addr} {xs : List V} (e : Ex H H') (h : SqL K H a xs) : SqL K H' a xs := by
  rcases h with (h | ⟨o, h⟩) | h
  · exact .inl (.inl (e _ _ h))
  · exact .inl (.inr ⟨o, e _ _ h⟩)
  · exact .inr h
theorem Ex.new {H : Hp} {p : Addr} {o : HO} (h : H p = none) : Ex H (upd H p o) := fun a u e => by
  rw [upd_ne (ne_of_none e h)]
  exact e
theorem Ex.free {H H' : Hp} {p : Addr} (e : Ex H H') (h : H' p = none) : H p = none := by
  cases q : H p with
  | none => rfl
  | some o =>
    rw [e p o q] at h
    cases h
/-- a step of the heap: H0 what is settled, H all; m: what may be turned -/
structure Go (m : Addr → Prop) (E0 E H0 H : Hp) : Prop where
  up : Ex E0 H0
  inn : Ex H0 H
  new : ∀ b, E b ≠ none → E0 b = none → H0 b = none
  keep : ∀ b o, E b = some o → ¬ m b → H b = some o
  there : ∀ b, E b ≠ none → H b ≠ none
theorem Go.refl {m : Addr → Prop} {H0 H : Hp} (e : Ex H0 H) : Go m H0 H H0 H := ⟨Ex.refl _, e, fun _ _ h => h, fun _ _ h _ => h, fun _ h => h⟩
theorem Go.trans {m m' : Addr → Prop} {E0 E F0 F G0 G : Hp} (a : Go m E0 E F0 F) (b : Go m' F0 F G0 G) (hm : ∀ x, E x ≠ none → m' x → m x) : Go m E0 E G0 G where
  up := a.up.trans b.up
  inn := b.inn
  new := fun x h1 h2 => b.new x (a.there x h1) (a.new x h1 h2)
  keep := fun x o h n => b.keep x o (a.keep x o h n) fun z => n (hm x (by rw [h]; simp) z)
  there := fun x h => b.there x (a.there x h)
/-- the same, what may be turned being alike -/
theorem Go.then {m : Addr → Prop} {E0 E F0 F G0 G : Hp} (a : Go m E0 E F0 F) (b : Go m F0 F G0 G) : Go m E0 E G0 G := a.trans b fun _ _ h => h
/-- a new object, not settled -/
theorem Go.lay {m : Addr → Prop} {E0 E H0 H : Hp} {p : Addr} (o : HO) (a : Go m E0 E H0 H) (h : H p = none) : Go m E0 E H0 (upd H p o) where
  up := a.up
  inn := a.inn.trans (Ex.new h)
  new := a.new
  keep := fun x u q n => by
    rw [upd_ne (ne_of_none (a.keep x u q n) h)]
    exact a.keep x u q n
  there := fun x q => by
    by_cases e : x = p
    · rw [e, upd_same]; simp
    · rw [upd_ne e]; exact a.there x q
/-- a new object that is not known at the entry is turned -/
theorem Go.turn {m : Addr → Prop} {E0 E H0 H : Hp} {p : Addr} (o : HO) (a : Go m E0 E H0 H) (h : E p = none) (h0 : H0 p = none) : Go m E0 E H0 (upd H p o) where
  up := a.up
  inn := fun x u q => by
    rw [upd_ne (ne_of_none q h0)]
    exact a.inn x u q
  new := a.new
  keep := fun x u q n => by
    rw [upd_ne (ne_of_none q h)]
    exact a.keep x u q n
  there := fun x q => by
    by_cases e : x = p
    · rw [e, upd_same]; simp
    · rw [upd_ne e]; exact a.there x q
/-- what may be turned is turned -/
theorem Go.turnM {m : Addr → Prop} {E0 E H0 H : Hp} {p : Addr} (o : HO) (a : Go m E0 E H0 H) (h : m p) (h0 : H0 p = none) : Go m E0 E H0 (upd H p o) where
  up := a.up
  inn := fun x u q => by
    rw [upd_ne (ne_of_none q h0)]
    exact a.inn x u q
  new := a.new
  keep := fun x u q n => by
    have e : x ≠ p := fun z => n (z ▸ h)
    rw [upd_ne e]
    exact a.keep x u q n
  there := fun x q => by
    by_cases e : x = p
    · rw [e, upd_same]; simp
    · rw [upd_ne e]; exact a.there x q
/-- it is settled -/
theorem Go.set {m : Addr → Prop} {E0 E H0 H : Hp} {p : Addr} {o : HO} (a : Go m E0 E H0 H) (h : E p = none) (hp : H p = some o) (h0 : H0 p = none) : Go m E0 E (upd H0 p o) H where
  up := a.up.trans (Ex.new h0)
  inn := fun x u q => by
    by_cases e : x = p
    · rw [e, upd_same] at q
      rw [e, hp, q]
    · rw [upd_ne e] at q
      exact a.inn x u q
  new := fun x q r => by
    have e : x ≠ p := fun z => q (z ▸ h)
    rw [upd_ne e]
    exact a.new x q r
  keep := a.keep
  there := a.there
/-- a new object that is settled at once -/
theorem Go.put {m : Addr → Prop} {E0 E H0 H : Hp} {p : Addr} (o : HO) (a : Go m E0 E H0 H) (h : H p = none) : Go m E0 E (upd H0 p o) (upd H p o) := by
  have hE : E p = none := by
    cases q : E p with
    | none => rfl
    | some u => exact absurd h (a.there p (by rw [q]; simp))
  exact (a.lay o h).set hE upd_same (a.inn.free h)
theorem Go.mono {m m' : Addr → Prop} {E0 E H0 H : Hp} (a : Go m E0 E H0 H) (h : ∀ x, m x → m' x) : Go m' E0 E H0 H := ⟨a.up, a.inn, a.new, fun b o q n => a.keep b o q fun z => n (h b z), a.there⟩
/-- fresh now: fresh at the entry, and unsettled -/
theorem Go.fresh {m : Addr → Prop} {E0 E H0 H : Hp} {p : Addr} (a : Go m E0 E H0 H) (h : H p = none) : E p = none := by
  cases q : E p with
  | none => rfl
  | some u => exact absurd h (a.there p (by rw [q]; simp))
theorem Go.fresh0 {m : Addr → Prop} {E0 E H0 H : Hp} {p : Addr} (a : Go m E0 E H0 H) (h : H p = none) : H0 p = none := a.inn.free h
/-! ### the drawing's list -/
structure Dr (H0 H : Hp) (d : Addr) : Prop where
  ex : ∃ (a : Addr) (ns : List Int) (i j k l : Int), H d = some (.lst [.ref a, .int i, .int j, .int k, .int l]) ∧ H0 a = some (.lst (ns.map V.int)) ∧ 0 ≤ i ∧ 0 ≤ j ∧ 0 ≤ k ∧ k < 2000000000
  out : H0 d = none
theorem Dr.mono {H0 H H0' : Hp} {d : Addr} (x : Dr H0 H d) (e : Ex H0 H0') (n : H0' d = none) : Dr H0' H d := by
  obtain ⟨⟨a, ns, i, j, k, l, h1, h2, h3⟩, _⟩ := x
  exact ⟨⟨a, ns, i, j, k, l, h1, e _ _ h2, h3⟩, n⟩
theorem Dr.known {H0 H : Hp} {d : Addr} (x : Dr H0 H d) : H d ≠ none := by
  obtain ⟨⟨a, ns, i, j, k, l, h1, _⟩, _⟩ := x
  rw [h1]; simp
/-- a pure step leaves the drawing -/
theorem Dr.go {m : Addr → Prop} {H0 H H0' H' : Hp} {d : Addr} (x : Dr H0 H d) (g : Go m H0 H H0' H') (n : ¬ m d) : Dr H0' H' d := by
  have k := x.known
  obtain ⟨⟨a, ns, i, j, k', l, h1, h2, h3⟩, o⟩ := x
  exact ⟨⟨a, ns, i, j, k', l, g.keep _ _ h1 n, g.up _ _ h2, h3⟩, g.new d k o⟩
theorem Dr.lay {H0 H : Hp} {d p : Addr} (o : HO) (x : Dr H0 H d) (h : H p = none) : Dr H0 (upd H p o) d := by
  have k := x.known
  obtain ⟨⟨a, ns, i, j, k', l, h1, h2⟩, n⟩ := x
  exact ⟨⟨a, ns, i, j, k', l, by rw [upd_ne (ne_of_none h1 h)]; exact h1, h2⟩, n⟩
theorem Dr.turn {H0 H : Hp} {d p : Addr} (o : HO) (x : Dr H0 H d) (h : d ≠ p) : Dr H0 (upd H p o) d := by
  obtain ⟨⟨a, ns, i, j, k', l, h1, h2⟩, n⟩ := x
  exact ⟨⟨a, ns, i, j, k', l, by rw [upd_ne h]; exact h1, h2⟩, n⟩
theorem Dr.set {H0 H : Hp} {d p : Addr} (o : HO) (x : Dr H0 H d) (h0 : H0 p = none) (h : d ≠ p) : Dr (upd H0 p o) H d := x.mono (Ex.new h0) (by rw [upd_ne h]; exact x.out)
theorem Dr.ne {H0 H : Hp} {d p : Addr} (x : Dr H0 H d) (h : H p = none) : d ≠ p := fun z => x.known (z ▸ h)
theorem Ex.lay {H0 H : Hp} {p : Addr} (o : HO) (e : Ex H0 H) (h : H p = none) : Ex H0 (upd H p o) := e.trans (Ex.new h)
theorem Ex.turn {H0 H : Hp} {p : Addr} (o : HO) (e : Ex H0 H) (h : H0 p = none) : Ex H0 (upd H p o) := fun x u q => by
  rw [upd_ne (ne_of_none q h)]
  exact e x u q
theorem Ex.set {H0 H : Hp} {p : Addr} {o : HO} (e : Ex H0 H) (h : H p = some o) : Ex (upd H0 p o) H := fun x u q => by
  by_cases z : x = p
  · rw [z, upd_same] at q
    rw [z, h, q]
  · rw [upd_ne z] at q
    exact e x u q
/-- where a drawing def stands: A0, A at its entry, H0, H now -/
structure Sd (d : Addr) (A0 A H0 H : Hp) : Prop where
  go : Go (· = d) A0 A H0 H
  dr : Dr H0 H d
theorem Sd.ex {d : Addr} {A0 A H0 H : Hp} (S : Sd d A0 A H0 H) : Ex H0 H := S.go.inn
theorem Sd.here {d : Addr} {H0 H : Hp} (e : Ex H0 H) (x : Dr H0 H d) : Sd d H0 H H0 H := ⟨Go.refl e, x⟩
theorem Sd.call {d : Addr} {A0 A H0 H H0' H' : Hp} (S : Sd d A0 A H0 H) (g : Go (· = d) H0 H H0' H') (x : Dr H0' H' d) : Sd d A0 A H0' H' := ⟨S.go.then g, x⟩
theorem Sd.pure {d : Addr} {A0 A H0 H H0' H' : Hp} (S : Sd d A0 A H0 H) (g : Go (fun _ => False) H0 H H0' H') : Sd d A0 A H0' H' := ⟨S.go.trans g fun _ _ z => z.elim, S.dr.go g fun z => z⟩
theorem Sd.put {d p : Addr} {A0 A H0 H : Hp} (o : HO) (S : Sd d A0 A H0 H) (h : H p = none) : Sd d A0 A (upd H0 p o) (upd H p o) := ⟨S.go.put o h, (S.dr.lay o h).set o (S.ex.free h) (S.dr.ne h)⟩
theorem Sd.lay {d p : Addr} {A0 A H0 H : Hp} (o : HO) (S : Sd d A0 A H0 H) (h : H p = none) : Sd d A0 A H0 (upd H p o) := ⟨S.go.lay o h, S.dr.lay o h⟩
theorem Sd.turn {d p : Addr} {A0 A H0 H : Hp} (o : HO) (S : Sd d A0 A H0 H) (h : A p = none) (h0 : H0 p = none) (n : d ≠ p) : Sd d A0 A H0 (upd H p o) := ⟨S.go.turn o h h0, S.dr.turn o n⟩
theorem Sd.set {d p : Addr} {A0 A H0 H : Hp} {o : HO} (S : Sd d A0 A H0 H) (h : A p = none) (hp : H p = some o) (h0 : H0 p = none) (n : d ≠ p) : Sd d A0 A (upd H0 p o) H := ⟨S.go.set h hp h0, S.dr.set o h0 n⟩
/-! ### a def of the text, called by its name; dvs: the defaults that fill up -/
structure Def (P : Program) (w : World) (K : PySem.W.Frag) (mg : Str → Option Value) (base : Heap) (x : Str) (k : Nat) (sp : Sp) (dvs : List V := []) : Prop where
  ex : ∃ (f : Addr) (fd : FuncData) (ps : List Str) (ds : List Value), mg x = some (.ref f) ∧ FnOk P w K mg base CX0 k f fd ps sp ∧ PySem.W.keepIn K (.ref f) = true ∧ Binds K fd ps ds ∧ Vals dvs ds
section
variable {X : Cx} {x : Str} {p pos : Pos} {e : Expr} {es : List Expr} {t : TA} {k : Nat} {sp : Sp} {dvs : List V}
theorem pe_d (D : Def X.prog X.w X.K X.mg X.base x k sp dvs) (hr : Room k X.A) (hg : Gl X x) (ha : PA X (e :: es) t) (hdb : (x == ("__debug__" : Str)) = false := by decide)
    (he : starEach (e :: es) X.env = (false, eval e X.env) :: starEach es X.env := by rfl) (hpl : (backTo pos (starEach es X.env)).any (·.1) = false := by rfl) :
    PE X (.Call (.Name x p) (e :: es) [] pos) (tCall sp dvs E0 t) := by
  obtain ⟨f, fd, ps, ds, h1, h2, h3, h4, h5⟩ := D.ex
  exact pe_call h2 hr hg h1 h3 h4 h5 pass0 ha hdb he hpl
theorem pe_d0 (D : Def X.prog X.w X.K X.mg X.base x k sp dvs) (hr : Room k X.A) (hg : Gl X x) (hdb : (x == ("__debug__" : Str)) = false := by decide) :
    PE X (.Call (.Name x p) [] [] pos) (tCall sp dvs E0 tNil) := by
  obtain ⟨f, fd, ps, ds, h1, h2, h3, h4, h5⟩ := D.ex
  exact pe_call0 h2 hr hg h1 h3 h4 h5 pass0 hdb
end
section
variable {P : Program} {w : World} {K : PySem.W.Frag} {mg : Str → Option Value} {base : Heap} {x qual : Str} {params : Arguments} {body : List Stmt} {scope : Scope} {dvs : List V} {kws : List (Str × V)} {f : Addr} {fd : FuncData}
/-- a def with defaults that lets nothing out -/
theorem okD0 {N ps : List Str} {k : Nat} {sp : Sp} (F : FunD K x qual params body scope dvs kws f fd) (S : FnScope N ps scope) (len : ∀ vs H Q E, sp vs H Q E → vs.length = ps.length)
    (hbody : ∀ (cdv : Value) (A : Around) (outer : List Env) (s : Shared) (H : Hp) (vs : List V) (Q : VK) (E : XK), Room k (A.deeper (envOfC qual scope s.heap.objs.size f cdv)) → sp vs H Q E →
      ∃ t, PSs (cxOf CX0 P w K mg base N qual scope f cdv A outer s H E).nox body t ∧ t { nx := fun _ H' => Q .non H', rt := Q } (start N vs) H) : FnOk P w K mg base CX0 (k + 1) f fd ps sp :=
  F.ok S len fun cdv A outer s H vs Q E hr hsp =>
    let ⟨t, h, q⟩ := hbody cdv A outer s H vs Q E hr hsp
    ⟨t, h.nox, q⟩
end
/-! ### numbers as rows of bytes -/
def gtl (r : Nat) : List Nat := if h : r = 0 then [] else (128 + r % 128) :: gtl (r / 128)
termination_by r
decreasing_by omega
theorem gtl0 : gtl 0 = [] := by rw [gtl]; rfl
theorem gtl1 {r : Nat} (h : r ≠ 0) : gtl r = (128 + r % 128) :: gtl (r / 128) := by
  rw [gtl, dif_neg h]
def gapB (n : Nat) : List Nat := ((n % 128) :: gtl (n / 128)).reverse
def val (l : List Nat) : Nat := l.foldl (fun t b => t * 128 + b % 128) 0
theorem val_snoc (l : List Nat) (b : Nat) : val (l ++ [b]) = val l * 128 + b % 128 := by
  unfold val
  rw [List.foldl_append]
  rfl
theorem val_gtl (r : Nat) : val (gtl r).reverse = r := by
  induction r using Nat.strongRecOn with
  | _ r ih =>
    by_cases h : r = 0
    · subst h
      rw [gtl0]
      rfl
    · rw [gtl1 h, List.reverse_cons, val_snoc, ih (r / 128) (by omega)]
      omega
theorem gapB_eq (n : Nat) : gapB n = (gtl (n / 128)).reverse ++ [n % 128] := by
  unfold gapB
  rw [List.reverse_cons]
theorem val_gapB (n : Nat) : val (gapB n) = n := by
  rw [gapB_eq, val_snoc, val_gtl]
  omega
theorem gtl_len : ∀ (k r : Nat), r < 128 ^ k → (gtl r).length ≤ k
  | 0, r, h => by
    have e : r = 0 := by omega
    subst e
    rw [gtl0]
    exact Nat.zero_le _
  | k + 1, r, h => by
    by_cases z : r = 0
    · subst z
      rw [gtl0]
      exact Nat.zero_le _
    · rw [gtl1 z, List.length_cons]
      have := gtl_len k (r / 128) (by rw [Nat.pow_succ] at h; omega)
      omega
theorem gapB_len {n : Nat} (h : n < 268435456) : (gapB n).length ≤ 4 := by
  rw [gapB_eq, List.length_append, List.length_reverse]
  have := gtl_len 3 (n / 128) (by omega)
  show (gtl (n / 128)).length + 1 ≤ 4
  omega
theorem gapB_pos (n : Nat) : 0 < (gapB n).length := by
  rw [gapB_eq, List.length_append]
  show 0 < _ + 1
  omega
theorem gtl_mono (a b : Nat) (h : a ≤ b) : (gtl a).length ≤ (gtl b).length := by
  induction b using Nat.strongRecOn generalizing a with
  | _ b ih =>
    by_cases z : a = 0
    · subst z
      rw [gtl0]
      exact Nat.zero_le _
    · rw [gtl1 z, gtl1 (show b ≠ 0 by omega), List.length_cons, List.length_cons]
      have := ih (b / 128) (by omega) (a / 128) (by omega)
      omega
theorem gapB_mono {a b : Nat} (h : a ≤ b) : (gapB a).length ≤ (gapB b).length := by
  rw [gapB_eq, gapB_eq, List.length_append, List.length_append, List.length_reverse, List.length_reverse]
  have := gtl_mono (a / 128) (b / 128) (by omega)
  exact Nat.add_le_add_right this _
theorem gtl_big (r b : Nat) (h : b ∈ gtl r) : 128 ≤ b ∧ b < 256 := by
  induction r using Nat.strongRecOn with
  | _ r ih =>
    by_cases z : r = 0
    · subst z
      rw [gtl0] at h
      cases h
    · rw [gtl1 z] at h
      rcases List.mem_cons.mp h with e | e
      · omega
      · exact ih (r / 128) (by omega) e
theorem gtl_last (r b : Nat) (h : (gtl r).getLast? = some b) : b ≠ 128 := by
  induction r using Nat.strongRecOn with
  | _ r ih =>
    by_cases z : r = 0
    · subst z
      rw [gtl0] at h
      cases h
    · rw [gtl1 z] at h
      by_cases z2 : r / 128 = 0
      · rw [z2, gtl0] at h
        have e : 128 + r % 128 = b := Option.some.inj h
        omega
      · rw [List.getLast?_cons] at h
        cases q : (gtl (r / 128)).getLast? with
        | none =>
          rw [gtl1 z2] at q
          simp at q
        | some c =>
          rw [q] at h
          have e : c = b := Option.some.inj h
          subst e
          exact ih (r / 128) (by omega) q
theorem gapB_all (n b : Nat) (h : b ∈ gapB n) : b < 256 := by
  rw [gapB_eq] at h
  rcases List.mem_append.mp h with e | e
  · exact (gtl_big _ _ (List.mem_reverse.mp e)).2
  · have : b = n % 128 := by simpa using e
    omega
theorem gapB_head {n b : Nat} (h : (gapB n)[0]? = some b) (hb : 128 ≤ b) : b ≠ 128 := by
  rw [gapB_eq] at h
  cases q : (gtl (n / 128)).reverse with
  | nil =>
    rw [q] at h
    have e : n % 128 = b := Option.some.inj h
    omega
  | cons c l =>
    rw [q] at h
    have e : c = b := Option.some.inj h
    subst e
    refine gtl_last (n / 128) c ?_
    have z : gtl (n / 128) = l.reverse ++ [c] := by
      have := congrArg List.reverse q
      rw [List.reverse_reverse, List.reverse_cons] at this
      exact this
    rw [z]
    simp
theorem gapB_mid {n i b : Nat} (h : (gapB n)[i]? = some b) (hi : i + 1 < (gapB n).length) : 128 ≤ b := by
  rw [gapB_eq] at h hi
  rw [List.length_append] at hi
  have hi' : i < (gtl (n / 128)).reverse.length := by
    have : i + 1 < (gtl (n / 128)).reverse.length + 1 := hi
    omega
  rw [List.getElem?_append_left hi'] at h
  exact (gtl_big _ _ (List.mem_reverse.mp (List.mem_of_getElem? h))).1
theorem gapB_end {n i b : Nat} (h : (gapB n)[i]? = some b) (hi : i + 1 = (gapB n).length) : b < 128 := by
  rw [gapB_eq] at h hi
  rw [List.length_append] at hi
  have e : i = (gtl (n / 128)).reverse.length := by
    have : i + 1 = (gtl (n / 128)).reverse.length + 1 := hi
    omega
  subst e
  rw [List.getElem?_append_right (Nat.le_refl _), Nat.sub_self] at h
  have e : n % 128 = b := Option.some.inj h
  omega
theorem flat_len : ∀ (l : List Nat), (∀ n ∈ l, n < 268435456) → (l.flatMap gapB).length ≤ 4 * l.length
  | [], _ => Nat.zero_le _
  | n :: l, h => by
    have h1 := flat_len l fun m hm => h m (List.mem_cons_of_mem _ hm)
    have h2 := gapB_len (h n (List.mem_cons_self ..))
    rw [List.flatMap_cons, List.length_append, List.length_cons]
    omega
def nums (l : List Nat) : List V := l.map fun (n : Nat) => V.int (n : Int)
theorem nums_snoc (l : List Nat) (b : Nat) : nums (l ++ [b]) = nums l ++ [.int (b : Int)] := by
  unfold nums
  rw [List.map_append]
  rfl
theorem nums_len (l : List Nat) : (nums l).length = l.length := by
  unfold nums
  rw [List.length_map]
theorem nums_at {l : List Nat} {i b : Nat} (h : l[i]? = some b) : (nums l)[i]? = some (.int (b : Int)) := by
  unfold nums
  rw [List.getElem?_map, h]
  rfl
theorem nums_app (l r : List Nat) : nums (l ++ r) = nums l ++ nums r := by
  unfold nums
  rw [List.map_append]
theorem nums_eq (l : List Nat) : nums l = (l.map fun (n : Nat) => (n : Int)).map V.int := by
  unfold nums
  rw [List.map_map]
  rfl
theorem nums_inv {l : List Nat} {i : Nat} {y : V} (h : (nums l)[i]? = some y) : ∃ b, l[i]? = some b ∧ y = .int (b : Int) := by
  unfold nums at h
  rw [List.getElem?_map] at h
  cases e : l[i]? with
  | none => rw [e] at h; cases h
  | some x => rw [e] at h; exact ⟨x, rfl, (Option.some.inj h).symm⟩
/-! ### names of the language -/
theorem bt_isinstance : bootBuiltins ("isinstance" : Str) = some (.builtin "isinstance") := by decide +kernel
theorem bt_all : bootBuiltins ("all" : Str) = some (.builtin "all") := by decide +kernel
theorem bt_any : bootBuiltins ("any" : Str) = some (.builtin "any") := by decide +kernel
theorem bt_sum : bootBuiltins ("sum" : Str) = some (.builtin "sum") := by decide +kernel
theorem bt_sorted : bootBuiltins ("sorted" : Str) = some (.builtin "sorted") := by decide +kernel
theorem bt_min : bootBuiltins ("min" : Str) = some (.builtin "min") := by decide +kernel
theorem bt_max : bootBuiltins ("max" : Str) = some (.builtin "max") := by decide +kernel
theorem bt_ord : bootBuiltins ("ord" : Str) = some (.builtin "ord") := by decide +kernel
theorem bt_abs : bootBuiltins ("abs" : Str) = some (.builtin "abs") := by decide +kernel
theorem bt_chr : bootBuiltins ("chr" : Str) = some (.builtin "chr") := by decide +kernel
theorem bt_list : bootBuiltins ("list" : Str) = some (.type "list") := by decide +kernel
theorem bt_tuple : bootBuiltins ("tuple" : Str) = some (.type "tuple") := by decide +kernel
theorem bt_int : bootBuiltins ("int" : Str) = some (.type "int") := by decide +kernel
theorem bt_str : bootBuiltins ("str" : Str) = some (.type "str") := by decide +kernel
theorem bt_bool : bootBuiltins ("bool" : Str) = some (.type "bool") := by decide +kernel
theorem bt_dict : bootBuiltins ("dict" : Str) = some (.type "dict") := by decide +kernel
def rLenQ (K : PySem.W.Frag) : List V → Hp → VK → Prop := fun xs H Q => ∃ p ys, xs = [.ref p] ∧ (SqL K H p ys ∨ SqT K H p ys) ∧ Q (.int ys.length) H
theorem call_lenQ {X : Cx} : CallR X (.builtin "len") (rLenQ X.K) := call_len_seq
theorem map_ref {ps : List Addr} {i : Nat} {x : Addr} (h : ps[i]? = some x) : (ps.map V.ref)[i]? = some (.ref x) := by
  rw [List.getElem?_map, h]
  rfl
theorem any_rep (n : Nat) : (List.replicate n false).any id = false := by
  induction n with
  | zero => rfl
  | succ k ih => rw [List.replicate_succ, List.any_cons, ih]; rfl
theorem all_rep (n : Nat) : (List.replicate n true).all id = true := by
  induction n with
  | zero => rfl
  | succ k ih => rw [List.replicate_succ, List.all_cons, ih]; rfl
/-- gap_bytes of a number within its bounds: a new list -/
def spGapBytes : Sp := fun vs H Q _ => ∃ (n : Nat) (H0 : Hp), vs = [.int (n : Int)] ∧ n < 268435456 ∧ Ex H0 H ∧
  ∀ (p : Addr) (H' : Hp), Go (fun _ => False) H0 H H0 H' → H p = none → H' p = some (.lst (nums (gapB n))) → Q (.ref p) H'
theorem str_len (a b : Str) : (a ++ b).length = a.length + b.length := by
  first
    | exact PySem.strLen_append a b
    | exact PySem.Str.length_append a b
theorem log_small {n : Nat} (h : n < 10 ^ 40) : n.log2 < 1920 := by
  by_cases z : n = 0
  · subst z
    decide
  · rw [Nat.log2_lt z]
    exact Nat.lt_of_lt_of_le h (Nat.le_trans (show 10 ^ 40 ≤ 2 ^ 160 by decide) (Nat.pow_le_pow_right (by decide) (by decide)))
theorem txt_sz {a : Str} {i : Int} (ha : a.length ≤ 1000) (h : i.natAbs < 10 ^ 40) : (a ++ (toString i : String)).length ≤ 3000 := by
  have h2 := PyProof.Rows.int_text_len_1921 (log_small h)
  rw [str_len]
  have : (PySem.Str.ofString (toString i)).length ≤ 1921 := h2
  omega
/-! ### data that stand in a heap -/
theorem Ex.tup {K : PySem.W.Frag} {H H' : Hp} {a : Addr} {xs : List V} (e : Ex H H') (h : SqT K H a xs) : SqT K H' a xs := by
  rcases h with (h | ⟨o, h⟩) | h
  · exact .inl (.inl (e _ _ h))
  · exact .inl (.inr ⟨o, e _ _ h⟩)
  · exact .inr h
mutual
theorem dp_up {K : PySem.W.Frag} {H H' : Hp} (e : Ex H H') : ∀ (d : PyData) (v : V), Dp K H v d → Dp K H' v d
  | .none, _, h => by cases h; exact .non
  | .bool b, _, h => by cases h; exact .bl b
  | .int i, _, h => by cases h; exact .int i
  | .str x, _, h => by cases h; exact .str x
  | .list ds, _, h => by
    cases h with
    | lst hs ha => exact .lst (e.seq hs) (dpa_up e ds _ ha)
  | .tuple ds, _, h => by
    cases h with
    | tup hs ha => exact .tup (e.tup hs) (dpa_up e ds _ ha)
  | .dict _, _, h => by cases h
theorem dpa_up {K : PySem.W.Frag} {H H' : Hp} (e : Ex H H') : ∀ (ds : List PyData) (vs : List V), DpAll K H vs ds → DpAll K H' vs ds
  | [], _, h => by cases h; exact .nil
  | d :: ds, _, h => by
    cases h with
    | cons h1 h2 => exact .cons (dp_up e d _ h1) (dpa_up e ds _ h2)
end
theorem dpa_len {K : PySem.W.Frag} {H : Hp} : ∀ {ds : List PyData} {vs : List V}, DpAll K H vs ds → vs.length = ds.length
  | [], _, h => by cases h; rfl
  | d :: ds, _, h => by
    cases h with
    | cons h1 h2 => exact congrArg Nat.succ (dpa_len h2)
theorem dpa_at {K : PySem.W.Frag} {H : Hp} : ∀ (ds : List PyData) (vs : List V) (i : Nat) (d : PyData), DpAll K H vs ds → ds[i]? = some d → ∃ v, vs[i]? = some v ∧ Dp K H v d
  | [], _, _, _, _, h => by simp at h
  | d :: ds, _, 0, d', h, e => by
    cases h with
    | cons h1 h2 =>
      have e := Option.some.inj e
      subst e
      exact ⟨_, rfl, h1⟩
  | d :: ds, _, i + 1, d', h, e => by
    cases h with
    | cons h1 h2 =>
      obtain ⟨v, e1, e2⟩ := dpa_at ds _ i d' h2 e
      exact ⟨v, e1, e2⟩
theorem dep_at : ∀ {ds : List PyData} {i : Nat} {d : PyData}, ds[i]? = some d → d.depth ≤ PyData.depthAll ds
  | [], _, _, e => by simp at e
  | d :: ds, 0, d', e => by
    have e := Option.some.inj e
    subst e
    exact Nat.le_max_left _ _
  | d :: ds, i + 1, d', e => Nat.le_trans (dep_at (ds := ds) e) (Nat.le_max_right _ _)
mutual
/-- no list in it is longer than 100000 -/
def smA : PyData → Prop
  | .list xs => xs.length ≤ 100000 ∧ smAll xs
  | .tuple xs => xs.length ≤ 100000 ∧ smAll xs
  | .dict _ => False
  | .none => True
  | .bool _ => True
  | .int _ => True
  | .str _ => True
def smAll : List PyData → Prop
  | [] => True
  | x :: xs => smA x ∧ smAll xs
end
theorem sm_at : ∀ {ds : List PyData} {i : Nat} {d : PyData}, smAll ds → ds[i]? = some d → smA d
  | [], _, _, _, e => by simp at e
  | d :: ds, 0, d', h, e => by
    have e := Option.some.inj e
    subst e
    exact h.1
  | d :: ds, i + 1, d', h, e => sm_at (ds := ds) h.2 e
theorem tyL {K : PySem.W.Frag} {H : Hp} {a : Addr} {xs : List V} (h : SqL K H a xs) : TyX K H (.ref a) (.type "list") := by
  rcases h with (h | ⟨o, h⟩) | ⟨o, its, n, h1, h2, _⟩
  · exact .base (.lst h)
  · exact .base (.frz h)
  · exact .kList h1 h2
theorem tyT {K : PySem.W.Frag} {H : Hp} {a : Addr} {xs : List V} (h : SqT K H a xs) : TyX K H (.ref a) (.type "tuple") := by
  rcases h with (h | ⟨o, h⟩) | ⟨o, its, n, h1, h2, _⟩
  · exact .base (.tup h)
  · exact .fTuple h
  · exact .kTuple h1 h2
/-- the type of a datum -/
def tyOf : PyData → String
  | .none => "NoneType"
  | .bool _ => "bool"
  | .int _ => "int"
  | .str _ => "str"
  | .list _ => "list"
  | .tuple _ => "tuple"
  | .dict _ => "dict"
theorem tyD {K : PySem.W.Frag} {H : Hp} {v : V} {d : PyData} (h : Dp K H v d) : TyX K H v (.type (tyOf d)) := by
  cases h with
  | non => exact .base .non
  | bl b => exact .base (.bl b)
  | int i => exact .base (.int i)
  | str x => exact .base (.str x)
  | lst hs _ => exact tyL hs
  | tup hs _ => exact tyT hs
theorem pe_nev {X : Cx} {e : Expr} : PE X e (fun _ _ _ => False) := ⟨fun _ _ _ _ _ _ h => h.elim⟩
theorem go_ex {H0 H H0' H' : Hp} (g : Go (fun _ => False) H0 H H0' H') : Ex H H' := fun b o h => g.keep b o h fun z => z
/-! ### ifs -/
theorem ifT {c : Bool} {A B : Prop} (hc : c = true) (h : A) : if c = true then A else B := by
  rw [if_pos hc]
  exact h
theorem ifF {c : Bool} {A B : Prop} (hc : c = false) (h : B) : if c = true then A else B := by
  rw [hc, if_neg Bool.false_ne_true]
  exact h
theorem ifD {c : Prop} [Decidable c] {A B : Prop} (h1 : c → A) (h2 : ¬ c → B) : if decide c = true then A else B := by
  by_cases h : c
  · exact ifT (decide_eq_true h) (h1 h)
  · exact ifF (decide_eq_false h) (h2 h)
theorem mem_sz {n : Nat} (h : n ≤ 1000000) : n ≤ sizeLine := Nat.le_trans h (by rw [sizeLine_eq]; decide)
theorem mem_lt {n : Nat} (h : n ≤ 1000000) : n < sizeLine := Nat.lt_of_le_of_lt h (by rw [sizeLine_eq]; decide)
theorem map_int {ns : List Int} {i : Nat} {x : Int} (h : ns[i]? = some x) : (ns.map V.int)[i]? = some (.int x) := by
  rw [List.getElem?_map, h]
  rfl
theorem map_int_inv {ns : List Int} {i : Nat} {y : V} (h : (ns.map V.int)[i]? = some y) : ∃ x, ns[i]? = some x ∧ y = .int x := by
  rw [List.getElem?_map] at h
  cases e : ns[i]? with
  | none => rw [e] at h; cases h
  | some x => rw [e] at h; exact ⟨x, rfl, (Option.some.inj h).symm⟩
end Rt

namespace Rt
open PySem PySem.Spec PySem.W PySem.Calls PyProof.Rows Builtin Builtin.ObjectAttr Builtin.Getset_descriptor
/-- the class at C bears the name z -/
structure Nmd (K : PySem.W.Frag) (C : Addr) (z : Str) : Prop where
  rd : PySem.W.readsIn K C (.type "type") = true
  fc : PySem.W.findCls K (.ref C) (.type "type") "__name__" = some (.get (.builtin "getset_descriptor.__get__") (.builtin "type.__name__") (.ref C) (.type "type"))
  ty : PySem.W.typeIn K (.ref C) = some (.type "type")
  nm : ∃ o tk, K.lookup C = some o ∧ (o.slots[2]?).join = some (.str z tk)
section
variable {prog : Program} {w : World} {A : Around} {E : Value → Shared → Prop} {s : Shared} {K : PySem.W.Frag} {R : Result → Shared → Prop}
theorem name_dga (d tp : Value) (C : Addr) : descrGetArgs ⟨[d, .ref C, tp], []⟩ = pure (d, some (.ref C), given tp) := by kernel_rfl
theorem name_get {C : Addr} {z : Str} {tp : Value} (X : K.In s.heap) (N : Nmd K C z) (h : ∀ tk, R (.ok (.ret (.str z tk))) s) :
    codeAny (model prog w) A (.call (.builtin "getset_descriptor.__get__") ⟨[.builtin "type.__name__", .ref C, tp], []⟩) R s := by
  obtain ⟨o, tk, hC, hz⟩ := N.nm
  obtain ⟨hh, g, dr, t, os⟩ := s
  have L0 : PySem.W.Looks (model prog w) hh (typeOf (.ref C)) (.type "type") := looks_typeIn X N.ty
  have L1 : PySem.W.Looks (model prog w) hh (isSubtype (.type "type") (.type "type")) true := Looks.of_pure (by rw [isSubtype_type]; kernel_rfl)
  have hget : hh.get? C = some o := X _ _ hC
  refine codeAny_call_builtin KF.slot_gs.plain KF.entry_gs (KF.slot_gs.check _ _ _ _ _ _ _ _ ktyn_type (KF.args_gs _ _ _) ?_)
  unfold Builtin.«getset_descriptor.__get__» descrGet
  rw [name_dga]
  refine wpAny_bind (wpAny_pure ?_)
  unfold descrGetter descrCheckInstance descrNameAndClass isInstance
  simp only [ktyn_owner]
  repeat lk
  refine ⟨Code.quiet_builtin _ (by decide +kernel), codeAny_builtin ktyn_entry ?_⟩
  unfold Builtin.«type.__name__»
  dsimp only
  unfold Builtin.keptObject slotAt
  refine wpAny_bind (wpAny_bind (wpAny_loadPart_at hget (wpAny_pure ?_)))
  rw [hz]
  exact wpAny_pure (h tk)
/-- C.__name__ -/
theorem name_attr {C : Addr} {z : Str} {expr : Bool} {Q : Value → Shared → Prop} (X : K.In s.heap) (N : Nmd K C z) (h : ∀ tk, Q (.str z tk) { s with toks := s.toks + 1 }) : wpAny (model prog w) A (getAttr (.ref C) "__name__" expr) Q E s := by
  refine cls_bind X N.rd N.fc ?_
  exact wpAny_call (name_get (s := { s with toks := s.toks + 1 }) X N fun tk => handed_on rfl (h tk))
end
/-- what an error's class says of __class__ -/
structure ClsE (K : PySem.W.Frag) (C : Addr) : Prop where
  ga : PySem.W.findIn K (.ref C) "__getattribute__" = some (some (.builtin "BaseException.__getattribute__"))
  gg : PySem.W.findIn K (.ref C) "__getattr__" = some none
  sb : PySem.W.subIn K (.ref C) (.type "BaseException") = some true
  hd : PySem.W.hasDictIn K C = true
  ca : PySem.W.findIn K (.ref C) "__class__" = some (some (.builtin "object.__class__"))
  cg : PySem.W.specialIn K (.builtin "object.__class__") "__get__" = some (some (.builtin "getset_descriptor.__get__"))
  ct : PySem.W.takesIn K (.builtin "object.__class__") = some true
  mo : PySem.W.mroIn K C (.type "object") = some true
section
variable {prog : Program} {w : World} {A : Around} {E : Value → Shared → Prop} {s : Shared} {K : PySem.W.Frag} {x D : Addr} {ox : Obj} {od : Option Obj}
/-- x.__class__ of an error of the class at D -/
theorem cls_attr {expr : Bool} {Q : Value → Shared → Prop} (T : ClsE K D) (X : K.In s.heap) (I : PySem.W.InstAt s.heap x ox D od) (hf : PySem.W.findObj K D od "__class__" = some (.bind (.builtin "getset_descriptor.__get__") (.builtin "object.__class__")))
    (h : Q (.ref D) { s with toks := s.toks + 1 }) : wpAny (model prog w) A (getAttr (.ref x) "__class__" expr) Q E s := by
  obtain ⟨hp, g, d, t, os⟩ := s
  have K0 := I.type (M := model prog w)
  have K1 := looks_findIn (M := model prog w) X T.ga
  have K2 := looks_findIn (M := model prog w) X T.gg
  have K3 := looks_find (M := model prog w) X I hf
  have up : PySem.W.Looks (model prog w) hp (isInstance (.ref x) (.type "BaseException")) true := K0.andThen (looks_subIn X T.sb)
  have b0 : (expr && onTheHeap (Value.builtin "BaseException.__getattribute__")) = false := by cases expr <;> rfl
  have b2 : (Value.builtin "BaseException.__getattribute__" == Value.builtin "object.__getattribute__") = false := by decide +kernel
  have b1 : (onTheHeap (Value.ref D) && Value.builtin "BaseException.__getattribute__" == Value.builtin "object.__getattribute__") = false := by rw [b2]; rfl
  unfold getAttr getAttrBy
  refine wpAny_bind (wpAny_mkText ?_)
  refine wpAny_holding (wpAny_bind (K0.at (wpAny_bind (K1.at ?_))))
  show wpAny _ _ (if (onTheHeap (Value.ref D) && Value.builtin "BaseException.__getattribute__" == Value.builtin "object.__getattribute__") = true then _ else _) _ _ _
  rw [b1]
  rw [if_neg Bool.false_ne_true]
  unfold getAttrByItsOwn hookBefore
  refine wpAny_bind ?_
  rw [if_pos (show onTheHeap (Value.ref D) = true by rfl)]
  refine K2.at (wpAny_bind (wpAny_attempt ?_))
  refine wpAny_holding ?_
  unfold callGetattribute
  rw [b0]
  rw [if_neg Bool.false_ne_true]
  unfold boundAndCalled
  rw [PySem.F.excAttr_ValueError.ga.bind (Value.ref x)]
  refine wpAny_bind (wpAny_pure ?_)
  show wpAny _ _ (call (.builtin "BaseException.__getattribute__") [.ref x, .str "__class__" t]) _ _ _
  refine wpAny_call ?_
  refine codeAny_call_builtin PySem.F.excAttr_ValueError.ga.plain PySem.F.entry_bexc_ga ?_
  refine @check_slot (model prog w) _ _ ⟨hp, g, d, t + 1, os⟩ "BaseException.__getattribute__" "BaseException" "__getattribute__" (.ref x) [.str "__class__" t] [] _ (by decide +kernel) (by decide +kernel) up (PySem.F.args_bexc_ga (.ref x) (.str "__class__" t)) ?_
  unfold Builtin.«object.__getattribute__»
  refine wpAny_bind (wpAny_of_eq (a := ((Value.ref x : Value), [Value.str "__class__" t])) (by first | rfl | (simp only [slotArgs]; rfl)) ?_)
  refine wpAny_bind (wpAny_pure (wpAny_bind (K0.at ?_)))
  refine wpAny_bind (K3.at ?_)
  show wpAny _ _ (holding [Value.builtin "object.__class__"] (call (.builtin "getset_descriptor.__get__") [.builtin "object.__class__", .ref x, .ref D]) >>= ret) _ _ _
  refine wpAny_bind (wpAny_holding (wpAny_call ?_))
  refine class_get (s := ⟨hp, g, d, t + 1, os⟩) (ox := ox) (od := od) X I T.mo ?_
  first
    | exact wpAny_pure (handed_on rfl (wpAny_pure h))
    | exact wpAny_pure (handed_on rfl h)
    | exact wpAny_pure (wpAny_bind (handed_on rfl (wpAny_pure h)))
end
end Rt

namespace Rt
open PySem PySem.Spec PyProof.Rows L2
/-! ### errors with the field called -/
def tCN (K : PySem.W.Frag) (te : TE) : TE := fun σ H Q => te σ H fun x H1 => ∃ (a C : Addr) (z : Str), x = .ref a ∧ ClsE K C ∧ Nmd K C z ∧ H1 a = some (exo a C none) ∧ Q (.str z) H1
/-- self.__class__.__name__ of an error that is being made -/
theorem pe_cn {X : Cx} {o : Expr} {te : TE} {p1 p2 : Pos} (ho : PE X o te) (hb1 : attributeBase o "__class__" X.env (eval o X.env) = eval o X.env := by rfl)
    (hb2 : attributeBase (.Attribute o "__class__" p1) "__name__" X.env (eval (.Attribute o "__class__" p1) X.env) = eval (.Attribute o "__class__" p1) X.env := by rfl) :
    PE X (.Attribute (.Attribute o "__class__" p1) "__name__" p2) (tCN X.K te) := by
  refine ⟨fun pins s σ H Q I h => ?_⟩
  refine attr_of hb2 (attr_of hb1 (thn (ho.run pins s σ H _ I h) fun u s1 hh => ?_))
  obtain ⟨x, H1, I1, rx, a, C, z, ex, T, N, ea, q⟩ := hh
  subst ex
  obtain rfl : u = Value.ref a := rx
  obtain ⟨t1, he⟩ := exo_at I1.hok ea
  have J : PySem.W.InstAt s1.heap a _ C none := ⟨he, rfl, rfl, trivial⟩
  have hf := PySem.W.findObj_dataN (K := X.K) (C := C) (name := "__class__") (by obtain ⟨cd, hc, _⟩ := PySem.W.any_some T.hd; rw [hc]; rfl) T.ca T.cg T.ct
  refine cls_attr T I1.kIn J hf ?_
  have I2 := I1.tok (s1.toks + 1)
  refine name_attr I2.kIn N fun tk => ?_
  exact ⟨.str z, H1, I2.tok _, ⟨tk, rfl⟩, q⟩
/-- all that a raise asks of an error's class: its name, its class object, the word that its errors bear -/
structure Err (K : PySem.W.Frag) (mg : Str → Option Value) (x : Str) (C : Addr) (z word : Str) : Prop where
  g : mg x = some (.ref C)
  oex : OexC K C
  cls : ClsE K C
  nmd : Nmd K C z
  nc : PySem.W.findIn K (.ref C) "called" = some none
  low : Txt.lower z = word
  sz : z.length ≤ 1000
/-- TapeError.__init__ (and its like): self.called is the class's name in small letters -/
def spInit (K : PySem.W.Frag) : Sp := fun vs H Q _ => ∃ (a C : Addr) (why : V) (z : Str), vs = [.ref a, why] ∧ OexC K C ∧ ClsE K C ∧ Nmd K C z ∧ PySem.W.findIn K (.ref C) "called" = some none ∧ z.length ≤ 1000 ∧ H a = some (exo a C none) ∧
  ∀ dx, H dx = none → dx ≠ a → Q .non (upd (upd H dx (exd dx [("called", .str (Txt.lower z))])) a (exo a C (some dx)))
/-- the rule of __init__ as the program has it -/
theorem init_reads {K : PySem.W.Frag} {Q : VK} {E : XK} {vs : List V} {H : Hp} (h : spInit K vs H Q E) :
    tSeq (tDrop (tVeI K (tCons (tVar 0) (tCons (tVar 1) tNil)))) (tSeq (tAsg (tCN K (tVar 0)) (gName 2)) (tOst K "called" (tVar 0) (fun σ H Q => (tVar 2) σ H fun x H1 => ∃ a, x = .str a ∧ ([] : List V) = [] ∧ a.length ≤ 5592405 ∧ Q (.str (Txt.lower a)) H1)))
      { nx := fun _ H' => Q .non H', rt := Q } (L2.start ["self", "why", "name"] vs) H := by
  obtain ⟨a, C, why, z, rfl, T1, T2, T3, T4, hz, ha, q⟩ := h
  refine ⟨_, rfl, _, rfl, a, C, _, rfl, (by show 1 ≤ 1000; decide), T1, ha, ?_⟩
  refine ⟨_, rfl, a, C, z, rfl, T2, T3, ha, ?_⟩
  refine ⟨_, rfl, _, rfl, rfl, by omega, ?_⟩
  exact ⟨_, rfl, a, C, rfl, T1, T4, .inl ⟨ha, fun dx h1 h2 => q dx h1 h2⟩⟩
end Rt

namespace Rt
open PySem PySem.Spec PyProof.Rows L2
/-! ### several clauses, each with a name (slot i) -/
abbrev wipeEnds (i : Nat) (D : Ends) : Ends := { nx := fun τ G => D.nx (τ.set i none) G, rt := D.rt, bk := fun τ G => D.bk (τ.set i none) G, ct := fun τ G => D.ct (τ.set i none) G }
def wAll (K : PySem.W.Frag) (i : Nat) (W0 : WX) (D : Ends) : List (Value × (Addr → Value → Option Addr → TS)) → WX
  | [] => W0
  | p :: r => fun cls d τ G => ∃ b, PySem.W.exmOne K cls p.1 = some b ∧ (b = true → ∀ a, G a = none → p.2 a cls d (wipeEnds i D) (τ.set i (some (.ref a))) G) ∧ (b = false → wAll K i W0 D r cls d τ G)
inductive Hds (X : Cx) (n : Str) : List ExceptHandler → List (Value × (Addr → Value → Option Addr → TS)) → Prop
  | nil : Hds X n [] []
  | cons {x : Str} {c : Value} {ts : Addr → Value → Option Addr → TS} {b₀ : Stmt} {su : List Stmt} {np q : Pos} {hds : List ExceptHandler} {l : List (Value × (Addr → Value → Option Addr → TS))} (hc : Names X x c)
      (go : ∀ (a : Addr) (oe : Obj) (cls : Value) (d : Option Addr) (pn : List (Addr × Obj)), Zc cls d oe → (∃ vs, oe.data = .fields vs) → PSs (X.suite a ((a, oe) :: pn)) (b₀ :: su) (ts a cls d)) (r : Hds X n hds l) :
      Hds X n (.ExceptHandler (some (.Name x np)) (some n) (b₀ :: su) q :: hds) ((c, ts) :: l)
section
variable {X : Cx} {n : Str} {i : Nat} {body : List Stmt} {h1 : ExceptHandler} {hds : List ExceptHandler} {l : List (Value × (Addr → Value → Option Addr → TS))} {pos : Pos} {tb : WX → TS} {W0 : WX}
theorem ps_try_all (hs : X.stack = X.env :: X.outer) (hf : X.env.frame = some X.env.locals) (hN : X.N.Nodup) (hi : X.N[i]? = some n) (hln : X.env.kindOf n = some .local) (tk : Takes X W0)
    (hb : ∀ (W : WX) (pn : List (Addr × Obj)) (xe : Value → Shared → Prop), Takes (X.tr pn xe) W → PassesOwn (model X.prog X.w) X.A X.env xe → PSs (X.tr pn xe) body (tb W))
    (hh : Hds X n (h1 :: hds) l) : PS X (.Try body (h1 :: hds) [] [] pos) (fun D σ H => tb (wAll X.K i W0 D l) D σ H) := by
  refine ⟨fun pins s σ H D I h => ?_⟩
  have ok := I.ok
  have frm : X.A.frames = some (X.env :: X.outer) := by
    rw [ok.frames, hs]
  have nloc : Loc X.env.scope n := Or.inl hln
  have run := (hb (wAll X.K i W0 D l) (X.pn ++ pins) (fun e s₁ => wpAny (model X.prog X.w) X.A (noteFrame e X.env) (fun _ s₂ => wpAny (model X.prog X.w) X.A (setFlight e none) (fun _ s₃ =>
    wpAny (model X.prog X.w) X.A (handleBy e X.env (h1 :: hds)) (SP X pins D) X.xe s₃) X.xe s₂) X.xe s₁) (fun u s' xx => ?_) PassesOwn.looking).run [] s σ H D (I.toTry _) h
  · refine wpAny_Try_except (wpAny_mono run (fun f s1 hsp => ?_) (fun e s1 he => he))
    cases f with
    | next =>
      obtain ⟨τ, G, J, q⟩ := hsp
      exact wpAny_execs_nil ⟨τ, G, J.ofTry ok, q⟩
    | brk =>
      obtain ⟨τ, G, J, q⟩ := hsp
      exact ⟨τ, G, J.ofTry ok, q⟩
    | cont =>
      obtain ⟨τ, G, J, q⟩ := hsp
      exact ⟨τ, G, J.ofTry ok, q⟩
    | ret u =>
      obtain ⟨v, τ, G, J, r, q⟩ := hsp
      exact ⟨v, τ, G, J.ofTry ok, r, q⟩
  · obtain ⟨a, B, sI, pins', τ, G, cls, d, rfl, J', nb, up, sky, na, os, ag, w⟩ := xx
    have J : Inv X pins τ G sI := J'.ofTry ok
    have sky1 : Sky B (X.env :: X.outer) a (Zc cls d) X.env.locals s'.heap := by
      rw [← hs]; exact sky
    show wpAny (model X.prog X.w) X.A (noteFrame (.ref a) X.env) _ _ _
    refine Sky.land Zc.steady frm hf sky1 fun h3 fl3 up3 => ?_
    have J3 : Inv X pins τ G { s' with heap := h3 } := J.landed nb fl3.1 (up.trans up3) os ag
    obtain ⟨oe3, vs3, he3, hz3, hd3⟩ := fl3.there
    have off : ∀ {k : Heap} {o : Obj} {vs : Array Value}, k.FunFrames B (X.env :: X.outer) → k.get? a = some o → o.data = .fields vs → a ∉ frs (X.env :: X.outer) := by
      intro k o vs ff e dd hm
      obtain ⟨_, o', e', hnf⟩ := ff.mem hm
      rw [e] at e'
      cases e'
      exact hnf _ dd
    have nfr := off fl3.2.2.1 he3 hd3
    have nL : a ≠ X.env.locals := by
      intro z
      exact nfr (List.mem_filterMap.mpr ⟨X.env, List.mem_cons_self, by rw [hf, z]⟩)
    have nF : a ∉ X.fs := by
      intro hm
      obtain ⟨e, he, q⟩ := List.mem_filterMap.mp hm
      exact nfr (List.mem_filterMap.mpr ⟨e, List.mem_cons_of_mem _ he, q⟩)
    have S3 := J3.suite he3 hd3 na nL nF
    have go : ∀ {hds' : List ExceptHandler} {l' : List (Value × (Addr → Value → Option Addr → TS))}, Hds X n hds' l' → wAll X.K i W0 D l' cls d τ G →
        wpAny (model X.prog X.w) X.A (handleBy (.ref a) X.env hds') (SP X pins D) X.xe { s' with heap := h3 } := by
      intro hds' l' hk
      induction hk with
      | nil =>
        intro w
        refine wpAny_handleBy_nil ?_
        obtain ⟨k1, k2, k3, oe, vs, T, oT, ts', he, hz, hd, hv1, hr⟩ := id fl3
        unfold PySem.passOn
        refine wpAny_bind (wpAny_field he hd hv1 ?_)
        rw [if_neg (show ¬ ((Value.ref T == Value.none) = true) by simp)]
        have out : wpAny (model X.prog X.w) X.A (setFlight (.ref a) X.env.frame) (fun _ s4 => wpAny (model X.prog X.w) X.A (throw (.ref a) : Sem Flow) (SP X pins D) X.xe s4) X.xe { s' with heap := h3 } := by
          rw [hf]
          refine HandSPX.setFlight_upZ fl3 fun h4 hh4 up4 => ?_
          refine wpAny_throw (tk _ _ ⟨a, B, sI, pins, τ, G, cls, d, rfl, J, nb, (up.trans up3).trans up4, ?_, na, os, ag, w⟩)
          exact Or.inr (Or.inr (by rw [hs]; exact hh4))
        first
          | exact wpAny_bind (wpAny_pure (wpAny_bind out))
          | exact wpAny_bind out
      | @cons x c ts b₀ su np q hds2 l2 hc hsu r ih =>
        intro w
        obtain ⟨b, hb1, hyes, hno⟩ := w
        refine wpAny_handleBy_cons (codeAny_handlers_test ?_) (by intro q; cases q)
        have LT : PySem.W.Looks (model X.prog X.w) h3 (typeOf (.ref a)) cls := by
          intro A Q E s k q
          exact wpAny_typeOf_ref (k _ _ he3) (by rw [hz3.1]; exact q)
        have LM := PySem.W.exm_one (M := model X.prog X.w) (J3.kIn) LT hb1
        have test : ∀ {Q : Value → Shared → Prop} {E : Value → Shared → Prop}, Q c { s' with heap := h3 } → wpAny (model X.prog X.w) (X.A.mark (some (.ref a))) (eval (.Name x np) X.env) Q E { s' with heap := h3 } := by
          intro Q E q
          obtain ⟨hg, hdbg, hm⟩ := hc
          rcases hm with hm | ⟨hm, hv, hnn⟩
          · exact ld_glob (X := X.suite a ((a, oe3) :: (X.pn ++ pins))) S3 hg hm q hdbg
          · exact ld_blt (X := X.suite a ((a, oe3) :: (X.pn ++ pins))) S3 hg hm hv q hnn hdbg
        refine test (LM.here ?_)
        cases b with
        | false =>
          show wpAny _ X.A (handleBy (.ref a) X.env hds2) _ _ _
          exact ih (hno rfl)
        | true =>
          refine codeAny_handlers_suite_as (HandSPX.lands_againZ fl3 fun h4 fl4 up4 => ?_)
          have J4 : Inv X pins τ G { s' with heap := h4 } := J.landed nb fl4.1 ((up.trans up3).trans up4) os ag
          obtain ⟨oe4, vs4, he4, hz4, hd4⟩ := fl4.there
          have S4 := J4.suite he4 hd4 na nL nF
          refine store_ok (X := X.suite a ((a, oe4) :: (X.pn ++ pins))) (v := .ref a) S4 hN hi nloc rfl (fun s5 S5 => ?_) (Or.inr hln)
          have fin : ∀ {τ6 : L2.St} {G6 : Hp} {s6 : Shared} {Q : Shared → Prop}, Inv (X.suite a ((a, oe4) :: (X.pn ++ pins))) [] τ6 G6 s6 → (∀ s7, Inv X pins (τ6.set i none) G6 s7 → Q s7) →
              wpAny (model X.prog X.w) X.A (do bindName X.env n .none; unbindBehindTheSuite X.env n q) (fun _ s7 => Q s7) X.xe s6 := by
            intro τ6 G6 s6 Q S6 hq
            exact gone_ok (S6.unsuite ok) hN hi hln hq
          refine wpAny_mono ((hsu a oe4 cls d (X.pn ++ pins) hz4 ⟨_, hd4⟩).run [] s5 _ G _ S5 (hyes rfl a na)) (fun f s6 hsp => ?_) (fun _ _ z => False.elim z)
          cases f with
          | next =>
            obtain ⟨τ6, G6, S6, q6⟩ := hsp
            exact fin S6 fun s7 J7 => ⟨_, _, J7, q6⟩
          | brk =>
            obtain ⟨τ6, G6, S6, q6⟩ := hsp
            exact fin S6 fun s7 J7 => ⟨_, _, J7, q6⟩
          | cont =>
            obtain ⟨τ6, G6, S6, q6⟩ := hsp
            exact fin S6 fun s7 J7 => ⟨_, _, J7, q6⟩
          | ret u =>
            obtain ⟨v6, τ6, G6, S6, r6, q6⟩ := hsp
            exact fin S6 fun s7 J7 => ⟨_, _, _, J7, r6, q6⟩
    exact go hh w
end
end Rt

namespace Rt
open PySem PySem.Spec PyProof.Rows L2
/-- an error of the program, in flight: its class bears word (tape: under TapeError, else under MissingError); nothing else is turned -/
structure Raised (K : PySem.W.Frag) (mg : Str → Option Value) (word : Str) (tape : Bool) (H : Hp) (cls : Value) (d : Option Addr) (H' : Hp) : Prop where
  ex : ∃ (C CT CM dd : Addr), cls = .ref C ∧ d = some dd ∧ H dd = none ∧ H' = upd H dd (.xd [("called", .str word)]) ∧ XfC K C ∧ PySem.W.findIn K (.ref C) "called" = some none ∧
    mg "TapeError" = some (.ref CT) ∧ mg "MissingError" = some (.ref CM) ∧ PySem.W.exmOne K (.ref C) (.ref CT) = some tape ∧ (tape = false → PySem.W.exmOne K (.ref C) (.ref CM) = some true)
/-- an error's class with its __init__ (level k) -/
structure ErrK (P : Program) (w : World) (K : PySem.W.Frag) (mg : Str → Option Value) (base : Heap) (k : Nat) (x word : Str) (tape : Bool) : Prop where
  ex : ∃ (C CT CM fI : Addr) (z : Str) (fd : FuncData), Err K mg x C z word ∧ PySem.W.findIn K (.ref C) "__init__" = some (some (.ref fI)) ∧ PySem.W.typeIn K (.ref fI) = some (.type "function") ∧
    FnOk P w K mg base CX0 k fI fd ["self", "why"] (spInit K) ∧ Binds K fd ["self", "why"] [] ∧ XfC K C ∧
    mg "TapeError" = some (.ref CT) ∧ mg "MissingError" = some (.ref CM) ∧ PySem.W.exmOne K (.ref C) (.ref CT) = some tape ∧ (tape = false → PySem.W.exmOne K (.ref C) (.ref CM) = some true)
/-- raise X(why) -/
def tRaiseK (K : PySem.W.Frag) (mg : Str → Option Value) (word : Str) (tape : Bool) (W : WX) (ta : TA) : TS := fun _ σ H => ta σ H fun vs H1 => ∃ why, vs = [why] ∧ ∀ cls d H', Raised K mg word tape H1 cls d H' → W cls d σ H'
/-- a reading with room: what is read may be weakened -/
def tUp (ta : TA) : TA := fun σ H Q => ∃ R : List V → Hp → Prop, ta σ H R ∧ ∀ vs H1, R vs H1 → Q vs H1
theorem pa_up {X : Cx} {es : List Expr} {ta : TA} (ha : PA X es ta) : PA X es (tUp ta) := ⟨fun pos pins s σ H Q I ⟨R, h, imp⟩ => thn (ha.run pos pins s σ H R I h) fun us s1 ⟨vs, H1, I1, r, q⟩ => ⟨vs, H1, I1, r, imp vs H1 q⟩⟩
section
variable {X : Cx} {x word : Str} {tape : Bool} {k : Nat} {e : Expr} {es : List Expr} {ta : TA} {W : WX} {p pos pos2 : Pos}
theorem ps_raiseK (hc : X.calm = true) (T : ErrK X.prog X.w X.K X.mg X.base k x word tape) (hr : Room (k + 1) X.A) (tk : Takes X W) (hg : Gl X x) (ha : PA X (e :: es) ta) (hdb : (x == ("__debug__" : Str)) = false := by decide)
    (he : starEach (e :: es) X.env = (false, eval e X.env) :: starEach es X.env := by rfl) (hpl : (backTo pos (starEach es X.env)).any (·.1) = false := by rfl) :
    PS X (.Raise (some (.Call (.Name x p) (e :: es) [] pos)) none pos2) (tRaiseK X.K X.mg word tape W ta) := by
  obtain ⟨C, CT, CM, fI, z, fd, R, iC, tI, F1, hb, xf, g1, g2, m1, m2⟩ := T.ex
  have mk := pmk_oex (X := X) (CX := CX0) (p := p) (pos := pos) R.oex iC tI F1 hr hb .nil pass0 hg R.g (pa_up ha) hdb he hpl
  have rs := ps_raise (pos := pos2) hc tk mk
  refine ⟨fun pins s σ H D I h => rs.run pins s σ H D I ?_⟩
  -- from our reading to the rule's
  have imp : ∀ (vs : List V) (H1 : Hp), (∃ why, vs = [why] ∧ ∀ cls d H', Raised X.K X.mg word tape H1 cls d H' → W cls d σ H') →
      vs.length ≤ 1000 ∧ ∀ a, H1 a = none → spInit X.K (.ref a :: (vs ++ [])) (upd H1 a (exo a C none))
        (fun v H2 => v = .non ∧ ∃ (d : Addr) (fs : List (Str × V)), H2 a = some (exo a C (some d)) ∧ H2 d = some (exd d fs) ∧ H1 d = none ∧ W (.ref C) (some d) σ (upd (del H2 a) d (.xd fs))) (fun _ _ _ => False) := by
    rintro vs H1 ⟨why, rfl, q⟩
    refine ⟨(by show 1 ≤ 1000; decide), fun a ha => ⟨a, C, why, z, rfl, R.oex, R.cls, R.nmd, R.nc, R.sz, upd_same, fun dx hdx nda => ⟨rfl, dx, [("called", .str (Txt.lower z))], upd_same, ?_, ?_, ?_⟩⟩⟩
    · rw [upd_ne nda, upd_same]
    · rw [upd_ne nda] at hdx
      exact hdx
    · rw [upd_ne nda] at hdx
      refine q _ _ _ ⟨C, CT, CM, dx, rfl, rfl, hdx, ?_, xf, R.nc, g1, g2, m1, m2⟩
      funext b
      by_cases e1 : b = dx
      · rw [e1, upd_same, upd_same, R.low]
      · rw [upd_ne e1, upd_ne e1]
        by_cases e2 : b = a
        · rw [e2, del_same, ha]
        · rw [del_ne e2, upd_ne e2, upd_ne e1, upd_ne e2]
  exact ⟨_, h, imp⟩
end
end Rt

namespace Rt
open PySem PySem.Spec PyProof.Rows L2 LamX
/-! ### a def that is handed a lambda and calls it; what is raised is wished for at the slots -/
section
variable {X : Cx} {pins : List (Addr × Obj)} {σ : L2.St} {H : Hp} {s : Shared}
theorem pe_ask {CXg : CXT} {Eg : XK} {Ng : List Str} {qg : Str} {sg : Scope} {g f c' : Addr} {cdg pm ctv : Value} {params : Arguments} {body : Expr} {scope : Scope} {k i : Nat} {a : Str} {pn : List (Addr × Obj)} {xe : Value → Shared → Prop} {W : WX} {tb : XK → TE} {p1 p2 : Pos}
    (I : Inv X pins σ H s) (L : LamS X.env.scope scope) (hf : s.heap.get? f = some (PySem.W.kla_obj "<lambda>" (X.env.qual ++ "<lambda>") params body scope (cloFrom X.env.cells scope.names []) pm c' ctv)) (hfn : H f = none) (hfr : f ∉ frs X.stack)
    (hbind : bindArgs (PySem.W.kla_fn "<lambda>" (X.env.qual ++ "<lambda>") params body scope (cloFrom X.env.cells scope.names []) pm (.ref c') ctv) ⟨[], []⟩ = pure [])
    (tk : Takes ((cxOf CXg X.prog X.w X.K X.mg X.base Ng qg sg g cdg X.A X.stack s H Eg).tr pn xe) W) (hr : Room (k + 1) (X.A.deeper (envOfC qg sg s.heap.objs.size g cdg)))
    (hbody : ∀ (E : XK) (A : Around) (outer : List Env) (s : Shared) (H : Hp), Room k (A.deeper (lamEnv X scope s.heap.objs.size f c')) → PE (lamCx X A outer s H E scope f c') body (tb E))
    (hN : Ng[i]? = some a) (hv : Vis sg a) (hd : (a == ("__debug__" : Str)) = false := by decide) (hcd : (a == ("__classdict__" : Str)) = false := by decide) :
    PE ((cxOf CXg X.prog X.w X.K X.mg X.base Ng qg sg g cdg X.A X.stack s H Eg).tr pn xe) (.Call (.Name a p1) [] [] p2)
      (fun τ G Q => τ[i]? = some (some (.ref f)) ∧ G c' = some (CodeO c' (X.env.qual ++ "<lambda>")) ∧ ∃ (Ec : XK) (R : VK), (∀ cls d G', Ec cls d G' → W cls d τ G') ∧ (∀ v G', R v G' → Q v G') ∧ tb Ec σ G R) := by
  refine ⟨fun pinsZ sZ τ G Q IZ h => ?_⟩
  obtain ⟨hs, hc, Ec, R, hW, hR, ht⟩ := h
  have nm := (pe_var (X := (cxOf CXg X.prog X.w X.K X.mg X.base Ng qg sg g cdg X.A X.stack s H Eg).tr pn xe) (pos := p1) (i := i) hN hv hd hcd).run pinsZ sZ τ G (fun v H1 => v = .ref f ∧ H1 = G) IZ ⟨.ref f, hs, rfl, rfl⟩
  refine wpAny_Call_Name_kw (thn nm fun u s1 hu => ?_)
  obtain ⟨v, H1, I1, r1, ev, eH⟩ := hu
  subst ev
  rw [eH] at I1
  obtain rfl : u = Value.ref f := r1
  have un : Un (frs X.stack) [] H G s.heap s1.heap := I1.base
  have of1 := un.keep f _ hf hfn hfr (fun z => nomatch (show f ∈ ([] : List Addr) from z))
  refine PySem.W.callWith_F0 ⟨_, _, _, _, of1⟩ ?_
  obtain ⟨⟨oc, vs, t, hoc, hdc, hvc⟩, _, _⟩ := I1.hok c' _ hc
  have rc : codeAny (model X.prog X.w) (X.A.deeper (envOfC qg sg s.heap.objs.size g cdg)) (.call (.ref f) ⟨[], []⟩)
      (CR (L2.CX X.prog X.w) (envOfC qg sg s.heap.objs.size g cdg :: X.stack) X.prog X.w G s1 Q Ec) s1 := by
    refine PySem.W.kla_callFunE hr.depth of1 rfl L.co L.gen rfl ⟨c', oc, vs, t, rfl, hoc, hdc, hvc⟩ ?_
    rw [hbind]
    refine wpAny_pure (wpAny_newFunctionEnv (fun y hy => (L.own y hy).2) (fun y hy => absurd hy (by simp)) (fun h₁ hns hsb => ?_) L.kind)
    refine ⟨I1.nolimit.fresh _ hsb, ?_⟩
    show codeAny _ _ (.expr body (lamEnv X scope s1.heap.objs.size f c')) _ _
    have kp : ∀ b o, s1.heap.get? b = some o → h₁.get? b = some o := by
      intro b o e
      exact hsb.extBut b o (Nat.ne_of_lt (Heap.lt_size e)) (Heap.get?_push_of_some _ e)
    have J : Inv (lamCx X (X.A.deeper (envOfC qg sg s.heap.objs.size g cdg)) (envOfC qg sg s.heap.objs.size g cdg :: X.stack) s1 G Ec scope f c') [] σ G
        { s1 with heap := h₁, toks := s1.toks + ([] : List (Str × Value)).length } := lam_start2 I L I1.env0 hr.hd un hns kp
    refine PySem.W.kla_codeExpr (wpAny_mono ((hbody Ec _ _ s1 G (hr.deeper _)).run [] _ _ G R J ht) (fun v s' hq => ?_) fun e s' hq => hq)
    obtain ⟨w', H', J', rv, q⟩ := hq
    exact ⟨w', H', J'.os, J'.bare, J'.base, J'.hok, rv, hR _ _ q⟩
  refine wpAny_call (codeAny_mono rc fun r s' hq => ?_)
  cases r with
  | error e => exact tk e s' (XE.of_call I1 (fun cls d G' hE => hW cls d G' hE) hq)
  | ok fl =>
    cases fl with
    | ret u => exact I1.after hq
    | next => exact False.elim hq
    | brk => exact False.elim hq
    | cont => exact False.elim hq
end
/-- the def with its lambda in slot 0; TT: what it makes of the lambda's reading (tl E H Q: E what is wished of an error) -/
def Asks (X : Cx) (Ng : List Str) (x : Str) (sg : Scope) (g : Addr) (cdg : Value) (bg : List Stmt) (a : Str) (q : Str) (TT : (XK → Hp → VK → Prop) → Hp → VK → Prop) : Prop :=
  ∀ (f c' : Addr) (s : Shared) (H : Hp) (Q : VK) (tl : XK → Hp → VK → Prop),
    (∀ (W : WX) (pn : List (Addr × Obj)) (xe : Value → Shared → Prop) (p1 p2 : Pos), Takes ((cxOf C8.CX0 X.prog X.w X.K X.mg X.base Ng x sg g cdg X.A X.stack s H C8.E0).tr pn xe) W →
      PE ((cxOf C8.CX0 X.prog X.w X.K X.mg X.base Ng x sg g cdg X.A X.stack s H C8.E0).tr pn xe) (.Call (.Name a p1) [] [] p2) (fun τ G Q => τ[0]? = some (some (.ref f)) ∧ G c' = some (CodeO c' q) ∧ ∃ (Ec : XK) (R : VK), (∀ cls d G', Ec cls d G' → W cls d τ G') ∧ (∀ v G', R v G' → Q v G') ∧ tl Ec G R)) →
    H c' = some (CodeO c' q) → TT tl H Q →
    ∃ t, PSs (cxOf C8.CX0 X.prog X.w X.K X.mg X.base Ng x sg g cdg X.A X.stack s H C8.E0).nox bg t ∧ t { nx := fun _ H' => Q .non H', rt := Q } (L2.start Ng [.ref f]) H
section
variable {X : Cx}
/-- x(lambda: body) -/
theorem pe_asks {T : List (Addr × Str)} {TT : (XK → Hp → VK → Prop) → Hp → VK → Prop} {x a : Str} {g c P : Addr} {k : Nat} {pg : Arguments} {bg : List Stmt} {sg : Scope} {dV kV doc pm cdv ct oc : Value} {an od : Option Addr} {osl : Array (Option Value)} {Ng : List Str}
    {params : Arguments} {body : Expr} {scope : Scope} {t : XK → TE} {p lpos pos : Pos} (hg : Gl X x) (hm : X.mg x = some (.ref g)) (hk : PySem.W.keepIn X.K (.ref g) = true)
    (lk : X.K.lookup g = some ⟨oc, od, .func (PySem.W.fnOf x x pg bg sg dV kV doc pm an cdv ct), osl⟩) (hcg : PySem.W.codeIn X.K cdv x = true) (hb : L2.Binds X.K (PySem.W.fnOf x x pg bg sg dV kV doc pm an cdv ct) [a] []) (Sg : FnScope Ng [a] sg) (hNg : Ng[0]? = some a) (hva : Vis sg a)
    (hG : Asks X Ng x sg g cdv bg a (X.env.qual ++ "<lambda>") TT)
    (TB : TabB X.base X.mg c P) (hcode : X.env.code = .ref c) (hmT : (P, X.env.qual ++ "<lambda>") ∈ T) (hu : ∀ p ∈ T, p.1 = P → p.2 = X.env.qual ++ "<lambda>") (hr : Room (k + 2) X.A) (L : LamS X.env.scope scope) (hdef : defaultsOf params X.env = ([], []))
    (hbind : ∀ (q : Str) (cl : List (Str × Addr)) (pm cv ctv : Value), bindArgs (PySem.W.kla_fn "<lambda>" q params body scope cl pm cv ctv) ⟨[], []⟩ = pure [])
    (hbody : ∀ (E : XK) (A : Around) (outer : List Env) (s : Shared) (H : Hp) (f c' : Addr), Room k (A.deeper (lamEnv X scope s.heap.objs.size f c')) → PE (lamCx X A outer s H E scope f c') body (t E))
    (hdb : (x == ("__debug__" : Str)) = false := by decide) (hd : (a == ("__debug__" : Str)) = false := by decide) (hcd : (a == ("__classdict__" : Str)) = false := by decide) :
    PE X (.Call (.Name x p) [.Lambda params body scope lpos] [] pos) (tLam T TT t) := by
  refine ⟨fun pins s σ H Q I ⟨hT, h⟩ => ?_⟩
  refine wpAny_Call_Name_kw (ld_glob I hg hm ?_ hdb)
  refine PySem.W.callWith_K (h₀ := X.base) I.ok.mod.kin hk ?_ (by rfl) (by rfl)
  show wpAny _ _ (spliced ((false, eval (.Lambda params body scope lpos) X.env) :: backTo pos (starEach [] X.env))) _ _ s
  have made := fun (Q : Value → Shared → Prop) (E : Value → Shared → Prop) => lam_make2 (Q := Q) (E := E) (params := params) (body := body) (pos := lpos) I TB hcode hmT hu hT hdef (L.has I.ok)
  refine Calls.spliced_cons (made _ _ ?_)
  intro f c' pm' ctv H1 s' I1 eN T1 hf hfn hfr hco
  refine Calls.spliced_nil ⟨I1.kIn, ?_⟩
  have rc : codeAny (model X.prog X.w) X.A (.call (.ref g) ⟨[.ref f], []⟩) (CR C8.CX0 X.stack X.prog X.w H1 s' Q C8.E0) s' := by
    refine run_ofS (N := Ng) (ps := [a]) (us := [.ref f]) (vs := [.ref f]) lk hcg Sg hr I1.env0 (hb s' [.ref f] I1.kIn rfl) (.cons rfl .nil) rfl fun hr' => ?_
    have act := fun (W : WX) (pn : List (Addr × Obj)) (xe : Value → Shared → Prop) (p1 p2 : Pos) (tk : Takes ((cxOf C8.CX0 X.prog X.w X.K X.mg X.base Ng x sg g cdv X.A X.stack s' H1 C8.E0).tr pn xe) W) =>
      pe_ask (i := 0) (p1 := p1) (p2 := p2) (tb := t) I1 L hf hfn hfr (hbind _ _ _ _ _) tk hr' (fun E A outer s H hr2 => hbody E A outer s H f c' hr2) hNg hva hd hcd
    obtain ⟨t', ht', hq'⟩ := hG f c' s' H1 Q (fun E H' Q' => t E σ H' Q') act hco (h H1 eN T1)
    exact ⟨t', ht'.nox, hq'⟩
  refine wpAny_call (codeAny_mono rc fun r s2 hq => ?_)
  cases r with
  | error e => exact False.elim (show False from hq)
  | ok fl =>
    cases fl with
    | ret u => exact I1.after hq
    | next => exact False.elim hq
    | brk => exact False.elim hq
    | cont => exact False.elim hq
end
/-- e.f of the error that a suite holds, whatever its class -/
theorem pe_xfA {X : Cx} {a : Addr} {oe : Obj} {cls : Value} {d : Option Addr} {pn : List (Addr × Obj)} {e : Expr} {te : TE} {pos : Pos} {n : Str} (hz : Zc cls d oe) (hf : ∃ vs, oe.data = .fields vs) (he : PE (X.suite a ((a, oe) :: pn)) e te)
    (hb : attributeBase e n X.env (eval e X.env) = eval e X.env := by rfl) :
    PE (X.suite a ((a, oe) :: pn)) (.Attribute e n pos) (fun σ H Q => ∃ C, XfC X.K C ∧ PySem.W.findIn X.K (.ref C) n = some none ∧ tXf a cls d C n te σ H Q) :=
  ⟨fun pins s σ H Q I ⟨C, T, hno, h⟩ => (pe_xf T hno hz hf he hb).run pins s σ H Q I h⟩
end Rt

namespace Rt
open PySem PySem.Spec PyProof.Rows L2 LamX
/-- a def of the text that may let an error out -/
structure DefX (P : Program) (w : World) (K : PySem.W.Frag) (mg : Str → Option Value) (base : Heap) (x : Str) (k : Nat) (sp : Sp) : Prop where
  ex : ∃ (f : Addr) (fd : FuncData) (ps : List Str), mg x = some (.ref f) ∧ FnOk P w K mg base (L2.CX P w) k f fd ps sp ∧ PySem.W.keepIn K (.ref f) = true ∧ Binds K fd ps []
section
variable {X : Cx} {x : Str} {p pos : Pos} {e : Expr} {es : List Expr} {t : TA} {k : Nat} {sp : Sp} {W : WX}
theorem pe_dx (D : DefX X.prog X.w X.K X.mg X.base x k sp) (hr : Room k X.A) (hg : Gl X x) (tk : Takes X W) (ha : PA X (e :: es) t) (hdb : (x == ("__debug__" : Str)) = false := by decide)
    (he : starEach (e :: es) X.env = (false, eval e X.env) :: starEach es X.env := by rfl) (hpl : (backTo pos (starEach es X.env)).any (·.1) = false := by rfl) :
    PE X (.Call (.Name x p) (e :: es) [] pos) (tCallS sp (WE W) t) := by
  obtain ⟨f, fd, ps, h1, h2, h3, h4⟩ := D.ex
  exact pe_callS h2 hr hg h1 h3 h4 (fun σ => passAt tk σ) ha hdb he hpl
end
section
variable {P : Program} {w : World} {K : PySem.W.Frag} {mg : Str → Option Value} {base : Heap}
/-- a def whose code object is known -/
theorem okC {x qual : Str} {st : Stmt} {f c : Addr} {fd : FuncData} {N ps : List Str} {k : Nat} {sp : Sp} (F : Fun K x qual st f fd) (hcode : fd.code = .ref c) (S : FnScope N ps (defScope st)) (len : ∀ vs H Q E, sp vs H Q E → vs.length = ps.length)
    (hbody : ∀ (A : Around) (outer : List Env) (s : Shared) (H : Hp) (vs : List V) (Q : VK) (E : XK), Room k (A.deeper (envOfC qual (defScope st) s.heap.objs.size f (.ref c))) → sp vs H Q E →
      ∃ t, PSs (cxOf CX0 P w K mg base N qual (defScope st) f (.ref c) A outer s H E).nox (defBody st) t ∧ t { nx := fun _ H' => Q .non H', rt := Q } (L2.start N vs) H) : FnOk P w K mg base CX0 (k + 1) f fd ps sp := by
  obtain ⟨oc, od, kV, doc, pm, an, cdv, ct, osl, rfl, lk, hcd⟩ := F.ex
  have e : cdv = .ref c := hcode
  subst e
  refine fn_of lk hcd S len fun A outer s H vs Q E hr hsp => ?_
  obtain ⟨t, h, q⟩ := hbody A outer s H vs Q E hr hsp
  exact ⟨t, h.nox, q⟩
end
/-! ### tables of code objects -/
theorem tabs_but {T : List (Addr × Str)} {H H' : Hp} {d : Addr} {xs : List V} (t : Tabs T H) (hd : H d = some (.lst xs)) (k : ∀ b o, H b = some o → b ≠ d → H' b = some o) : Tabs T H' := by
  intro p hp
  obtain ⟨ps, h1, h2, h3⟩ := t p hp
  refine ⟨ps, k _ _ h1 (fun z => ?_), h2, fun pos cv hc => ?_⟩
  · rw [z, hd] at h1
    cases h1
  · obtain ⟨c, e1, e2⟩ := h3 pos cv hc
    refine ⟨c, e1, k _ _ e2 fun z => ?_⟩
    rw [z, hd] at e2
    unfold CodeO at e2
    cases e2
/-- nothing settled is a table -/
def NoTab (H0 : Hp) : Prop := ∀ b ps, H0 b ≠ some (.tbl ps)
theorem NoTab.upd {H0 : Hp} {p : Addr} {o : HO} (h : NoTab H0) (n : ∀ ps, o ≠ .tbl ps) : NoTab (upd H0 p o) := fun b ps z => by
  by_cases e : b = p
  · rw [e, upd_same] at z
    exact n ps (Option.some.inj z)
  · rw [upd_ne e] at z
    exact h b ps z
theorem Ex.extN {H0 H H' : Hp} (e : Ex H0 H) (n : NoTab H0) (x : ExtN H H') : Ex H0 H' := fun b o h => x b o (e b o h) fun ps z => n b ps (z ▸ h)
theorem Dr.extN {H0 H H' : Hp} {d : Addr} (x : Dr H0 H d) (e : ExtN H H') : Dr H0 H' d := by
  obtain ⟨⟨a, ns, i, j, k, l, h1, h2⟩, n⟩ := x
  exact ⟨⟨a, ns, i, j, k, l, e _ _ h1 (fun ps z => nomatch z), h2⟩, n⟩
/-- the least that a drawing needs -/
theorem Dr.least {H0 H : Hp} {d : Addr} (x : Dr H0 H d) (e : Ex H0 H) : ∃ A0 : Hp, Ex A0 H ∧ Dr A0 H d ∧ NoTab A0 := by
  obtain ⟨⟨a, ns, i, j, k, l, h1, h2, h3⟩, n⟩ := x
  refine ⟨upd (fun _ => none) a (.lst (ns.map V.int)), fun b o h => ?_, ⟨⟨a, ns, i, j, k, l, h1, upd_same, h3⟩, ?_⟩, NoTab.upd (fun b ps z => nomatch z) (fun ps z => nomatch z)⟩
  · by_cases z : b = a
    · rw [z, upd_same] at h
      cases h
      rw [z]
      exact e _ _ h2
    · rw [upd_ne z] at h
      cases h
  · have nda : d ≠ a := fun z => by
      rw [z, h2] at n
      cases n
    rw [upd_ne nda]
theorem Dr.lst {H0 H : Hp} {d : Addr} (x : Dr H0 H d) : ∃ xs, H d = some (.lst xs) := by
  obtain ⟨⟨a, ns, i, j, k, l, h1, _⟩, _⟩ := x
  exact ⟨_, h1⟩
/-- across a drawing step -/
theorem tabs_go {T : List (Addr × Str)} {H0 H H0' H' : Hp} {d : Addr} (t : Tabs T H) (x : Dr H0 H d) (g : Go (· = d) H0 H H0' H') : Tabs T H' := by
  obtain ⟨xs, hd⟩ := x.lst
  exact tabs_but t hd fun b o h n => g.keep b o h n
theorem tabs_new {T : List (Addr × Str)} {H : Hp} {p : Addr} {o : HO} (t : Tabs T H) (h : H p = none) : Tabs T (upd H p o) := t.ext fun b u e => by
  rw [upd_ne (ne_of_none e h)]
  exact e
end Rt

namespace Rt
open PySem PySem.Spec PyProof.Rows L2 LamX
/-- all that is read off the written part of an error's class -/
structure ErrF (K : PySem.W.Frag) (x z word : Str) (C CT CM fI : Addr) (tape : Bool) : Prop where
  g : PySem.W.nsIn K mainGlobals x = some (some (.ref C))
  gT : PySem.W.nsIn K mainGlobals "TapeError" = some (some (.ref CT))
  gM : PySem.W.nsIn K mainGlobals "MissingError" = some (some (.ref CM))
  cls : ∃ nm q N bs bm sn sub ab col dd k0 k1 k2 k3 k5, K.lookup C = some (excClassObj nm q C N bs bm true sn sub ab col dd k0 k1 k2 k3 k5 "ValueError.__new__") ∧ PySem.HandSPX.refsVE bm = true
  nm : ∃ o tk, K.lookup C = some o ∧ (o.slots[2]?).join = some (.str z tk)
  sa : PySem.W.findIn K (.ref C) "__setattr__" = some (some (.builtin "object.__setattr__"))
  exC : PySem.W.subIn K (.ref C) (.type "BaseException") = some true
  tyC : PySem.W.typeIn K (.ref C) = some (.type "type")
  kC : PySem.W.keepIn K (.ref C) = true
  ga : PySem.W.findIn K (.ref C) "__getattribute__" = some (some (.builtin "BaseException.__getattribute__"))
  gg : PySem.W.findIn K (.ref C) "__getattr__" = some none
  hd : PySem.W.hasDictIn K C = true
  ca : PySem.W.findIn K (.ref C) "__class__" = some (some (.builtin "object.__class__"))
  cg : PySem.W.specialIn K (.builtin "object.__class__") "__get__" = some (some (.builtin "getset_descriptor.__get__"))
  ct : PySem.W.takesIn K (.builtin "object.__class__") = some true
  mo : PySem.W.mroIn K C (.type "object") = some true
  rd : PySem.W.readsIn K C (.type "type") = true
  fc : PySem.W.findCls K (.ref C) (.type "type") "__name__" = some (.get (.builtin "getset_descriptor.__get__") (.builtin "type.__name__") (.ref C) (.type "type"))
  nc : PySem.W.findIn K (.ref C) "called" = some none
  iC : PySem.W.findIn K (.ref C) "__init__" = some (some (.ref fI))
  tI : PySem.W.typeIn K (.ref fI) = some (.type "function")
  t1 : PySem.W.subIn K (.ref CT) (.type "BaseException") = some true
  t2 : PySem.W.hasDictIn K CT = true
  t3 : PySem.W.typeIn K (.ref CT) = some (.type "type")
  t4 : PySem.W.subIn K (.ref C) (.ref CT) = some tape
  u1 : PySem.W.subIn K (.ref CM) (.type "BaseException") = some true
  u2 : PySem.W.hasDictIn K CM = true
  u3 : PySem.W.typeIn K (.ref CM) = some (.type "type")
  u4 : PySem.W.subIn K (.ref C) (.ref CM) = some (!tape)
  low : Txt.lower z = word
  sz : z.length ≤ 1000
theorem errF_of {K : PySem.W.Frag} {x z word : Str} {C CT CM fI : Addr} {tape : Bool} {nm q : Str} {N : Addr} {bs bm : List Value} {sn : List Str} {sub : List Value} {ab : Bool} {col : Option Bool} {dd : Option Addr} {k0 k1 k2 k3 k5 : Option Value} {o : Obj} {tk : Tok}
    (g : PySem.W.nsIn K mainGlobals x = some (some (.ref C)))
    (gT : PySem.W.nsIn K mainGlobals "TapeError" = some (some (.ref CT)))
    (gM : PySem.W.nsIn K mainGlobals "MissingError" = some (some (.ref CM)))
    (cls1 : K.lookup C = some (excClassObj nm q C N bs bm true sn sub ab col dd k0 k1 k2 k3 k5 "ValueError.__new__")) (cls2 : PySem.HandSPX.refsVE bm = true)
    (nm1 : K.lookup C = some o) (nm2 : (o.slots[2]?).join = some (.str z tk))
    (sa : PySem.W.findIn K (.ref C) "__setattr__" = some (some (.builtin "object.__setattr__")))
    (exC : PySem.W.subIn K (.ref C) (.type "BaseException") = some true)
    (tyC : PySem.W.typeIn K (.ref C) = some (.type "type"))
    (kC : PySem.W.keepIn K (.ref C) = true)
    (ga : PySem.W.findIn K (.ref C) "__getattribute__" = some (some (.builtin "BaseException.__getattribute__")))
    (gg : PySem.W.findIn K (.ref C) "__getattr__" = some none)
    (hd : PySem.W.hasDictIn K C = true)
    (ca : PySem.W.findIn K (.ref C) "__class__" = some (some (.builtin "object.__class__")))
    (cg : PySem.W.specialIn K (.builtin "object.__class__") "__get__" = some (some (.builtin "getset_descriptor.__get__")))
    (ct : PySem.W.takesIn K (.builtin "object.__class__") = some true)
    (mo : PySem.W.mroIn K C (.type "object") = some true)
    (rd : PySem.W.readsIn K C (.type "type") = true)
    (fc : PySem.W.findCls K (.ref C) (.type "type") "__name__" = some (.get (.builtin "getset_descriptor.__get__") (.builtin "type.__name__") (.ref C) (.type "type")))
    (nc : PySem.W.findIn K (.ref C) "called" = some none)
    (iC : PySem.W.findIn K (.ref C) "__init__" = some (some (.ref fI)))
    (tI : PySem.W.typeIn K (.ref fI) = some (.type "function"))
    (t1 : PySem.W.subIn K (.ref CT) (.type "BaseException") = some true)
    (t2 : PySem.W.hasDictIn K CT = true)
    (t3 : PySem.W.typeIn K (.ref CT) = some (.type "type"))
    (t4 : PySem.W.subIn K (.ref C) (.ref CT) = some tape)
    (u1 : PySem.W.subIn K (.ref CM) (.type "BaseException") = some true)
    (u2 : PySem.W.hasDictIn K CM = true)
    (u3 : PySem.W.typeIn K (.ref CM) = some (.type "type"))
    (u4 : PySem.W.subIn K (.ref C) (.ref CM) = some (!tape))
    (low : Txt.lower z = word)
    (sz : z.length ≤ 1000) : ErrF K x z word C CT CM fI tape := ⟨g, gT, gM, ⟨nm, q, N, bs, bm, sn, sub, ab, col, dd, k0, k1, k2, k3, k5, cls1, cls2⟩, ⟨o, tk, nm1, nm2⟩, sa, exC, tyC, kC, ga, gg, hd, ca, cg, ct, mo, rd, fc, nc, iC, tI, t1, t2, t3, t4, u1, u2, u3, u4, low, sz⟩
section
variable {P : Program} {w : World} {K : PySem.W.Frag} {mg : Str → Option Value} {base h : Heap} {x z word : Str} {C CT CM fI : Addr} {tape : Bool} {k : Nat} {fd : FuncData}
theorem ErrF.xf (F : ErrF K x z word C CT CM fI tape) : XfC K C := ⟨F.ga, F.gg, F.exC, F.hd⟩
theorem ErrF.err (F : ErrF K x z word C CT CM fI tape) (X : K.In h) (G : h.Ns mainGlobals mg) : Err K mg x C z word where
  g := PySem.W.mg_of X G F.g
  oex := ⟨F.cls, F.sa, F.exC, F.tyC, F.kC⟩
  cls := ⟨F.ga, F.gg, F.exC, F.hd, F.ca, F.cg, F.ct, F.mo⟩
  nmd := ⟨F.rd, F.fc, F.tyC, F.nm⟩
  nc := F.nc
  low := F.low
  sz := F.sz
theorem err_mk (F : ErrF K x z word C CT CM fI tape) (X : K.In h) (G : h.Ns mainGlobals mg) (ok : FnOk P w K mg base CX0 k fI fd ["self", "why"] (spInit K)) (b : Binds K fd ["self", "why"] []) : ErrK P w K mg base k x word tape :=
  ⟨C, CT, CM, fI, z, fd, F.err X G, F.iC, F.tI, ok, b, F.xf, PySem.W.mg_of X G F.gT, PySem.W.mg_of X G F.gM, PySem.W.exm_ref F.t1 F.t2 F.t3 F.t4, fun e => PySem.W.exm_ref F.u1 F.u2 F.u3 (by rw [F.u4, e]; rfl)⟩
end
/-- the end of a law whose def (and whose defs named in xs) hold lambdas -/
theorem walkT {l : PySem.W.OpenLaw} {n k : Nat} {q : Program} {loose : List Str} {XP : (Str → Option Value) → Heap → Prop} {YP : World → Heap → Prop} {d : DefRec} {K : Params → PySem.W.Frag} {CX : World → CXT} {x : Str}
    (hn : l.most = some n) (hn2 : n ≤ sizeLine) (hdf : d.params.defaults = []) (hr : Room k callerA) (hY : ∀ (w : World) (h : Heap), YP w h → (K w.params).In h)
    (F : ∀ (w : World) (mg : Str → Option Value) (fa : Addr) (h : Heap), (K w.params).In h → h.Ns mainGlobals mg → mg d.name = some (.ref fa) →
      (∀ (y : Str) (e : DefRec) (c t : Addr), (recsOf q).find? (fun r => r.name == y) = some e → PySem.W.tabIn (K w.params) y = some (c, t) → PySem.W.CodeHd h c t ∧ h.get? t = some { cls := .none, data := .fields #[] }) → LawAtS l w (K w.params) (CX w) k n x mg fa h)
    (hCX : ∀ (w : World) (H : Hp) (s : Shared) (e : Value) (s' : Shared), CX w [] H s (fun _ _ _ => False) e s' → False) :
    PySem.W.WalkO q loose XP YP l.row.toRowW d [] (fun f vs => PySem.call f vs) := by
  refine Att.attach_callB hn hdf fun w s₀ s₁ mg mb fa o pm cd doc a vs ns G Y ho hd hcd hmg hobj hints hlen hbits hg => ?_
  have KX := hY w _ Y
  obtain ⟨fd, cs, sp, hT, nT, C, hb, hsp, hF⟩ := F w mg fa _ KX G.T.g hmg fun y e c t h1 h2 => PySem.W.tab_of G.T KX h1 h2
  exact law_callTs KX G.T.g G.T.b G.T.builtins G.T.nolimit hg hT nT C G.T.bmain hobj hints (Nat.le_trans hlen hn2) hr hF hb (fun H hH hS => hsp H a ns hlen hbits hH hS) fun H e s' => hCX w H s₁ e s'
end Rt

namespace Rt
open PySem PySem.Spec PyProof.Rows L2 LamX
/-! ### a function read off a class of the program and called: C.m(self, ..) -/
/-- m of the class that x names is the function at f -/
structure Off (K : PySem.W.Frag) (mg : Str → Option Value) (x m : Str) (f : Addr) : Prop where
  ex : ∃ C : Addr, mg x = some (.ref C) ∧ PySem.W.specialIn K (.ref C) "__getattribute__" = some (some (.builtin "type.__getattribute__")) ∧ PySem.W.readsIn K C (.type "type") = true ∧ PySem.W.findCls K (.ref C) (.type "type") m = some (.val (.ref f))
section
variable {X : Cx} {x m : Str} {f : Addr} {fd : FuncData} {ps : List Str} {p1 p2 pos : Pos} {e : Expr} {es : List Expr} {t : TA} {k : Nat} {sp : Sp} {pl : Sem Bool}
theorem pe_off (O : Off X.K X.mg x m f) (F : FnOk X.prog X.w X.K X.mg X.base CX0 k f fd ps sp) (hr : Room k X.A) (hg : Gl X x) (hk : PySem.W.keepIn X.K (.ref f) = true) (hb : Binds X.K fd ps []) (ha : PA X (e :: es) t)
    (hc : eval (.Call (.Attribute (.Name x p1) m p2) (e :: es) [] pos) X.env = (do
      let ov ← eval (.Name x p1) X.env
      standAt p2.atName
      let (f, first) ← holding [ov] (getMethod ov m pl)
      callWith pos f first (backTo pos (starEach (e :: es) X.env)) (backToKw pos (keywordEach [] X.env))) := by rfl)
    (hdb : (x == ("__debug__" : Str)) = false := by decide) (he : starEach (e :: es) X.env = (false, eval e X.env) :: starEach es X.env := by rfl) (hpl : (backTo pos (starEach es X.env)).any (·.1) = false := by rfl) :
    PE X (.Call (.Attribute (.Name x p1) m p2) (e :: es) [] pos) (tCall sp [] E0 t) := by
  obtain ⟨C, hm, sG, rd, fc⟩ := O.ex
  refine ⟨fun pins s σ H Q I h => ?_⟩
  refine PySem.W.methodCall_KW (ld_glob I hg hm ?_ hdb) hc
  refine PySem.W.method_cls I.kIn sG (PySem.W.cls_value I.kIn rd fc rfl ?_)
  refine PySem.W.callWith_K (h₀ := X.base) I.ok.mod.kin hk (thn (ha.run pos pins _ σ H _ (I.tok _) h) fun us s1 ⟨vs, H1, I1, r, q⟩ => ⟨I1.kIn, ?_⟩) he hpl
  exact run_fn F hr hb .nil pass0 I1 r q
end
/-! ### BadBytes: an error with its place -/
/-- BadBytes.__init__ -/
def spInitAt (K : PySem.W.Frag) : Sp := fun vs H Q _ => ∃ (a C : Addr) (n : Int) (z : Str), vs = [.ref a, .int n] ∧ n.natAbs < 10 ^ 20 ∧ OexC K C ∧ ClsE K C ∧ Nmd K C z ∧ PySem.W.findIn K (.ref C) "called" = some none ∧ PySem.W.findIn K (.ref C) "at" = some none ∧ z.length ≤ 1000 ∧ H a = some (exo a C none) ∧
  ∀ dx, H dx = none → dx ≠ a → Q .non (upd (upd (upd H dx (exd dx [("called", .str (Txt.lower z))])) a (exo a C (some dx))) dx (exd dx [("at", .int n), ("called", .str (Txt.lower z))]))
/-- BadBytes in flight, its place n -/
structure RaisedA (K : PySem.W.Frag) (mg : Str → Option Value) (x word : Str) (n : Int) (H : Hp) (cls : Value) (d : Option Addr) (H' : Hp) : Prop where
  ex : ∃ (C dd : Addr), mg x = some (.ref C) ∧ cls = .ref C ∧ d = some dd ∧ H dd = none ∧ H' = upd H dd (.xd [("at", .int n), ("called", .str word)]) ∧ XfC K C ∧ PySem.W.findIn K (.ref C) "called" = some none ∧ PySem.W.findIn K (.ref C) "at" = some none
structure ErrA (P : Program) (w : World) (K : PySem.W.Frag) (mg : Str → Option Value) (base : Heap) (k : Nat) (x word : Str) : Prop where
  ex : ∃ (C fI : Addr) (z : Str) (fd : FuncData), Err K mg x C z word ∧ PySem.W.findIn K (.ref C) "__init__" = some (some (.ref fI)) ∧ PySem.W.typeIn K (.ref fI) = some (.type "function") ∧
    FnOk P w K mg base CX0 k fI fd ["self", "at"] (spInitAt K) ∧ Binds K fd ["self", "at"] [] ∧ XfC K C ∧ PySem.W.findIn K (.ref C) "at" = some none
def tRaiseA (K : PySem.W.Frag) (mg : Str → Option Value) (x word : Str) (W : WX) (ta : TA) : TS := fun _ σ H => ta σ H fun vs H1 => ∃ n : Int, vs = [.int n] ∧ n.natAbs < 10 ^ 20 ∧ ∀ cls d H', RaisedA K mg x word n H1 cls d H' → W cls d σ H'
section
variable {X : Cx} {x word : Str} {k : Nat} {e : Expr} {es : List Expr} {ta : TA} {W : WX} {p pos pos2 : Pos}
theorem ps_raiseA (hc : X.calm = true) (T : ErrA X.prog X.w X.K X.mg X.base k x word) (hr : Room (k + 1) X.A) (tk : Takes X W) (hg : Gl X x) (ha : PA X (e :: es) ta) (hdb : (x == ("__debug__" : Str)) = false := by decide)
    (he : starEach (e :: es) X.env = (false, eval e X.env) :: starEach es X.env := by rfl) (hpl : (backTo pos (starEach es X.env)).any (·.1) = false := by rfl) :
    PS X (.Raise (some (.Call (.Name x p) (e :: es) [] pos)) none pos2) (tRaiseA X.K X.mg x word W ta) := by
  obtain ⟨C, fI, z, fd, R, iC, tI, F1, hb, xf, na⟩ := T.ex
  have mk := pmk_oex (X := X) (CX := CX0) (p := p) (pos := pos) R.oex iC tI F1 hr hb .nil pass0 hg R.g (pa_up ha) hdb he hpl
  have rs := ps_raise (pos := pos2) hc tk mk
  refine ⟨fun pins s σ H D I h => rs.run pins s σ H D I ?_⟩
  have imp : ∀ (vs : List V) (H1 : Hp), (∃ n : Int, vs = [.int n] ∧ n.natAbs < 10 ^ 20 ∧ ∀ cls d H', RaisedA X.K X.mg x word n H1 cls d H' → W cls d σ H') →
      vs.length ≤ 1000 ∧ ∀ a, H1 a = none → spInitAt X.K (.ref a :: (vs ++ [])) (upd H1 a (exo a C none))
        (fun v H2 => v = .non ∧ ∃ (d : Addr) (fs : List (Str × V)), H2 a = some (exo a C (some d)) ∧ H2 d = some (exd d fs) ∧ H1 d = none ∧ W (.ref C) (some d) σ (upd (del H2 a) d (.xd fs))) (fun _ _ _ => False) := by
    rintro vs H1 ⟨n, rfl, hn, q⟩
    refine ⟨(by show 1 ≤ 1000; decide), fun a ha => ⟨a, C, n, z, rfl, hn, R.oex, R.cls, R.nmd, R.nc, na, R.sz, upd_same, fun dx hdx nda => ⟨rfl, dx, [("at", .int n), ("called", .str (Txt.lower z))], ?_, upd_same, ?_, ?_⟩⟩⟩
    · rw [upd_ne nda.symm, upd_same]
    · rw [upd_ne nda] at hdx
      exact hdx
    · rw [upd_ne nda] at hdx
      refine q _ _ _ ⟨C, dx, R.g, rfl, rfl, hdx, ?_, xf, R.nc, na⟩
      funext b
      by_cases e1 : b = dx
      · rw [e1, upd_same, upd_same, R.low]
      · rw [upd_ne e1, upd_ne e1]
        by_cases e2 : b = a
        · rw [e2, del_same, ha]
        · rw [del_ne e2, upd_ne e1, upd_ne e2, upd_ne e1, upd_ne e2]
  exact ⟨_, h, imp⟩
end
/-- a def that may let an error out, called with fewer values than it has parameters -/
structure DefXd (P : Program) (w : World) (K : PySem.W.Frag) (mg : Str → Option Value) (base : Heap) (x : Str) (k : Nat) (sp : Sp) (dvs : List V) : Prop where
  ex : ∃ (f : Addr) (fd : FuncData) (ps : List Str) (ds : List Value), mg x = some (.ref f) ∧ FnOk P w K mg base (L2.CX P w) k f fd ps sp ∧ PySem.W.keepIn K (.ref f) = true ∧ Binds K fd ps ds ∧ Vals dvs ds
section
variable {X : Cx} {x : Str} {p pos : Pos} {e : Expr} {es : List Expr} {t : TA} {k : Nat} {sp : Sp} {W : WX} {dvs : List V}
theorem pe_dxd (D : DefXd X.prog X.w X.K X.mg X.base x k sp dvs) (hr : Room k X.A) (hg : Gl X x) (tk : Takes X W) (ha : PA X (e :: es) t) (hdb : (x == ("__debug__" : Str)) = false := by decide)
    (he : starEach (e :: es) X.env = (false, eval e X.env) :: starEach es X.env := by rfl) (hpl : (backTo pos (starEach es X.env)).any (·.1) = false := by rfl) :
    PE X (.Call (.Name x p) (e :: es) [] pos) (tCallSD sp dvs (WE W) t) := by
  obtain ⟨f, fd, ps, ds, h1, h2, h3, h4, h5⟩ := D.ex
  exact pe_callSD h2 hr hg h1 h3 h4 h5 (fun σ => passAt tk σ) ha hdb he hpl
end
/-- a reading with room -/
def tUpE (te : TE) : TE := fun σ H Q => ∃ R : V → Hp → Prop, te σ H R ∧ ∀ v H1, R v H1 → Q v H1
theorem pe_up {X : Cx} {e : Expr} {te : TE} (h : PE X e te) : PE X e (tUpE te) := ⟨fun pins s σ H Q I ⟨R, h', imp⟩ => thn (h.run pins s σ H R I h') fun u s1 ⟨v, H1, I1, r, q⟩ => ⟨v, H1, I1, r, imp v H1 q⟩⟩
/-! ### lists of numbers as data -/
theorem dp_nums {K : PySem.W.Frag} {H : Hp} : ∀ l : List Nat, DpAll K H (nums l) (l.map fun (n : Nat) => PyData.int (n : Int))
  | [] => .nil
  | n :: l => .cons (.int _) (dp_nums l)
theorem depth_ints : ∀ l : List Nat, PyData.depthAll (l.map fun (n : Nat) => PyData.int (n : Int)) = 0
  | [] => rfl
  | n :: l => by
    show max 0 (PyData.depthAll (l.map fun (n : Nat) => PyData.int (n : Int))) = 0
    rw [depth_ints l]
    rfl
theorem sm_ints : ∀ l : List Nat, smAll (l.map fun (n : Nat) => PyData.int (n : Int))
  | [] => True.intro
  | n :: l => ⟨True.intro, sm_ints l⟩
def numsD (l : List Nat) : PyData := .list (l.map fun (n : Nat) => PyData.int (n : Int))
theorem numsD_shaped (l : List Nat) : SeqAt.shaped (numsD l) = true := by
  have h := PySem.W.ke_shaped_ints (l.map fun (n : Nat) => (n : Int))
  rw [List.map_map] at h
  exact h
theorem numsD_eq (l : List Nat) : PyData.eqv (numsD l) (numsD l) = true := SeqAt.eqv_refl _ (SeqAt.canLay_of_shaped (numsD_shaped l))
/-- what is settled, without the tables -/
def clean (H0 : Hp) : Hp := fun b => match H0 b with
  | some (.tbl _) => none
  | o => o
theorem clean_at {H0 : Hp} {p : Addr} {o : HO} (h : H0 p = some o) (n : ∀ ps, o ≠ .tbl ps) : clean H0 p = some o := by
  unfold clean
  rw [h]
  split
  · rename_i ps e
    exact absurd (Option.some.inj e) (n ps)
  · rfl
theorem clean_le {H0 : Hp} {p : Addr} {o : HO} (h : clean H0 p = some o) : H0 p = some o := by
  unfold clean at h
  split at h
  · cases h
  · exact h
theorem clean_no (H0 : Hp) : NoTab (clean H0) := fun b ps z => by
  have h := clean_le z
  unfold clean at z
  rw [h] at z
  cases z
theorem clean_ex {H0 H : Hp} (e : Ex H0 H) : Ex (clean H0) H := fun b o h => e b o (clean_le h)
theorem clean_dr {H0 H : Hp} {d : Addr} (x : Dr H0 H d) : Dr (clean H0) H d := by
  obtain ⟨⟨a, ns, i, j, k, l, h1, h2, h3⟩, n⟩ := x
  refine ⟨⟨a, ns, i, j, k, l, h1, clean_at h2 (fun ps z => nomatch z), h3⟩, ?_⟩
  cases e : clean H0 d with
  | none => rfl
  | some o =>
    have := clean_le e
    rw [n] at this
    cases this
/-- all that is read off an error's class, whatever else it is under -/
structure ErrG (K : PySem.W.Frag) (x z word : Str) (C fI : Addr) : Prop where
  g : PySem.W.nsIn K mainGlobals x = some (some (.ref C))
  cls : ∃ nm q N bs bm sn sub ab col dd k0 k1 k2 k3 k5, K.lookup C = some (excClassObj nm q C N bs bm true sn sub ab col dd k0 k1 k2 k3 k5 "ValueError.__new__") ∧ PySem.HandSPX.refsVE bm = true
  nm : ∃ o tk, K.lookup C = some o ∧ (o.slots[2]?).join = some (.str z tk)
  sa : PySem.W.findIn K (.ref C) "__setattr__" = some (some (.builtin "object.__setattr__"))
  exC : PySem.W.subIn K (.ref C) (.type "BaseException") = some true
  tyC : PySem.W.typeIn K (.ref C) = some (.type "type")
  kC : PySem.W.keepIn K (.ref C) = true
  ga : PySem.W.findIn K (.ref C) "__getattribute__" = some (some (.builtin "BaseException.__getattribute__"))
  gg : PySem.W.findIn K (.ref C) "__getattr__" = some none
  hd : PySem.W.hasDictIn K C = true
  ca : PySem.W.findIn K (.ref C) "__class__" = some (some (.builtin "object.__class__"))
  cg : PySem.W.specialIn K (.builtin "object.__class__") "__get__" = some (some (.builtin "getset_descriptor.__get__"))
  ct : PySem.W.takesIn K (.builtin "object.__class__") = some true
  mo : PySem.W.mroIn K C (.type "object") = some true
  rd : PySem.W.readsIn K C (.type "type") = true
  fc : PySem.W.findCls K (.ref C) (.type "type") "__name__" = some (.get (.builtin "getset_descriptor.__get__") (.builtin "type.__name__") (.ref C) (.type "type"))
  nc : PySem.W.findIn K (.ref C) "called" = some none
  iC : PySem.W.findIn K (.ref C) "__init__" = some (some (.ref fI))
  tI : PySem.W.typeIn K (.ref fI) = some (.type "function")
  se : PySem.W.subIn K (.ref C) (.ref C) = some true
  low : Txt.lower z = word
  sz : z.length ≤ 1000
theorem errG_of {K : PySem.W.Frag} {x z word : Str} {C fI : Addr} {nm q : Str} {N : Addr} {bs bm : List Value} {sn : List Str} {sub : List Value} {ab : Bool} {col : Option Bool} {dd : Option Addr} {k0 k1 k2 k3 k5 : Option Value} {o : Obj} {tk : Tok}
    (g : PySem.W.nsIn K mainGlobals x = some (some (.ref C)))
    (cls1 : K.lookup C = some (excClassObj nm q C N bs bm true sn sub ab col dd k0 k1 k2 k3 k5 "ValueError.__new__")) (cls2 : PySem.HandSPX.refsVE bm = true)
    (nm1 : K.lookup C = some o) (nm2 : (o.slots[2]?).join = some (.str z tk))
    (sa : PySem.W.findIn K (.ref C) "__setattr__" = some (some (.builtin "object.__setattr__")))
    (exC : PySem.W.subIn K (.ref C) (.type "BaseException") = some true)
    (tyC : PySem.W.typeIn K (.ref C) = some (.type "type"))
    (kC : PySem.W.keepIn K (.ref C) = true)
    (ga : PySem.W.findIn K (.ref C) "__getattribute__" = some (some (.builtin "BaseException.__getattribute__")))
    (gg : PySem.W.findIn K (.ref C) "__getattr__" = some none)
    (hd : PySem.W.hasDictIn K C = true)
    (ca : PySem.W.findIn K (.ref C) "__class__" = some (some (.builtin "object.__class__")))
    (cg : PySem.W.specialIn K (.builtin "object.__class__") "__get__" = some (some (.builtin "getset_descriptor.__get__")))
    (ct : PySem.W.takesIn K (.builtin "object.__class__") = some true)
    (mo : PySem.W.mroIn K C (.type "object") = some true)
    (rd : PySem.W.readsIn K C (.type "type") = true)
    (fc : PySem.W.findCls K (.ref C) (.type "type") "__name__" = some (.get (.builtin "getset_descriptor.__get__") (.builtin "type.__name__") (.ref C) (.type "type")))
    (nc : PySem.W.findIn K (.ref C) "called" = some none)
    (iC : PySem.W.findIn K (.ref C) "__init__" = some (some (.ref fI)))
    (tI : PySem.W.typeIn K (.ref fI) = some (.type "function"))
    (se : PySem.W.subIn K (.ref C) (.ref C) = some true)
    (low : Txt.lower z = word)
    (sz : z.length ≤ 1000) : ErrG K x z word C fI := ⟨g, ⟨nm, q, N, bs, bm, sn, sub, ab, col, dd, k0, k1, k2, k3, k5, cls1, cls2⟩, ⟨o, tk, nm1, nm2⟩, sa, exC, tyC, kC, ga, gg, hd, ca, cg, ct, mo, rd, fc, nc, iC, tI, se, low, sz⟩
section
variable {P : Program} {w : World} {K : PySem.W.Frag} {mg : Str → Option Value} {base h : Heap} {x z word : Str} {C fI CT : Addr} {k : Nat} {fd : FuncData}
theorem ErrG.xf (F : ErrG K x z word C fI) : XfC K C := ⟨F.ga, F.gg, F.exC, F.hd⟩
theorem ErrG.err (F : ErrG K x z word C fI) (X : K.In h) (G : h.Ns mainGlobals mg) : Err K mg x C z word where
  g := PySem.W.mg_of X G F.g
  oex := ⟨F.cls, F.sa, F.exC, F.tyC, F.kC⟩
  cls := ⟨F.ga, F.gg, F.exC, F.hd, F.ca, F.cg, F.ct, F.mo⟩
  nmd := ⟨F.rd, F.fc, F.tyC, F.nm⟩
  nc := F.nc
  low := F.low
  sz := F.sz
theorem ErrG.self (F : ErrG K x z word C fI) : PySem.W.exmOne K (.ref C) (.ref C) = some true := PySem.W.exm_ref F.exC F.hd F.tyC F.se
theorem errA_mk (F : ErrG K x z word C fI) (na : PySem.W.findIn K (.ref C) "at" = some none) (X : K.In h) (G : h.Ns mainGlobals mg) (ok : FnOk P w K mg base CX0 k fI fd ["self", "at"] (spInitAt K)) (b : Binds K fd ["self", "at"] []) : ErrA P w K mg base k x word :=
  ⟨C, fI, z, fd, F.err X G, F.iC, F.tI, ok, b, F.xf, na⟩
end
end Rt

namespace Rt
open PySem PySem.Spec PyProof.Rows L2 RZ
/-! ### events: what is good -/
def withinV (v : V) (lo hi : Int) : Bool := match v with
  | .int z => decide (lo ≤ z) && decide (z ≤ hi)
  | _ => false
def signsS : Str := "abcdefghijklmnopqrstuvwxyz0123456789 "
def textOk (v : V) : Bool := match v with
  | .str s => decide (s.length ≤ 12) && s.cps.toList.all (fun c => decide (c ∈ signsS.cps.toList))
  | _ => false
def wordB (w : Str) : Option (List (Int × Int)) :=
  if w = "on" then some [(0, 15), (0, 127), (1, 127)] else if w = "off" then some [(0, 15), (0, 127), (0, 127)] else if w = "knob" then some [(0, 15), (0, 127), (0, 127)] else if w = "voice" then some [(0, 15), (0, 127)] else none
def withinAll : List V → List (Int × Int) → Bool
  | [], [] => true
  | v :: vs, b :: bs => withinV v b.1 b.2 && withinAll vs bs
  | _, _ => false
def markOk : List V → Bool
  | [x] => textOk x
  | _ => false
def wordOk (o : Option (List (Int × Int))) (r : List V) : Bool := match o with
  | some bs => withinAll r bs
  | none => false
def thingOk : List V → Bool
  | .str w :: r => if w = "mark" then markOk r else wordOk (wordB w) r
  | _ => false
theorem thing_mark (r : List V) : thingOk (.str "mark" :: r) = markOk r := by
  show (if ("mark" : Str) = "mark" then markOk r else wordOk (wordB "mark") r) = _
  rw [if_pos rfl]
theorem thing_word {z : Str} (h : ¬ z = "mark") (r : List V) : thingOk (.str z :: r) = wordOk (wordB z) r := by
  show (if z = "mark" then markOk r else wordOk (wordB z) r) = _
  rw [if_neg h]
theorem wordB_len {z : Str} {bs : List (Int × Int)} (hb : wordB z = some bs) : bs.length ≤ 10 := by
  unfold wordB at hb
  split at hb
  · cases hb; decide
  split at hb
  · cases hb; decide
  split at hb
  · cases hb; decide
  split at hb
  · cases hb; decide
  · cases hb
def isEv : List V → Bool
  | t :: r => withinV t 0 999999 && thingOk r
  | [] => false
/-- a number or a text of moderate size -/
def Scal (v : V) : Prop := (∃ z, v = .int z) ∨ ∃ s : Str, v = .str s ∧ s.length ≤ 1000
theorem withinAll_len : ∀ (vs : List V) (bs : List (Int × Int)), withinAll vs bs = true → vs.length = bs.length
  | [], [], _ => rfl
  | v :: vs, b :: bs, h => by
    have h' : (withinV v b.1 b.2 && withinAll vs bs) = true := h
    rw [Bool.and_eq_true] at h'
    rw [List.length_cons, List.length_cons, withinAll_len vs bs h'.2]
  | [], b :: bs, h => nomatch h
  | v :: vs, [], h => nomatch h
theorem withinAll_zip : ∀ (vs : List V) (bs : List (Int × Int)), vs.length = bs.length → withinAll vs bs = (vs.zip bs).all fun p => withinV p.1 p.2.1 p.2.2
  | [], [], _ => rfl
  | v :: vs, b :: bs, h => by
    show (withinV v b.1 b.2 && withinAll vs bs) = (withinV v b.1 b.2 && (vs.zip bs).all _)
    rw [withinAll_zip vs bs (by simpa using h)]
  | [], b :: bs, h => by simp at h
  | v :: vs, [], h => by simp at h
/-! ### `in` of a written dict with text keys, for numbers too -/
theorem mapOfM_K {prog : Program} {w : World} {K : PySem.W.Frag} {h : Heap} {a : Addr} {es : Array DictEntry} {n : Nat} (X : K.In h) (hl : K.lookup a = some ⟨.type "dict", none, .dict es n, #[]⟩) (hk : PySem.W.KeysLit w.params es.toList) :
    h.MapOf (mixKind prog w) a (fun k => findBy keyIs es k) :=
  ⟨_, es, n, X _ _ hl, ⟨rfl, rfl, rfl⟩, rfl, fun e he => by
    obtain ⟨x, t, e1, e2⟩ := hk.all e (Array.mem_toList_iff.mpr he)
    exact ⟨.inr x, by rw [e1]; exact keyIs_str x t, e2⟩, fun _ => rfl⟩
theorem findM_int {P : Params} {es : Array DictEntry} (hk : PySem.W.KeysLit P es.toList) (i : Int) : findBy keyIs es (.inl i) = none := by
  obtain ⟨l⟩ := es
  unfold findBy
  rw [List.find?_toArray]
  have : l.find? (fun d => keyIs (.inl i) d.key) = none := List.find?_eq_none.mpr fun e he => by
    obtain ⟨x, t, e1, _⟩ := hk.all e he
    rw [e1]
    simp [keyIs, Value.isInt]
  rw [this]
  rfl
theorem findM_str {es : Array DictEntry} (x : Str) : findBy keyIs es (.inr x) = findBy Value.isStrOf es x := rfl
def rInM (K : PySem.W.Frag) (w : World) : R2 := fun x y H Q => ∃ d es n, y = .ref d ∧ K.lookup d = some ⟨.type "dict", none, .dict es n, #[]⟩ ∧ PySem.W.KeysLit w.params es.toList ∧ (d == sysModules) = false ∧
  ((∃ i, x = .int i ∧ Q (.bl false) H) ∨ ∃ z r, x = .str z ∧ PySem.W.nsIn K d z = some r ∧ Q (.bl r.isSome) H)
theorem op_inM {X : Cx} : OpR X (compareOp .In) (rInM X.K X.w) := by
  intro pins s σ H x y v u Q I rx ry h
  obtain ⟨d, es, n, rfl, hl, hk, low, h⟩ := h
  cases ry
  have hm := mapOfM_K (prog := X.prog) (w := X.w) I.kIn hl hk
  rcases h with ⟨i, rfl, q⟩ | ⟨z, r, rfl, e, q⟩
  · obtain ⟨t, rfl⟩ := rx
    refine wpAny_in_of (knd := mixKind X.prog X.w) (k := .inl i) (keyIs_int i t) low hm ?_
    rw [findM_int hk]
    exact ⟨.bl false, H, I.tok _, rfl, q⟩
  · obtain ⟨t, rfl⟩ := rx
    refine wpAny_in_of (knd := mixKind X.prog X.w) (k := .inr z) (keyIs_str z t) low hm ?_
    rw [findM_str, PySem.W.find_K hl e]
    exact ⟨.bl r.isSome, H, I.tok _, rfl, q⟩
/-! ### the program's table of bounds -/
/-- at v: a written tuple of pairs -/
def PrsK (K : PySem.W.Frag) (v : Addr) (bs : List (Int × Int)) : Prop := ∃ ps : List Addr, (∀ H, SqT K H v (ps.map V.ref)) ∧ ps.length = bs.length ∧ ∀ (i : Nat) (p : Addr) (b : Int × Int), ps[i]? = some p → bs[i]? = some b → ∀ H, SqT K H p [.int b.1, .int b.2]
structure BoundsK (K : PySem.W.Frag) (w : World) (d : Addr) : Prop where
  at_ : ∃ es n, K.lookup d = some ⟨.type "dict", none, .dict es n, #[]⟩ ∧ PySem.W.KeysLit w.params es.toList ∧ (d == sysModules) = false
  no : ∀ z, wordB z = none → PySem.W.nsIn K d z = some none
  yes : ∀ z bs, wordB z = some bs → ∃ v, PySem.W.nsIn K d z = some (some (.ref v)) ∧ PrsK K v bs
theorem sqt_K {K : PySem.W.Frag} {v : Addr} {od : Option Addr} {xs : List V} {its : Array Value} {n : Nat} {sl : Array (Option Value)} (l : K.lookup v = some ⟨.type "tuple", od, .seq its n, sl⟩) (hz : its.size ≤ 1000) (r : Vals xs its.toList) (H : Hp) : SqT K H v xs :=
  .inr ⟨_, its, n, l, rfl, rfl, mem_sz (Nat.le_trans hz (by decide)), r⟩
theorem pr_K {K : PySem.W.Frag} {v : Addr} {od : Option Addr} {a b : Int} {t u : Tok} {n : Nat} {sl : Array (Option Value)} (l : K.lookup v = some ⟨.type "tuple", od, .seq #[.int a t, .int b u] n, sl⟩) (H : Hp) : SqT K H v [.int a, .int b] :=
  sqt_K (xs := [.int a, .int b]) l (by show 2 ≤ 1000; decide) (.cons ⟨_, rfl⟩ (.cons ⟨_, rfl⟩ .nil)) H
theorem prs3_K {K : PySem.W.Frag} {v p1 p2 p3 : Addr} {od : Option Addr} {n : Nat} {sl : Array (Option Value)} {b1 b2 b3 : Int × Int} (l : K.lookup v = some ⟨.type "tuple", od, .seq #[.ref p1, .ref p2, .ref p3] n, sl⟩) (h1 : ∀ H, SqT K H p1 [.int b1.1, .int b1.2]) (h2 : ∀ H, SqT K H p2 [.int b2.1, .int b2.2]) (h3 : ∀ H, SqT K H p3 [.int b3.1, .int b3.2]) :
    PrsK K v [b1, b2, b3] := ⟨[p1, p2, p3], fun H => sqt_K (xs := [V.ref p1, V.ref p2, V.ref p3]) l (by show 3 ≤ 1000; decide) (.cons rfl (.cons rfl (.cons rfl .nil))) H, rfl, fun i p b hp hb => by
      match i, hp, hb with
      | 0, hp, hb => cases hp; cases hb; exact h1
      | 1, hp, hb => cases hp; cases hb; exact h2
      | 2, hp, hb => cases hp; cases hb; exact h3
      | i + 3, hp, hb => simp at hp⟩
theorem prs2_K {K : PySem.W.Frag} {v p1 p2 : Addr} {od : Option Addr} {n : Nat} {sl : Array (Option Value)} {b1 b2 : Int × Int} (l : K.lookup v = some ⟨.type "tuple", od, .seq #[.ref p1, .ref p2] n, sl⟩) (h1 : ∀ H, SqT K H p1 [.int b1.1, .int b1.2]) (h2 : ∀ H, SqT K H p2 [.int b2.1, .int b2.2]) :
    PrsK K v [b1, b2] := ⟨[p1, p2], fun H => sqt_K (xs := [V.ref p1, V.ref p2]) l (by show 2 ≤ 1000; decide) (.cons rfl (.cons rfl .nil)) H, rfl, fun i p b hp hb => by
      match i, hp, hb with
      | 0, hp, hb => cases hp; cases hb; exact h1
      | 1, hp, hb => cases hp; cases hb; exact h2
      | i + 2, hp, hb => simp at hp⟩
theorem bounds_mk {K : PySem.W.Frag} {w : World} {d : Addr} {n : Nat} {h1 h2 h3 h4 : Int} {t1 t2 t3 t4 : Tok} {v1 v2 v3 v4 : Addr}
    (l : K.lookup d = some ⟨.type "dict", none, .dict #[⟨h1, .str "on" t1, .ref v1⟩, ⟨h2, .str "off" t2, .ref v2⟩, ⟨h3, .str "knob" t3, .ref v3⟩, ⟨h4, .str "voice" t4, .ref v4⟩] n, #[]⟩)
    (k1 : h1 = PyData.keyHash w.params "on") (k2 : h2 = PyData.keyHash w.params "off") (k3 : h3 = PyData.keyHash w.params "knob") (k4 : h4 = PyData.keyHash w.params "voice") (low : (d == sysModules) = false)
    (n1 : PySem.W.nsIn K d "on" = some (some (.ref v1))) (n2 : PySem.W.nsIn K d "off" = some (some (.ref v2))) (n3 : PySem.W.nsIn K d "knob" = some (some (.ref v3))) (n4 : PySem.W.nsIn K d "voice" = some (some (.ref v4)))
    (p1 : PrsK K v1 [(0, 15), (0, 127), (1, 127)]) (p2 : PrsK K v2 [(0, 15), (0, 127), (0, 127)]) (p3 : PrsK K v3 [(0, 15), (0, 127), (0, 127)]) (p4 : PrsK K v4 [(0, 15), (0, 127)]) : BoundsK K w d where
  at_ := ⟨_, n, l, ⟨⟨_, _, rfl, k1⟩, ⟨_, _, rfl, k2⟩, ⟨_, _, rfl, k3⟩, ⟨_, _, rfl, k4⟩, True.intro⟩, low⟩
  no := fun z hz => by
    unfold wordB at hz
    by_cases e1 : z = "on"
    · rw [if_pos e1] at hz; cases hz
    rw [if_neg e1] at hz
    by_cases e2 : z = "off"
    · rw [if_pos e2] at hz; cases hz
    rw [if_neg e2] at hz
    by_cases e3 : z = "knob"
    · rw [if_pos e3] at hz; cases hz
    rw [if_neg e3] at hz
    by_cases e4 : z = "voice"
    · rw [if_pos e4] at hz; cases hz
    have ne : ∀ (x : Str) (t : Tok), z ≠ x → (Value.str x t).isStr z = false := fun x t h => by
      rw [PySem.W.isStr_of]
      cases e : Value.isStrOf z (.str x t) with
      | false => rfl
      | true =>
        obtain ⟨t', e'⟩ := Value.isStrOf_shape e
        injection e' with e1 _
        exact absurd e1.symm h
    unfold PySem.W.nsIn
    rw [l]
    simp only [List.find?_cons, ne _ _ e1, ne _ _ e2, ne _ _ e3, ne _ _ e4, List.find?_nil]
    rfl
  yes := fun z bs hz => by
    unfold wordB at hz
    by_cases e1 : z = "on"
    · rw [if_pos e1] at hz; cases hz; rw [e1]; exact ⟨v1, n1, p1⟩
    rw [if_neg e1] at hz
    by_cases e2 : z = "off"
    · rw [if_pos e2] at hz; cases hz; rw [e2]; exact ⟨v2, n2, p2⟩
    rw [if_neg e2] at hz
    by_cases e3 : z = "knob"
    · rw [if_pos e3] at hz; cases hz; rw [e3]; exact ⟨v3, n3, p3⟩
    rw [if_neg e3] at hz
    by_cases e4 : z = "voice"
    · rw [if_pos e4] at hz; cases hz; rw [e4]; exact ⟨v4, n4, p4⟩
    rw [if_neg e4] at hz
    cases hz
/-! ### comprehensions whose items are values and whose items' making changes nothing settled -/
/-- behind i items: the list at D holds f 0 .. f (i - 1) -/
def LcP (D : Addr) (H0 H : Hp) (f : Nat → V) (i : Nat) (H' : Hp) : Prop := H' D = some (.lst ((List.range i).map f)) ∧ Go (fun _ => False) H0 H H0 H'
theorem LcP.start {D : Addr} {H0 H H1 : Hp} {f : Nat → V} (g : Go (fun _ => False) H0 H H0 H1) (h : H1 D = none) : LcP D H0 H f 0 (upd H1 D (.lst [])) := ⟨upd_same, g.lay _ h⟩
theorem LcP.step {D : Addr} {H0 H H1 H' H2 : Hp} {f : Nat → V} {i : Nat} {y : V} (g1 : Go (fun _ => False) H0 H H0 H1) (hD : H1 D = none) (p : LcP D H0 H f i H') (hi : i ≤ 100000) (g : Go (fun _ => False) H0 H' H0 H2) (e : y = f i) :
    ∃ acc, H2 D = some (.lst acc) ∧ acc.length < sizeLine ∧ LcP D H0 H f (i + 1) (upd H2 D (.lst (acc ++ [y]))) := by
  refine ⟨_, g.keep _ _ p.1 (fun z => z), mem_lt (by rw [List.length_map, List.length_range]; omega), ?_, (p.2.then g).turn _ (g1.fresh hD) (g1.fresh0 hD)⟩
  rw [upd_same, List.range_succ, List.map_append, e]
  rfl
theorem map_range {α β : Type} (l : List α) (g : α → β) (f : Nat → β) (h : ∀ i a, l[i]? = some a → f i = g a) : (List.range l.length).map f = l.map g := by
  refine List.ext_getElem? fun i => ?_
  rw [List.getElem?_map, List.getElem?_map]
  by_cases hi : i < l.length
  · rw [List.getElem?_range hi, List.getElem?_eq_getElem hi]
    show some (f i) = some (g l[i])
    rw [h i _ (List.getElem?_eq_getElem hi)]
  · rw [List.getElem?_eq_none (l := l) (by omega), List.getElem?_eq_none (l := List.range l.length) (by rw [List.length_range]; omega)]
    rfl
/-- the signs of a text -/
theorem lc_str {x : Str} {g : TG} {tt : TT} {te : TE} {vs : List Nat} {σ : L2.St} {H1 : Hp} {D : Addr} {Qd : Hp → Prop} (Pv : Nat → Hp → Prop) (h0 : Pv 0 (upd H1 D (.lst [])))
    (hs : ∀ i c H, x.cps.toList[i]? = some c → Pv i H → g (.str ⟨#[c]⟩) (wipe σ vs) H fun σ2 H2 => wipe σ2 vs = wipe σ vs ∧ tt σ2 H2 fun b H3 =>
      if b = true then te σ2 H3 fun y H4 => ∃ acc, H4 D = some (.lst acc) ∧ acc.length < sizeLine ∧ Pv (i + 1) (upd H4 D (.lst (acc ++ [y]))) else Pv (i + 1) H3) (hd : ∀ H, Pv x.cps.toList.length H → Qd H) :
    ∃ W : Nat → Nat → Hp → Prop, (∃ m, W 0 m (upd H1 D (.lst []))) ∧ ∀ i m H, W i m H →
      ((Its x).stop i H ∧ Qd H) ∨ ((Its x).go i H ∧ ∃ Nx : Hp → Prop, (∀ H', Nx H' → ∃ m', m' < m ∧ W (i + 1) m' H') ∧ ∀ y H', (Its x).yld i H y H' → g y (wipe σ vs) H' fun σ2 H2 => wipe σ2 vs = wipe σ vs ∧ tt σ2 H2 fun b H3 =>
        if b = true then te σ2 H3 fun y H4 => ∃ acc, H4 D = some (.lst acc) ∧ acc.length < sizeLine ∧ Nx (upd H4 D (.lst (acc ++ [y]))) else Nx H3) := by
  refine ⟨fun i m H => m = x.cps.toList.length - i ∧ i ≤ x.cps.toList.length ∧ Pv i H, ⟨x.cps.toList.length, by simp, Nat.zero_le _, h0⟩, ?_⟩
  rintro i m H ⟨rfl, hi, p⟩
  have el : x.cps.toList.length = x.cps.size := Array.length_toList
  by_cases hlt : i < x.cps.toList.length
  · refine .inr ⟨(by show i < x.cps.size; omega), Pv (i + 1), fun H' p' => ⟨x.cps.toList.length - (i + 1), by omega, rfl, hlt, p'⟩, fun y H' hy => ?_⟩
    obtain ⟨rfl, c, hc, rfl⟩ := hy
    exact hs i c _ (by rw [Array.getElem?_toList]; exact hc) p
  · have e : i = x.cps.toList.length := by omega
    subst e
    exact .inl ⟨(by show x.cps.size ≤ _; omega), hd H p⟩
/-- zip of two tuples of like length -/
theorem lc_zipT {K : PySem.W.Frag} {a b : Addr} {xs ys : List V} {g : TG} {tt : TT} {te : TE} {vs : List Nat} {σ : L2.St} {H1 : Hp} {D : Addr} {Qd : Hp → Prop} (hl : xs.length = ys.length) (Pv : Nat → Hp → Prop) (h0 : Pv 0 (upd H1 D (.lst []))) (hq : ∀ i H, Pv i H → SqT K H a xs ∧ SqT K H b ys)
    (hs : ∀ (i : Nat) (x y : V) (T : Addr) (H : Hp), xs[i]? = some x → ys[i]? = some y → Pv i H → H T = none → g (.ref T) (wipe σ vs) (upd H T (.tup [x, y])) fun σ2 H2 => wipe σ2 vs = wipe σ vs ∧ tt σ2 H2 fun b H3 =>
      if b = true then te σ2 H3 fun y H4 => ∃ acc, H4 D = some (.lst acc) ∧ acc.length < sizeLine ∧ Pv (i + 1) (upd H4 D (.lst (acc ++ [y]))) else Pv (i + 1) H3) (hd : ∀ H, Pv xs.length H → Qd H) :
    ∃ W : Nat → Nat → Hp → Prop, (∃ m, W 0 m (upd H1 D (.lst []))) ∧ ∀ i m H, W i m H →
      ((ItzT K a b).stop i H ∧ Qd H) ∨ ((ItzT K a b).go i H ∧ ∃ Nx : Hp → Prop, (∀ H', Nx H' → ∃ m', m' < m ∧ W (i + 1) m' H') ∧ ∀ y H', (ItzT K a b).yld i H y H' → g y (wipe σ vs) H' fun σ2 H2 => wipe σ2 vs = wipe σ vs ∧ tt σ2 H2 fun b H3 =>
        if b = true then te σ2 H3 fun y H4 => ∃ acc, H4 D = some (.lst acc) ∧ acc.length < sizeLine ∧ Nx (upd H4 D (.lst (acc ++ [y]))) else Nx H3) := by
  refine ⟨fun i m H => m = xs.length - i ∧ i ≤ xs.length ∧ Pv i H, ⟨xs.length, by simp, Nat.zero_le _, h0⟩, ?_⟩
  rintro i m H ⟨rfl, hi, p⟩
  obtain ⟨qx, qy⟩ := hq i H p
  by_cases hlt : i < xs.length
  · have hx : xs[i]? = some xs[i] := List.getElem?_eq_getElem hlt
    have hlt2 : i < ys.length := by omega
    have hy : ys[i]? = some ys[i] := List.getElem?_eq_getElem hlt2
    refine .inr ⟨⟨xs, ys, _, _, qx, qy, hx, hy⟩, Pv (i + 1), fun H' p' => ⟨xs.length - (i + 1), by omega, rfl, hlt, p'⟩, fun v H' yl => ?_⟩
    obtain ⟨T, x, y, rfl, hT, rfl, fx, fy⟩ := yl
    exact hs i x y T H (fx xs qx) (fy ys qy) p hT
  · have e : i = xs.length := by omega
    subst e
    exact .inl ⟨⟨xs, ys, qx, qy, .inl (Nat.le_refl _)⟩, hd H p⟩
theorem upPut {G : Hp} {p b : Addr} {o u : HO} (n : G p = none) (h : G b = some u) : upd G p o b = some u := by
  rw [upd_ne (ne_of_none h n)]
  exact h
/-- a step from a larger settled heap is one from the smaller -/
theorem Go.down {E0 F0 E F G : Hp} (a : Go (fun _ => False) E0 E E0 F) (x : Ex E0 F0) (b : Go (fun _ => False) F0 F F0 G) : Go (fun _ => False) E0 E E0 G where
  up := Ex.refl _
  inn := x.trans b.inn
  new := fun _ _ h => h
  keep := fun c o h n => b.keep c o (a.keep c o h n) n
  there := fun c h => b.there c (a.there c h)
end Rt

namespace Rt
open PySem PySem.Spec PyProof.Rows L2 RZ TL
/-! ### a text, several times -/
theorem fold_rep (a : Array Nat) : ∀ (n : Nat) (acc : Array Nat), ((List.replicate n a).foldl (· ++ ·) acc).size = acc.size + a.size * n ∧ ∀ c ∈ ((List.replicate n a).foldl (· ++ ·) acc).toList, c ∈ acc.toList ∨ c ∈ a.toList
  | 0, acc => ⟨by simp, fun c h => .inl h⟩
  | n + 1, acc => by
    have ih := fold_rep a n (acc ++ a)
    rw [List.replicate_succ, List.foldl_cons]
    refine ⟨by rw [ih.1, Array.size_append, Nat.mul_succ]; omega, fun c h => ?_⟩
    rcases ih.2 c h with h | h
    · rw [Array.toList_append] at h
      exact List.mem_append.mp h
    · exact .inr h
def rRepS : R2 := fun x y H Q => ∃ (z : Str) (n : Nat), x = .str z ∧ y = .int (n : Int) ∧ z.length ≤ 1000 ∧ n ≤ 1000 ∧ ∀ w : Str, w.length = z.length * n → (∀ c ∈ w.cps.toList, c ∈ z.cps.toList) → Q (.str w) H
theorem op_repS {X : Cx} : OpR X (binaryOp .Mult) rRepS := by
  intro pins s σ H x y v u Q I rx ry h
  obtain ⟨z, n, rfl, rfl, hz, hn, q⟩ := h
  obtain ⟨t, rfl⟩ := rx
  obtain ⟨t2, rfl⟩ := ry
  have lim : z.length * n ≤ 1000 * 1000 := Nat.mul_le_mul hz hn
  refine PySem.P.mul_str ?_ (fun h1 _ => ?_) (fun h1 _ => ?_) ?_
  · rw [decide_eq_false (by omega), decide_eq_false (by omega)]
    rfl
  · have h2 : (1000 : Int) ≤ (2 ^ 63 - 1) / (n : Int) := by
      rw [Int.le_ediv_iff_mul_le (by omega)]
      omega
    omega
  · rw [show (n : Int).toNat = n by omega]
    exact decide_eq_false fun h => by
      have := mem_sz lim
      omega
  · by_cases h1 : (n : Int) < 1
    · rw [if_pos h1]
      have n0 : n = 0 := by omega
      exact ⟨(by decide), .str Str.empty, H, I.tok _, ⟨_, rfl⟩, q Str.empty (by rw [n0, Nat.mul_zero]; rfl) (fun c h => nomatch h)⟩
    · rw [if_neg h1]
      by_cases h2 : ((n : Int) == 1 || z.length == 0) = true
      · rw [if_pos h2]
        refine ⟨.str z, H, I, ⟨_, rfl⟩, q z ?_ fun c h => h⟩
        rcases Bool.or_eq_true_iff.mp h2 with h | h
        · have : n = 1 := by have := beq_iff_eq.mp h; omega
          rw [this, Nat.mul_one]
        · have h := beq_iff_eq.mp h
          rw [h, Nat.zero_mul]
      · rw [if_neg h2]
        have f := fold_rep z.cps n #[]
        refine ⟨?_, .str _, H, I.tok _, ⟨_, rfl⟩, q _ ?_ fun c h => ?_⟩
        · show Array.size _ ≤ sizeLine
          rw [show (n : Int).toNat = n by omega, f.1]
          refine mem_sz (Nat.le_trans ?_ lim)
          show 0 + z.cps.size * n ≤ z.cps.size * n
          omega
        · show Array.size _ = _
          rw [show (n : Int).toNat = n by omega, f.1]
          show 0 + z.cps.size * n = z.cps.size * n
          omega
        · rw [show (n : Int).toNat = n by omega] at h
          exact (f.2 c h).elim (fun h => nomatch h) fun h => h
theorem at_n {α : Type} {xs : List α} {z : Int} {j : Nat} {v : α} (e : z = (j : Int)) (h : xs[j]? = some v) : atI xs z = some v := by
  subst e
  have hl := (List.getElem?_eq_some_iff.mp h).1
  unfold atI ixN
  rw [if_pos (by omega), if_pos (by omega)]
  show xs[(j : Int).toNat]? = some v
  rw [Int.toNat_natCast, h]
theorem joinL_mem : ∀ (parts : List (List Nat)) (c : Nat), c ∈ joinL [] parts → ∃ p ∈ parts, c ∈ p
  | [], c, h => nomatch h
  | [p], c, h => ⟨p, .head _, h⟩
  | p :: q :: r, c, h => by
    have h' : c ∈ p ++ ([] ++ joinL [] (q :: r)) := h
    rcases List.mem_append.mp h' with h1 | h1
    · exact ⟨p, .head _, h1⟩
    · obtain ⟨x, hx, hc⟩ := joinL_mem (q :: r) c h1
      exact ⟨x, .tail _ hx, hc⟩
theorem joinL_len : ∀ (parts : List (List Nat)), (∀ p ∈ parts, p.length = 1) → (joinL [] parts).length = parts.length
  | [], _ => rfl
  | [p], h => h p (.head _)
  | p :: q :: r, h => by
    show (p ++ ([] ++ joinL [] (q :: r))).length = (q :: r).length + 1
    rw [List.length_append, List.nil_append, joinL_len (q :: r) fun x hx => h x (.tail _ hx), h p (.head _)]
    omega
/-- signs joined -/
theorem join_signs (ys : List Str) (cs : List Nat) (h : ∀ y ∈ ys, ∃ c ∈ cs, y = ⟨#[c]⟩) : (Txt.join "" ys).length = ys.length ∧ ∀ c ∈ (Txt.join "" ys).cps.toList, c ∈ cs := by
  have e : tl (Txt.join "" ys) = joinL [] (ys.map tl) := by
    rw [join_eq, tl_join]
    rfl
  refine ⟨?_, fun c hc => ?_⟩
  · rw [len_tl, e, joinL_len, List.length_map]
    intro p hp
    obtain ⟨y, hy, rfl⟩ := List.mem_map.mp hp
    obtain ⟨c, _, rfl⟩ := h y hy
    rfl
  · have hc' : c ∈ tl (Txt.join "" ys) := hc
    rw [e] at hc'
    obtain ⟨p, hp, hcp⟩ := joinL_mem _ c hc'
    obtain ⟨y, hy, rfl⟩ := List.mem_map.mp hp
    obtain ⟨c', hc2, rfl⟩ := h y hy
    have : c = c' := List.mem_singleton.mp hcp
    rw [this]
    exact hc2
theorem sum_signs (ys : List Str) (cs : List Nat) (h : ∀ y ∈ ys, ∃ c ∈ cs, y = ⟨#[c]⟩) : (ys.map (·.length)).sum = ys.length := by
  induction ys with
  | nil => rfl
  | cons y r ih =>
    rw [List.map_cons, List.sum_cons, ih fun z hz => h z (.tail _ hz), List.length_cons]
    obtain ⟨c, _, rfl⟩ := h y (.head _)
    show 1 + r.length = r.length + 1
    omega
/-- a number drawn between its bounds -/
def spInts (lo hi : Int) : Sp := fun vs H Q _ => ∃ (d : Addr) (H0 : Hp), vs = [.ref d] ∧ Ex H0 H ∧ Dr H0 H d ∧
  ∀ (r : Int) (G0 H' : Hp), lo ≤ r → r ≤ hi → Go (· = d) H0 H G0 H' → Dr G0 H' d → Q (.int r) H'
theorem get_int (xs : List V) (lo hi : Int) (h : ∀ v ∈ xs, ∃ z, v = V.int z ∧ lo ≤ z ∧ z ≤ hi) (r : Int) (r0 : 0 ≤ r) (r1 : r < (xs.length : Int)) : ∃ z, xs[r.toNat]? = some (V.int z) ∧ lo ≤ z ∧ z ≤ hi := by
  have hl : r.toNat < xs.length := by omega
  obtain ⟨z, e, h1⟩ := h _ (List.getElem_mem hl)
  exact ⟨z, by rw [List.getElem?_eq_getElem hl, e], h1⟩
theorem win {z lo hi : Int} (h : lo ≤ z ∧ z ≤ hi) : withinV (.int z) lo hi = true := by
  show (decide (lo ≤ z) && decide (z ≤ hi)) = true
  rw [decide_eq_true h.1, decide_eq_true h.2]
  rfl
end Rt

namespace Rt
open PySem PySem.Spec PyProof.Rows L2 RZ TL
/-! ### tracks: lists of tuples of numbers and texts -/
def tickOf (xs : List V) : Int := match xs with
  | .int t :: _ => t
  | _ => 0
def scD (v : V) : PyData := match v with
  | .int z => .int z
  | .str s => .str s
  | _ => .none
def evD (xs : List V) : PyData := .tuple (xs.map scD)
def trackD (evs : List (List V)) : PyData := .list (evs.map evD)
/-- the events stand at the addresses -/
def Evs (G : Hp) (ps : List Addr) (evs : List (List V)) : Prop := ps.length = evs.length ∧ ∀ (i : Nat) (p : Addr) (xs : List V), ps[i]? = some p → evs[i]? = some xs → G p = some (.tup xs)
/-- a number, or a text that can stand anywhere -/
def Scal2 (v : V) : Prop := (∃ z, v = .int z) ∨ ∃ s : Str, v = .str s ∧ s.length ≤ 1000 ∧ PyData.strOk s = true
theorem Scal2.s {v : V} (h : Scal2 v) : Scal v := h.elim .inl fun ⟨s, e, l, _⟩ => .inr ⟨s, e, l⟩
def Okx (xs : List V) : Prop := (∀ x ∈ xs, Scal2 x) ∧ xs.length ≤ 100
theorem Okx.s {xs : List V} (h : Okx xs) : ∀ x ∈ xs, Scal x := fun x hx => (h.1 x hx).s
theorem Evs.nil (G : Hp) : Evs G [] [] := ⟨rfl, fun i p xs h => by simp at h⟩
theorem Evs.up {G G' : Hp} {ps : List Addr} {evs : List (List V)} (h : Evs G ps evs) (x : Ex G G') : Evs G' ps evs := ⟨h.1, fun i p xs h1 h2 => x _ _ (h.2 i p xs h1 h2)⟩
theorem Evs.snoc {G : Hp} {ps : List Addr} {evs : List (List V)} {p : Addr} {xs : List V} (h : Evs G ps evs) (hp : G p = some (.tup xs)) : Evs G (ps ++ [p]) (evs ++ [xs]) := by
  refine ⟨by rw [List.length_append, List.length_append, h.1]; rfl, fun i q ys h1 h2 => ?_⟩
  by_cases hi : i < ps.length
  · rw [List.getElem?_append_left hi] at h1
    rw [List.getElem?_append_left (by rw [← h.1]; exact hi)] at h2
    exact h.2 i q ys h1 h2
  · rw [List.getElem?_append_right (by omega)] at h1
    rw [List.getElem?_append_right (by rw [← h.1]; omega), ← h.1] at h2
    generalize i - ps.length = j at h1 h2
    match j, h1, h2 with
    | 0, h1, h2 =>
      cases h1
      cases h2
      exact hp
    | k + 1, h1, h2 => simp at h1
theorem Evs.set {G : Hp} {ps : List Addr} {evs : List (List V)} {p : Addr} {xs : List V} (h : Evs G ps evs) (j : Nat) (hp : G p = some (.tup xs)) : Evs G (ps.set j p) (evs.set j xs) := by
  refine ⟨by rw [List.length_set, List.length_set, h.1], fun i q ys h1 h2 => ?_⟩
  rw [List.getElem?_set] at h1 h2
  by_cases e : j = i
  · rw [if_pos e] at h1 h2
    by_cases l : j < ps.length
    · rw [if_pos l] at h1
      rw [if_pos (by rw [← h.1]; exact l)] at h2
      cases h1
      cases h2
      exact hp
    · rw [if_neg l] at h1
      cases h1
  · rw [if_neg e] at h1 h2
    exact h.2 i q ys h1 h2
theorem Evs.at_ {G : Hp} {ps : List Addr} {evs : List (List V)} (h : Evs G ps evs) {i : Nat} (hi : i < evs.length) : ∃ p xs, ps[i]? = some p ∧ evs[i]? = some xs ∧ G p = some (.tup xs) := by
  have hl : i < ps.length := by rw [h.1]; exact hi
  exact ⟨ps[i], evs[i], List.getElem?_eq_getElem hl, List.getElem?_eq_getElem hi, h.2 i _ _ (List.getElem?_eq_getElem hl) (List.getElem?_eq_getElem hi)⟩
section
variable {K : PySem.W.Frag} {G : Hp}
theorem dp_sc {v : V} (h : Scal v) : Dp K G v (scD v) := by
  rcases h with ⟨z, rfl⟩ | ⟨s, rfl, _⟩
  · exact .int z
  · exact .str s
theorem dp_scs : ∀ xs : List V, (∀ x ∈ xs, Scal x) → DpAll K G xs (xs.map scD)
  | [], _ => .nil
  | x :: r, h => .cons (dp_sc (h x (.head _))) (dp_scs r fun y hy => h y (.tail _ hy))
theorem dp_ev {p : Addr} {xs : List V} (hp : G p = some (.tup xs)) (h : ∀ x ∈ xs, Scal x) : Dp K G (.ref p) (evD xs) := .tup (SqT.of hp) (dp_scs xs h)
theorem dp_evs : ∀ (ps : List Addr) (evs : List (List V)), Evs G ps evs → (∀ xs ∈ evs, Okx xs) → DpAll K G (ps.map V.ref) (evs.map evD)
  | [], [], _, _ => .nil
  | p :: ps, xs :: evs, h, ok => .cons (dp_ev (h.2 0 p xs rfl rfl) (ok xs (.head _)).s) (dp_evs ps evs ⟨by have := h.1; simpa using this, fun i q ys h1 h2 => h.2 (i + 1) q ys h1 h2⟩ fun ys hy => ok ys (.tail _ hy))
  | [], xs :: evs, h, _ => by have := h.1; simp at this
  | p :: ps, [], h, _ => by have := h.1; simp at this
theorem dp_track {a : Addr} {ps : List Addr} {evs : List (List V)} (ha : G a = some (.lst (ps.map V.ref))) (h : Evs G ps evs) (ok : ∀ xs ∈ evs, Okx xs) : Dp K G (.ref a) (trackD evs) := .lst (SqL.of ha) (dp_evs ps evs h ok)
end
theorem sc_depth (v : V) : (scD v).depth = 0 := by
  cases v <;> rfl
theorem scs_depth : ∀ xs : List V, PyData.depthAll (xs.map scD) = 0
  | [] => rfl
  | x :: r => by
    show max (scD x).depth (PyData.depthAll (r.map scD)) = 0
    rw [sc_depth, scs_depth r]
    rfl
theorem ev_depth (xs : List V) : (evD xs).depth = 1 := by
  show PyData.depthAll (xs.map scD) + 1 = 1
  rw [scs_depth]
theorem evs_depth : ∀ evs : List (List V), PyData.depthAll (evs.map evD) ≤ 1
  | [] => Nat.zero_le _
  | x :: r => by
    show max (evD x).depth (PyData.depthAll (r.map evD)) ≤ 1
    rw [ev_depth]
    have := evs_depth r
    omega
theorem track_depth (evs : List (List V)) : (trackD evs).depth ≤ 2 := by
  show PyData.depthAll (evs.map evD) + 1 ≤ 2
  have := evs_depth evs
  omega
theorem sc_lay {v : V} (h : Scal2 v) : (scD v).canLay0 = true := by
  rcases h with ⟨z, rfl⟩ | ⟨s, rfl, _, h⟩
  · rfl
  · exact h
theorem scs_lay : ∀ xs : List V, (∀ x ∈ xs, Scal2 x) → PyData.canLayAll0 (xs.map scD) = true
  | [], _ => rfl
  | x :: r, h => by
    show ((scD x).canLay0 && PyData.canLayAll0 (r.map scD)) = true
    rw [sc_lay (h x (.head _)), scs_lay r fun y hy => h y (.tail _ hy)]
    rfl
theorem evs_lay : ∀ evs : List (List V), (∀ xs ∈ evs, Okx xs) → PyData.canLayAll0 (evs.map evD) = true
  | [], _ => rfl
  | x :: r, h => by
    show ((evD x).canLay0 && PyData.canLayAll0 (r.map evD)) = true
    rw [evs_lay r fun y hy => h y (.tail _ hy), Bool.and_true]
    exact scs_lay x (h x (.head _)).1
theorem track_shaped {evs : List (List V)} (h : ∀ xs ∈ evs, Okx xs) : SeqAt.shaped (trackD evs) = true := by
  show ((trackD evs).canLay0 && decide ((trackD evs).depth ≤ 64)) = true
  rw [decide_eq_true (Nat.le_trans (track_depth evs) (by decide)), Bool.and_true]
  exact evs_lay evs h
theorem track_eq {evs : List (List V)} (h : ∀ xs ∈ evs, Okx xs) : PyData.eqv (trackD evs) (trackD evs) = true := SeqAt.eqv_refl _ (SeqAt.canLay_of_shaped (track_shaped h))
theorem nil_shaped : SeqAt.shaped (.list []) = true := by decide
theorem track_nil (evs : List (List V)) : PyData.eqv (trackD evs) (.list []) = decide (evs = []) := by
  cases evs with
  | nil => rfl
  | cons x r => rfl
theorem sc_sm (v : V) : smA (scD v) := by
  cases v <;> exact True.intro
theorem scs_sm : ∀ xs : List V, smAll (xs.map scD)
  | [] => True.intro
  | x :: r => ⟨sc_sm x, scs_sm r⟩
theorem ev_sm {xs : List V} (h : xs.length ≤ 100) : smA (evD xs) := ⟨by rw [List.length_map]; omega, scs_sm xs⟩
theorem evs_sm : ∀ evs : List (List V), (∀ xs ∈ evs, Okx xs) → smAll (evs.map evD)
  | [], _ => True.intro
  | x :: r, h => ⟨ev_sm (h x (.head _)).2, evs_sm r fun y hy => h y (.tail _ hy)⟩
theorem track_sm {evs : List (List V)} (h : ∀ xs ∈ evs, Okx xs) (hl : evs.length ≤ 10000) : smA (trackD evs) := ⟨by rw [List.length_map]; omega, evs_sm evs h⟩
theorem strOk_signs {s : Str} (h : ∀ c ∈ s.cps.toList, c ∈ signsS.cps.toList) : PyData.strOk s = true := by
  have e : ∀ c ∈ signsS.cps.toList, (fun c : Nat => decide (c < 0x110000)) c = true := by decide +kernel
  unfold PyData.strOk
  rw [← Array.all_toList]
  exact List.all_eq_true.mpr fun c hc => e c (h c hc)
theorem withinAll_int : ∀ (vs : List V) (bs : List (Int × Int)), withinAll vs bs = true → ∀ v ∈ vs, ∃ z, v = .int z
  | [], _, _, v, hv => nomatch hv
  | x :: vs, [], h, _, _ => nomatch h
  | x :: vs, b :: bs, h, v, hv => by
    have h' : (withinV x b.1 b.2 && withinAll vs bs) = true := h
    rw [Bool.and_eq_true] at h'
    rcases List.mem_cons.mp hv with rfl | hv
    · cases v with
      | int z => exact ⟨z, rfl⟩
      | _ => exact absurd h'.1 (by simp [withinV])
    · exact withinAll_int vs bs h'.2 v hv
/-- a good thing's texts can stand anywhere -/
theorem thing_scal {xs : List V} (h : thingOk xs = true) : ∀ x ∈ xs, Scal2 x := by
  match xs, h with
  | .str w :: r, h =>
    by_cases hw : w = "mark"
    · subst hw
      rw [thing_mark] at h
      match r, h with
      | [y], h =>
        intro x hx
        simp only [List.mem_cons, List.mem_nil_iff, or_false] at hx
        rcases hx with rfl | rfl
        · exact .inr ⟨_, rfl, by decide, by decide +kernel⟩
        · cases x with
          | str s =>
            have h' : (decide (s.length ≤ 12) && s.cps.toList.all (fun c => decide (c ∈ signsS.cps.toList))) = true := h
            rw [Bool.and_eq_true] at h'
            have h1 := of_decide_eq_true h'.1
            exact .inr ⟨s, rfl, by omega, strOk_signs fun c hc => of_decide_eq_true (List.all_eq_true.mp h'.2 c hc)⟩
          | _ => cases h
    · rw [thing_word hw] at h
      cases hb : wordB w with
      | none => rw [hb] at h; cases h
      | some bs =>
        rw [hb] at h
        have h' : withinAll r bs = true := h
        have hs : PyData.strOk w = true ∧ w.length ≤ 1000 := by
          unfold wordB at hb
          by_cases e1 : w = "on"
          · rw [e1]; exact ⟨by decide +kernel, by decide⟩
          rw [if_neg e1] at hb
          by_cases e2 : w = "off"
          · rw [e2]; exact ⟨by decide +kernel, by decide⟩
          rw [if_neg e2] at hb
          by_cases e3 : w = "knob"
          · rw [e3]; exact ⟨by decide +kernel, by decide⟩
          rw [if_neg e3] at hb
          by_cases e4 : w = "voice"
          · rw [e4]; exact ⟨by decide +kernel, by decide⟩
          rw [if_neg e4] at hb
          cases hb
        intro x hx
        rcases List.mem_cons.mp hx with rfl | hx
        · exact .inr ⟨w, rfl, hs.2, hs.1⟩
        · exact .inl (withinAll_int r bs h' x hx)
/-! ### tables by place, walked -/
/-- enumerate: a new pair at each turn -/
theorem for_enum {K : PySem.W.Frag} {a : Addr} {xs : List V} {g : TG} {tb : TS} {D : Ends} {σ : L2.St} {H : Hp} (Pv : Nat → L2.St → Hp → Prop) (h0 : Pv 0 σ H) (hq : ∀ i σ H, Pv i σ H → SqL K H a xs)
    (hs : ∀ (i : Nat) (x : V) (T : Addr) (σ : L2.St) (H : Hp), xs[i]? = some x → Pv i σ H → H T = none → g (.ref T) σ (upd H T (.tup [.int (i : Nat), x])) fun σ2 H2 => tb { D with nx := Pv (i + 1), ct := Pv (i + 1), bk := D.nx } σ2 H2) (hd : ∀ σ H, Pv xs.length σ H → D.nx σ H) :
    ∃ W : Nat → Nat → L2.St → Hp → Prop, (∃ m, W 0 m σ H) ∧ ∀ i m σ H, W i m σ H →
      ((Ite K a).stop i H ∧ D.nx σ H) ∨ ((Ite K a).go i H ∧ ∃ N : L2.St → Hp → Prop, (∀ σ' H', N σ' H' → ∃ m', m' < m ∧ W (i + 1) m' σ' H') ∧ ∀ v H', (Ite K a).yld i H v H' → g v σ H' fun σ2 H2 => tb { D with nx := N, ct := N, bk := D.nx } σ2 H2) := by
  refine ⟨fun i m σ H => m = xs.length - i ∧ i ≤ xs.length ∧ Pv i σ H, ⟨xs.length, rfl, Nat.zero_le _, h0⟩, ?_⟩
  rintro i m σ H ⟨rfl, hi, p⟩
  have qx := hq i σ H p
  by_cases hlt : i < xs.length
  · have hx : xs[i]? = some xs[i] := List.getElem?_eq_getElem hlt
    refine .inr ⟨⟨xs, _, qx, hx⟩, Pv (i + 1), fun σ' H' p' => ⟨xs.length - (i + 1), by omega, rfl, hlt, p'⟩, fun v H' yl => ?_⟩
    obtain ⟨T, x, rfl, hT, rfl, fx⟩ := yl
    exact hs i x T σ H (fx xs qx) p hT
  · have e : i = xs.length := by omega
    subst e
    exact .inl ⟨⟨xs, qx, Nat.le_refl _⟩, hd σ H p⟩
/-- t + u of two settled tuples -/
theorem cat_x {K : PySem.W.Frag} {d : Addr} {H0 B G0 H : Hp} {a b : Addr} {xs ys : List V} {Q : VK} (S : Sd d H0 B G0 H) (ha : G0 a = some (.tup xs)) (hb : G0 b = some (.tup ys)) (hz : xs.length + ys.length ≤ 1000)
    (q : ∀ (c : Addr) (G1 H1 : Hp), Sd d H0 B G1 H1 → Ex G0 G1 → Ex H H1 → (∀ x, H x ≠ none → G0 x = none → G1 x = none) → G1 c = some (.tup (xs ++ ys)) → Q (.ref c) H1) : rCatA K (.ref a) (.ref b) H Q := by
  refine ⟨a, b, xs, ys, rfl, rfl, SqT.of (S.ex _ _ ha), SqT.of (S.ex _ _ hb), mem_sz (by omega), fun e => ?_, fun _ e => ?_, fun _ _ p hp => ?_⟩
  · exact q b G0 H S (Ex.refl _) (Ex.refl _) (fun _ _ h => h) (by rw [hb, e]; rfl)
  · exact q a G0 H S (Ex.refl _) (Ex.refl _) (fun _ _ h => h) (by rw [ha, e, List.append_nil])
  · refine q p _ _ (S.put _ hp) (Ex.new (S.ex.free hp)) (Ex.new hp) (fun x h1 h2 => ?_) upd_same
    have n : x ≠ p := fun z => h1 (by rw [z]; exact hp)
    rw [upd_ne n]
    exact h2
/-- a track in the making: its list at p, not settled -/
structure TrS (d : Addr) (H0 B : Hp) (p : Addr) (ps : List Addr) (evs : List (List V)) (G H : Hp) : Prop where
  S : Sd d H0 B G H
  hp : H p = some (.lst (ps.map V.ref))
  h0 : G p = none
  hev : Evs G ps evs
  np : d ≠ p
section
variable {d : Addr} {H0 B : Hp} {p : Addr} {ps : List Addr} {evs : List (List V)} {G H : Hp}
theorem TrS.ne {x : Addr} (T : TrS d H0 B p ps evs G H) (h : H x = none) : p ≠ x := ne_of_none T.hp h
theorem TrS.put {x : Addr} (o : HO) (T : TrS d H0 B p ps evs G H) (h : H x = none) : TrS d H0 B p ps evs (upd G x o) (upd H x o) where
  S := T.S.put o h
  hp := (upd_ne (T.ne h)).trans T.hp
  h0 := (upd_ne (T.ne h)).trans T.h0
  hev := T.hev.up (Ex.new (T.S.ex.free h))
  np := T.np
theorem TrS.call {G' H' : Hp} (T : TrS d H0 B p ps evs G H) (g : Go (· = d) G H G' H') (hD : Dr G' H' d) : TrS d H0 B p ps evs G' H' where
  S := T.S.call g hD
  hp := g.keep p _ T.hp fun z => T.np z.symm
  h0 := g.new p (by rw [T.hp]; simp) T.h0
  hev := T.hev.up g.up
  np := T.np
theorem TrS.cat {K : PySem.W.Frag} {a b : Addr} {xs ys : List V} {Q : VK} (T : TrS d H0 B p ps evs G H) (ha : G a = some (.tup xs)) (hb : G b = some (.tup ys)) (hz : xs.length + ys.length ≤ 1000)
    (q : ∀ (c : Addr) (G1 H1 : Hp), TrS d H0 B p ps evs G1 H1 → Ex G G1 → G1 c = some (.tup (xs ++ ys)) → Q (.ref c) H1) : rCatA K (.ref a) (.ref b) H Q :=
  cat_x T.S ha hb hz fun c G1 H1 S1 x1 y1 k1 hc => q c G1 H1 ⟨S1, y1 _ _ T.hp, k1 p (by rw [T.hp]; simp) T.h0, T.hev.up x1, T.np⟩ x1 hc
end
/-- a tuple of numbers and texts, settled -/
def RefOk (G : Hp) (v : V) : Prop := ∃ q xs, v = .ref q ∧ G q = some (.tup xs) ∧ Okx xs
theorem RefOk.up {G G' : Hp} {v : V} (h : RefOk G v) (x : Ex G G') : RefOk G' v := by
  obtain ⟨q, xs, e, h1, h2⟩ := h
  exact ⟨q, xs, e, x _ _ h1, h2⟩
theorem sc2I (z : Int) : Scal2 (.int z) := .inl ⟨z, rfl⟩
theorem okx_app {xs ys : List V} (h1 : ∀ x ∈ xs, Scal2 x) (h2 : ∀ x ∈ ys, Scal2 x) (hl : xs.length + ys.length ≤ 100) : Okx (xs ++ ys) :=
  ⟨fun x hx => (List.mem_append.mp hx).elim (h1 x) (h2 x), by rw [List.length_append]; exact hl⟩
theorem cutV_in (xs : List V) (lo hi : Option Int) : (∀ v ∈ cutV xs lo hi, v ∈ xs) ∧ (cutV xs lo hi).length ≤ xs.length := by
  unfold cutV
  refine ⟨fun v h => List.mem_of_mem_drop (List.mem_of_mem_take h), ?_⟩
  rw [List.length_take, List.length_drop]
  omega
theorem sI_neg (n : Nat) (d : Nat) : HT.sIx n d (some (-1)) = ((-1 : Int) + (n : Int)).toNat := rfl
theorem sI_one (n d : Nat) (h : 0 < n) : HT.sIx n d (some 1) = 1 := by
  show (if (1 : Int) < 0 then ((1 : Int) + (n : Int)).toNat else min (1 : Int).toNat n) = 1
  rw [if_neg (by decide)]
  show min 1 n = 1
  omega
theorem isEv_head {xs : List V} (h : isEv xs = true) : ∃ t ys, xs = .int t :: ys ∧ 0 ≤ t := by
  match xs, h with
  | .int t :: ys, h =>
    have h' : (withinV (.int t) 0 999999 && thingOk ys) = true := h
    rw [Bool.and_eq_true] at h'
    have h2 : (decide (0 ≤ t) && decide (t ≤ 999999)) = true := h'.1
    rw [Bool.and_eq_true] at h2
    exact ⟨t, ys, rfl, of_decide_eq_true h2.1⟩
theorem getD_of {evs : List (List V)} {i : Nat} {xs : List V} (h : evs[i]? = some xs) : evs.getD i [] = xs := by
  rw [List.getD_eq_getElem?_getD, h]
  rfl
/-- a good event, drawn -/
def GoodEv (xs : List V) : Prop := isEv xs = true ∧ Okx xs ∧ xs.length ≤ 5 ∧ ∃ t ys, xs = .int t :: ys ∧ 0 ≤ t ∧ t ≤ 999999 ∧ thingOk ys = true
theorem good_mk {t : Int} {ys : List V} (h0 : 0 ≤ t) (h1 : t ≤ 999999) (h : thingOk ys = true) (hl : ys.length ≤ 4) : GoodEv (.int t :: ys) := by
  refine ⟨?_, ⟨fun x hx => ?_, ?_⟩, ?_, t, ys, rfl, h0, h1, h⟩
  · show (withinV (.int t) 0 999999 && thingOk ys) = true
    rw [win ⟨h0, h1⟩, h]
    rfl
  · rcases List.mem_cons.mp hx with rfl | hx
    · exact .inl ⟨t, rfl⟩
    · exact thing_scal h x hx
  · rw [List.length_cons]
    omega
  · rw [List.length_cons]
    omega
/-- the ticks rise -/
def Rise (evs : List (List V)) : Prop := ∀ (i : Nat) (x y : List V), evs[i]? = some x → evs[i + 1]? = some y → tickOf x ≤ tickOf y
/-- a good track drawn: a new list, not settled -/
def spTrack : Sp := fun vs H Q _ => ∃ (d : Addr) (m : Nat) (H0 : Hp), vs = [.ref d, .int (m : Int)] ∧ m ≤ 1000 ∧ Ex H0 H ∧ Dr H0 H d ∧
  ∀ (p : Addr) (ps : List Addr) (evs : List (List V)) (G0 H' : Hp), Go (· = d) H0 H G0 H' → Dr G0 H' d → H p = none → H' p = some (.lst (ps.map V.ref)) → G0 p = none → Evs G0 ps evs → evs.length ≤ m → (∀ xs ∈ evs, GoodEv xs) → Rise evs → Q (.ref p) H'
end Rt

namespace Rt
open PySem PySem.Spec PyProof.Rows L2 RZ TL
/-! ### {t} of a tuple of numbers and texts: some text -/
def Scal3 (v : V) : Prop := (∃ z : Int, v = .int z ∧ z.natAbs < 10 ^ 40) ∨ ∃ s : Str, v = .str s ∧ s.length ≤ 100 ∧ PyData.strOk s = true
theorem Scal3.s2 {v : V} (h : Scal3 v) : Scal2 v := h.elim (fun ⟨z, e, _⟩ => .inl ⟨z, e⟩) fun ⟨s, e, l, k⟩ => .inr ⟨s, e, by omega, k⟩
def scT (v : V) : Str := match v with
  | .int z => (toString z : String)
  | .str y => reprText y
  | _ => Str.empty
theorem strOk_lt {s : Str} (h : PyData.strOk s = true) : ∀ c ∈ s.cps.toList, c < 16 ^ 8 := fun c hc => by
  unfold PyData.strOk at h
  rw [← Array.all_toList] at h
  have := of_decide_eq_true (List.all_eq_true.mp h c hc)
  exact Nat.lt_trans this (by decide)
theorem scT_len {v : V} (h : Scal3 v) : (scT v).length ≤ 1921 := by
  rcases h with ⟨z, rfl, hz⟩ | ⟨s, rfl, hl, hk⟩
  · exact PyProof.Rows.int_text_len_1921 (log_small hz)
  · have := StrLaws.reprText_len s (strOk_lt hk)
    show (reprText s).length ≤ 1921
    omega
theorem scT_all {prog : Program} {w : World} : ∀ {xs : List V} {its : List Value}, Vals xs its → (∀ v ∈ xs, Scal3 v) → ReprAll prog w its (xs.map scT)
  | [], _, r, _ => by
    cases r
    exact .nil
  | v :: xs, _, r, h => by
    cases r with
    | cons r1 r2 =>
      have tl := scT_all (prog := prog) (w := w) r2 fun z hz => h z (.tail _ hz)
      have hlen := scT_len (h v (.head _))
      rcases h v (.head _) with ⟨z, rfl, hz⟩ | ⟨s, rfl, hl, hk⟩
      · obtain ⟨t, rfl⟩ := r1
        exact .cons (ReprIs.int t (log_small hz)) tl
      · obtain ⟨t, rfl⟩ := r1
        exact .cons (ReprIs.str s t (mem_sz (by have : (reprText s).length ≤ 1921 := hlen; omega))) tl
theorem scT_piled : ∀ xs : List V, (∀ v ∈ xs, Scal3 v) → piled (xs.map scT) ≤ 1923 * xs.length
  | [], _ => Nat.zero_le _
  | v :: xs, h => by
    have h1 := scT_len (h v (.head _))
    have h2 := scT_piled xs fun z hz => h z (.tail _ hz)
    rw [List.map_cons, piled_cons, List.length_cons]
    omega
def tFmtM (K : PySem.W.Frag) (te : TE) : TE := fun σ H Q => te σ H fun x H1 => ∃ (a : Addr) (xs : List V), x = .ref a ∧ SqT K H1 a xs ∧ (∀ v ∈ xs, Scal3 v) ∧ xs.length ≤ 50 ∧ ∀ m : Str, m.length ≤ 100000 → Q (.str m) H1
theorem pe_fmtM {X : Cx} {e : Expr} {te : TE} {pos : Pos} {k : Nat} (hr : Room k X.A) (he : PE X e te) : PE X (.FormattedValue e (-1) none pos) (tFmtM X.K te) := by
  refine ⟨fun pins s σ H Q I h => ?_⟩
  refine wpAny_FormattedValue_plain (thn (he.run pins s σ H _ I h) fun v s1 hv => ?_)
  obtain ⟨x, H1, I1, r1, a, xs, rfl, ht, hc, hl, q⟩ := hv
  cases r1
  obtain ⟨its, rv, ⟨o, ho, hcl, n, hd⟩, _⟩ := I1.tuple ht
  have hp := scT_piled xs hc
  have htx := fmt_text (xs.map scT)
  have hu := hr.units
  have hb : (tupleText (xs.map scT)).length ≤ 99000 := by omega
  exact fmt_tuple (ts := xs.map scT) (by omega) ho hcl hd (scT_all rv hc) (mem_sz (by omega)) fun m u tk hm => ⟨.str m, H1, I1.tok _, ⟨u, rfl⟩, q m (by omega)⟩
theorem withinAll_small : ∀ (vs : List V) (bs : List (Int × Int)), (∀ b ∈ bs, 0 ≤ b.1 ∧ b.2 ≤ 127) → withinAll vs bs = true → ∀ v ∈ vs, ∃ z, v = .int z ∧ 0 ≤ z ∧ z ≤ 127
  | [], _, _, _, v, hv => nomatch hv
  | x :: vs, [], _, h, _, _ => nomatch h
  | x :: vs, b :: bs, hb, h, v, hv => by
    have h' : (withinV x b.1 b.2 && withinAll vs bs) = true := h
    rw [Bool.and_eq_true] at h'
    rcases List.mem_cons.mp hv with rfl | hv
    · cases v with
      | int z =>
        have h2 : (decide (b.1 ≤ z) && decide (z ≤ b.2)) = true := h'.1
        rw [Bool.and_eq_true] at h2
        have h3 := of_decide_eq_true h2.1
        have h4 := of_decide_eq_true h2.2
        have h5 := hb b (.head _)
        exact ⟨z, rfl, by omega, by omega⟩
      | _ => exact absurd h'.1 (by simp [withinV])
    · exact withinAll_small vs bs (fun c hc => hb c (.tail _ hc)) h'.2 v hv
theorem wordB_small {w : Str} {bs : List (Int × Int)} (hb : wordB w = some bs) : (∀ b ∈ bs, 0 ≤ b.1 ∧ b.2 ≤ 127) ∧ PyData.strOk w = true ∧ w.length ≤ 100 := by
  unfold wordB at hb
  by_cases e1 : w = "on"
  · rw [if_pos e1] at hb
    cases hb
    rw [e1]
    exact ⟨by decide, by decide +kernel, by decide⟩
  rw [if_neg e1] at hb
  by_cases e2 : w = "off"
  · rw [if_pos e2] at hb
    cases hb
    rw [e2]
    exact ⟨by decide, by decide +kernel, by decide⟩
  rw [if_neg e2] at hb
  by_cases e3 : w = "knob"
  · rw [if_pos e3] at hb
    cases hb
    rw [e3]
    exact ⟨by decide, by decide +kernel, by decide⟩
  rw [if_neg e3] at hb
  by_cases e4 : w = "voice"
  · rw [if_pos e4] at hb
    cases hb
    rw [e4]
    exact ⟨by decide, by decide +kernel, by decide⟩
  rw [if_neg e4] at hb
  cases hb
theorem sc3I {z : Int} (h0 : -10000000 ≤ z) (h1 : z ≤ 10000000) : Scal3 (.int z) := by
  have : (10000000 : Nat) < 10 ^ 40 := by decide
  exact .inl ⟨z, rfl, by omega⟩
theorem thing_scal3 {xs : List V} (h : thingOk xs = true) : ∀ x ∈ xs, Scal3 x := by
  match xs, h with
  | .str w :: r, h =>
    by_cases hw : w = "mark"
    · subst hw
      rw [thing_mark] at h
      match r, h with
      | [y], h =>
        intro x hx
        simp only [List.mem_cons, List.mem_nil_iff, or_false] at hx
        rcases hx with rfl | rfl
        · exact .inr ⟨_, rfl, by decide, by decide +kernel⟩
        · cases x with
          | str s =>
            have h' : (decide (s.length ≤ 12) && s.cps.toList.all (fun c => decide (c ∈ signsS.cps.toList))) = true := h
            rw [Bool.and_eq_true] at h'
            have h1 := of_decide_eq_true h'.1
            exact .inr ⟨s, rfl, by omega, strOk_signs fun c hc => of_decide_eq_true (List.all_eq_true.mp h'.2 c hc)⟩
          | _ => cases h
    · rw [thing_word hw] at h
      cases hb : wordB w with
      | none => rw [hb] at h; cases h
      | some bs =>
        rw [hb] at h
        have h' : withinAll r bs = true := h
        obtain ⟨b1, b2, b3⟩ := wordB_small hb
        intro x hx
        rcases List.mem_cons.mp hx with rfl | hx
        · exact .inr ⟨w, rfl, b3, b2⟩
        · obtain ⟨z, rfl, z0, z1⟩ := withinAll_small r bs b1 h' x hx
          exact sc3I (by omega) (by omega)
theorem Evs.take {G : Hp} {ps : List Addr} {evs : List (List V)} (h : Evs G ps evs) (n : Nat) : Evs G (ps.take n) (evs.take n) := by
  refine ⟨by rw [List.length_take, List.length_take, h.1], fun i p xs h1 h2 => ?_⟩
  rw [List.getElem?_take] at h1 h2
  by_cases c : i < n
  · rw [if_pos c] at h1 h2
    exact h.2 i p xs h1 h2
  · rw [if_neg c] at h1
    cases h1
theorem Evs.drop {G : Hp} {ps : List Addr} {evs : List (List V)} (h : Evs G ps evs) (n : Nat) : Evs G (ps.drop n) (evs.drop n) := by
  refine ⟨by rw [List.length_drop, List.length_drop, h.1], fun i p xs h1 h2 => ?_⟩
  rw [List.getElem?_drop] at h1 h2
  exact h.2 (n + i) p xs h1 h2
theorem Evs.append {G : Hp} {ps qs : List Addr} {evs fvs : List (List V)} (h : Evs G ps evs) (k : Evs G qs fvs) : Evs G (ps ++ qs) (evs ++ fvs) := by
  refine ⟨by rw [List.length_append, List.length_append, h.1, k.1], fun i p xs h1 h2 => ?_⟩
  by_cases c : i < ps.length
  · rw [List.getElem?_append_left c] at h1
    rw [List.getElem?_append_left (by rw [← h.1]; exact c)] at h2
    exact h.2 i p xs h1 h2
  · rw [List.getElem?_append_right (by omega)] at h1
    rw [List.getElem?_append_right (by rw [← h.1]; omega), ← h.1] at h2
    exact k.2 _ p xs h1 h2
theorem Evs.one {G : Hp} {p : Addr} {xs : List V} (h : G p = some (.tup xs)) : Evs G [p] [xs] := by
  have := (Evs.nil G).snoc h
  exact this
theorem cutV_take (xs : List V) (n : Nat) (h : n ≤ xs.length) : cutV xs none (some (n : Int)) = xs.take n := by
  unfold cutV
  have e1 : HT.sIx xs.length 0 none = 0 := rfl
  have e2 : HT.sIx xs.length xs.length (some (n : Int)) = n := by
    show (if (n : Int) < 0 then ((n : Int) + (xs.length : Int)).toNat else min (n : Int).toNat xs.length) = n
    rw [if_neg (by omega)]
    omega
  rw [e1, e2]
  rfl
theorem cutV_drop (xs : List V) (n : Nat) (h : n ≤ xs.length) : cutV xs (some (n : Int)) none = xs.drop n := by
  unfold cutV
  have e1 : HT.sIx xs.length xs.length none = xs.length := rfl
  have e2 : HT.sIx xs.length 0 (some (n : Int)) = n := by
    show (if (n : Int) < 0 then ((n : Int) + (xs.length : Int)).toNat else min (n : Int).toNat xs.length) = n
    rw [if_neg (by omega)]
    omega
  rw [e1, e2, List.take_of_length_le (by rw [List.length_drop]; exact Nat.le_refl _)]
/-- the like of TrS.cat for a settled stand -/
theorem cat_s {K : PySem.W.Frag} {d : Addr} {H0 B G0 H : Hp} {a b : Addr} {xs ys : List V} {Q : VK} (S : Sd d H0 B G0 H) (ha : G0 a = some (.tup xs)) (hb : G0 b = some (.tup ys)) (hz : xs.length + ys.length ≤ 1000)
    (q : ∀ (c : Addr) (G1 H1 : Hp), Sd d H0 B G1 H1 → Ex G0 G1 → Ex H H1 → G1 c = some (.tup (xs ++ ys)) → Q (.ref c) H1) : rCatA K (.ref a) (.ref b) H Q :=
  cat_x S ha hb hz fun c G1 H1 S1 x1 y1 _ hc => q c G1 H1 S1 x1 y1 hc
end Rt

namespace Rt
open PySem PySem.Spec PyProof.Rows L2 RZ TL LamX
/-- a settled track and the tables -/
structure KS (d : Addr) (A0 B0 : Hp) (TT : List (Addr × Str)) (p : Addr) (ps : List Addr) (evs : List (List V)) (G H : Hp) : Prop where
  S : Sd d A0 B0 G H
  hp : G p = some (.lst (ps.map V.ref))
  hev : Evs G ps evs
  hT : Tabs TT H
section
variable {d : Addr} {A0 B0 : Hp} {TT : List (Addr × Str)} {p : Addr} {ps : List Addr} {evs : List (List V)} {G H : Hp}
theorem KS.put {x : Addr} (o : HO) (T : KS d A0 B0 TT p ps evs G H) (h : H x = none) : KS d A0 B0 TT p ps evs (upd G x o) (upd H x o) :=
  ⟨T.S.put o h, upPut (T.S.ex.free h) T.hp, T.hev.up (Ex.new (T.S.ex.free h)), tabs_new T.hT h⟩
theorem KS.lay {x : Addr} (o : HO) (T : KS d A0 B0 TT p ps evs G H) (h : H x = none) : KS d A0 B0 TT p ps evs G (upd H x o) :=
  ⟨T.S.lay o h, T.hp, T.hev, tabs_new T.hT h⟩
theorem KS.call {G' H' : Hp} (T : KS d A0 B0 TT p ps evs G H) (g : Go (· = d) G H G' H') (hD : Dr G' H' d) : KS d A0 B0 TT p ps evs G' H' :=
  ⟨T.S.call g hD, g.up _ _ T.hp, T.hev.up g.up, tabs_go T.hT T.S.dr g⟩
theorem KS.pure {H' : Hp} (T : KS d A0 B0 TT p ps evs G H) (g : Go (fun _ => False) G H G H') : KS d A0 B0 TT p ps evs G H' :=
  ⟨T.S.pure g, T.hp, T.hev, T.hT.ext (go_ex g)⟩
theorem KS.cat {K : PySem.W.Frag} {a b : Addr} {xs ys : List V} {Q : VK} (T : KS d A0 B0 TT p ps evs G H) (ha : G a = some (.tup xs)) (hb : G b = some (.tup ys)) (hz : xs.length + ys.length ≤ 1000)
    (q : ∀ (c : Addr) (G1 H1 : Hp), KS d A0 B0 TT p ps evs G1 H1 → Ex G G1 → G1 c = some (.tup (xs ++ ys)) → Q (.ref c) H1) : rCatA K (.ref a) (.ref b) H Q :=
  cat_s T.S ha hb hz fun c G1 H1 S1 x1 y1 hc => q c G1 H1 ⟨S1, x1 _ _ T.hp, T.hev.up x1, T.hT.ext y1⟩ x1 hc
theorem KS.clean (T : KS d A0 B0 TT p ps evs G H) : KS d (Rt.clean G) H TT p ps evs (Rt.clean G) H :=
  ⟨Sd.here (clean_ex T.S.ex) (clean_dr T.S.dr), clean_at T.hp (fun ps z => nomatch z), ⟨T.hev.1, fun i q xs h1 h2 => clean_at (T.hev.2 i q xs h1 h2) (fun ps z => nomatch z)⟩, T.hT⟩
end
def EvK (xs : List V) : Prop := Okx xs ∧ ∃ t ys, xs = .int t :: ys ∧ 0 ≤ t ∧ t ≤ 999999

/-- the settled heap, said less -/
theorem Go.weak {m : Addr → Prop} {G G' H H' : Hp} (g : Go m G H G' H') : Go m G H G H' := ⟨Ex.refl _, g.up.trans g.inn, fun _ _ h => h, g.keep, g.there⟩
theorem take_snoc {α : Type} {l : List α} {i : Nat} {x : α} (h : l[i]? = some x) : l.take (i + 1) = l.take i ++ [x] := by
  rw [List.take_add_one, h]
  rfl
theorem at_last {xs : List V} {z : Int} {j : Nat} {v : V} (e : z = -1) (h : xs[j]? = some v) (hj : j + 1 = xs.length) : atI xs z = some v := by
  subst e
  unfold atI ixN
  rw [if_neg (by decide), if_pos (by omega)]
  show xs[((-1 : Int) + (xs.length : Int)).toNat]? = some v
  rw [show ((-1 : Int) + (xs.length : Int)).toNat = j by omega, h]
theorem EvK.okx {xs : List V} (h : EvK xs) : Okx xs := h.1
end Rt

namespace Rt
open PySem PySem.Spec PyProof.Rows L2
/-! ### min(ns, default=d), max(ns, default=d) of a list of numbers -/
def rMinD (K : PySem.W.Frag) : List V → List V → Hp → VK → Prop := fun vs zs H Q => ∃ (a : Addr) (ns : List Int) (z : V), vs = [.ref a] ∧ zs = [z] ∧ SqL K H a (ns.map V.int) ∧ (ns = [] → Q z H) ∧ ∀ m, m ∈ ns → (∀ x ∈ ns, m ≤ x) → Q (.int m) H
def rMaxD (K : PySem.W.Frag) : List V → List V → Hp → VK → Prop := fun vs zs H Q => ∃ (a : Addr) (ns : List Int) (z : V), vs = [.ref a] ∧ zs = [z] ∧ SqL K H a (ns.map V.int) ∧ (ns = [] → Q z H) ∧ ∀ m, m ∈ ns → (∀ x ∈ ns, x ≤ m) → Q (.int m) H
theorem ckMin {X : Cx} (hc : X.calm = true) : CallRK X (.builtin "min") ["default"] (rMinD X.K) := by
  intro pins s σ H vs zs us ws Q I rx rz h
  obtain ⟨a, ns, z, rfl, rfl, hs, q0, q1⟩ := h
  obtain ⟨items, rv, hl, _⟩ := I.list hs
  rw [Vals.ref1 rx]
  cases rz with
  | cons r1 r2 =>
    cases r2
    have hi := rv.ints
    obtain ⟨xs, ex⟩ := hi.allInts.items
    have hn : numsOf (intItems xs).toList = ns := by
      rw [← ex]
      exact hi.numsOf
    rw [nums_intItems] at hn
    have hL := hl.isList
    rw [ex] at hL
    refine PySem.call_min_walkD (PySem.W.iter_listW (I.ok.hd hc) hL fun s2 e2 W st hfp hw hk => ?_)
    refine ⟨_, _, _, _, _, _, _, s.heap, fun i j => decide (numAt xs i < numAt xs j), rfl, W, st, hfp, hw, hk, fun n0 s' hm => ?_, fun n1 => ⟨fun i j vi vj s Q E _ hi hj hq => CmpOf.ints_lt (numAt xs) (fun _ _ => intItems_at) i j vi vj s Q E hi hj hq, fun v s' hP hm => ?_⟩⟩
    · obtain ⟨h', tk, rfl, old⟩ := PySem.W.moved_old e2 rfl hm
      refine ⟨z, H, I.kept old, r1, q0 ?_⟩
      subst hn
      have : xs.size = 0 := by simpa [intItems] using n0
      apply List.eq_nil_of_length_eq_zero
      rw [List.length_map, Array.length_toList, this]
    · obtain ⟨h', tk, rfl, old⟩ := PySem.W.moved_old e2 rfl hm
      obtain ⟨t, rfl⟩ := intItems_at hP
      have hsz : 0 < xs.size := by simpa [intItems] using n1
      obtain ⟨c1, c2⟩ := argBest_lt (numAt xs) (xs.size - 1)
      subst hn
      have es : (intItems xs).size = xs.size := by simp [intItems]
      rw [es]
      refine ⟨.int _, H, I.kept old, ⟨_, rfl⟩, q1 _ ?_ fun b hb => ?_⟩
      · rw [numAt_eq]
        refine PySem.getD_mem ?_
        simp only [List.length_map, Array.length_toList]
        omega
      · obtain ⟨j, hj, rfl⟩ := mem_getD hb
        simp only [List.length_map, Array.length_toList] at hj
        rw [← numAt_eq]
        exact c2 j (by omega)
theorem ckMax {X : Cx} (hc : X.calm = true) : CallRK X (.builtin "max") ["default"] (rMaxD X.K) := by
  intro pins s σ H vs zs us ws Q I rx rz h
  obtain ⟨a, ns, z, rfl, rfl, hs, q0, q1⟩ := h
  obtain ⟨items, rv, hl, _⟩ := I.list hs
  rw [Vals.ref1 rx]
  cases rz with
  | cons r1 r2 =>
    cases r2
    have hi := rv.ints
    obtain ⟨xs, ex⟩ := hi.allInts.items
    have hn : numsOf (intItems xs).toList = ns := by
      rw [← ex]
      exact hi.numsOf
    rw [nums_intItems] at hn
    have hL := hl.isList
    rw [ex] at hL
    refine PySem.call_max_walkD (PySem.W.iter_listW (I.ok.hd hc) hL fun s2 e2 W st hfp hw hk => ?_)
    refine ⟨_, _, _, _, _, _, _, s.heap, fun i j => decide (numAt xs i > numAt xs j), rfl, W, st, hfp, hw, hk, fun n0 s' hm => ?_, fun n1 => ⟨fun i j vi vj s Q E _ hi hj hq => CmpOf.ints_gt (numAt xs) (fun _ _ => intItems_at) i j vi vj s Q E hi hj hq, fun v s' hP hm => ?_⟩⟩
    · obtain ⟨h', tk, rfl, old⟩ := PySem.W.moved_old e2 rfl hm
      refine ⟨z, H, I.kept old, r1, q0 ?_⟩
      subst hn
      have : xs.size = 0 := by simpa [intItems] using n0
      apply List.eq_nil_of_length_eq_zero
      rw [List.length_map, Array.length_toList, this]
    · obtain ⟨h', tk, rfl, old⟩ := PySem.W.moved_old e2 rfl hm
      obtain ⟨t, rfl⟩ := intItems_at hP
      have hsz : 0 < xs.size := by simpa [intItems] using n1
      obtain ⟨c1, c2⟩ := argBest_gt (numAt xs) (xs.size - 1)
      subst hn
      have es : (intItems xs).size = xs.size := by simp [intItems]
      rw [es]
      refine ⟨.int _, H, I.kept old, ⟨_, rfl⟩, q1 _ ?_ fun b hb => ?_⟩
      · rw [numAt_eq]
        refine PySem.getD_mem ?_
        simp only [List.length_map, Array.length_toList]
        omega
      · obtain ⟨j, hj, rfl⟩ := mem_getD hb
        simp only [List.length_map, Array.length_toList] at hj
        rw [← numAt_eq]
        exact c2 j (by omega)
end Rt

namespace Rt
open PySem PySem.Spec PyProof.Rows L2 RZ TL LamX
/-! ### events as a type -/
inductive Evt where
  | key (on : Bool) (t c k f : Int)
  | knob (t c k v : Int)
  | voice (t c v : Int)
  | mark (t : Int) (s : Str)
def Evt.word : Evt → Str
  | .key true .. => "on"
  | .key false .. => "off"
  | .knob .. => "knob"
  | .voice .. => "voice"
  | .mark .. => "mark"
def onW (b : Bool) : Str := if b then "on" else "off"
def Evt.v : Evt → List V
  | .key b t c k f => [.int t, .str (onW b), .int c, .int k, .int f]
  | .knob t c k v => [.int t, .str "knob", .int c, .int k, .int v]
  | .voice t c v => [.int t, .str "voice", .int c, .int v]
  | .mark t s => [.int t, .str "mark", .str s]
def Evt.tick : Evt → Int
  | .key _ t .. => t
  | .knob t .. => t
  | .voice t .. => t
  | .mark t _ => t
def low (b : Bool) : Int := if b then 1 else 0
def Evt.Ok : Evt → Prop
  | .key b t c k f => (0 ≤ t ∧ t ≤ 999999) ∧ (0 ≤ c ∧ c ≤ 15) ∧ (0 ≤ k ∧ k ≤ 127) ∧ (low b ≤ f ∧ f ≤ 127)
  | .knob t c k v => (0 ≤ t ∧ t ≤ 999999) ∧ (0 ≤ c ∧ c ≤ 15) ∧ (0 ≤ k ∧ k ≤ 127) ∧ (0 ≤ v ∧ v ≤ 127)
  | .voice t c v => (0 ≤ t ∧ t ≤ 999999) ∧ (0 ≤ c ∧ c ≤ 15) ∧ (0 ≤ v ∧ v ≤ 127)
  | .mark t s => (0 ≤ t ∧ t ≤ 999999) ∧ s.length ≤ 12 ∧ ∀ c ∈ s.cps.toList, c ∈ signsS.cps.toList
theorem Evt.tick_v (e : Evt) : tickOf e.v = e.tick := by cases e <;> rfl
theorem Evt.Ok.tk {e : Evt} (h : e.Ok) : 0 ≤ e.tick ∧ e.tick ≤ 999999 := by cases e <;> exact h.1
theorem win_inv {v : V} {lo hi : Int} (h : withinV v lo hi = true) : ∃ z, v = .int z ∧ lo ≤ z ∧ z ≤ hi := by
  cases v with
  | int z =>
    have h' : (decide (lo ≤ z) && decide (z ≤ hi)) = true := h
    rw [Bool.and_eq_true] at h'
    exact ⟨z, rfl, of_decide_eq_true h'.1, of_decide_eq_true h'.2⟩
  | _ => exact absurd h (by simp [withinV])
theorem winAll3 {r : List V} {b1 b2 b3 : Int × Int} (h : withinAll r [b1, b2, b3] = true) : ∃ x y z, r = [.int x, .int y, .int z] ∧ (b1.1 ≤ x ∧ x ≤ b1.2) ∧ (b2.1 ≤ y ∧ y ≤ b2.2) ∧ (b3.1 ≤ z ∧ z ≤ b3.2) := by
  match r, h with
  | [u, v, w], h =>
    have h' : (withinV u b1.1 b1.2 && (withinV v b2.1 b2.2 && (withinV w b3.1 b3.2 && true))) = true := h
    simp only [Bool.and_eq_true] at h'
    obtain ⟨x, rfl, hx⟩ := win_inv h'.1
    obtain ⟨y, rfl, hy⟩ := win_inv h'.2.1
    obtain ⟨z, rfl, hz⟩ := win_inv h'.2.2.1
    exact ⟨x, y, z, rfl, hx, hy, hz⟩
  | [], h => nomatch h
  | [u], h => exact absurd h (by simp [withinAll])
  | [u, v], h => exact absurd h (by simp [withinAll])
  | u :: v :: w :: y :: r, h => exact absurd h (by simp [withinAll])
theorem winAll2 {r : List V} {b1 b2 : Int × Int} (h : withinAll r [b1, b2] = true) : ∃ x y, r = [.int x, .int y] ∧ (b1.1 ≤ x ∧ x ≤ b1.2) ∧ (b2.1 ≤ y ∧ y ≤ b2.2) := by
  match r, h with
  | [u, v], h =>
    have h' : (withinV u b1.1 b1.2 && (withinV v b2.1 b2.2 && true)) = true := h
    simp only [Bool.and_eq_true] at h'
    obtain ⟨x, rfl, hx⟩ := win_inv h'.1
    obtain ⟨y, rfl, hy⟩ := win_inv h'.2.1
    exact ⟨x, y, rfl, hx, hy⟩
  | [], h => nomatch h
  | [u], h => exact absurd h (by simp [withinAll])
  | u :: v :: w :: r, h => exact absurd h (by simp [withinAll])
theorem thing_head : ∀ {r : List V}, thingOk r = true → ∃ w r', r = .str w :: r'
  | .str w :: r', _ => ⟨w, r', rfl⟩
  | [], h => nomatch h
  | .non :: _, h => nomatch h
  | .bl _ :: _, h => nomatch h
  | .int _ :: _, h => nomatch h
  | .ref _ :: _, h => nomatch h
  | .byt _ :: _, h => nomatch h
theorem text_inv {v : V} (h : textOk v = true) : ∃ s, v = .str s ∧ s.length ≤ 12 ∧ ∀ c ∈ s.cps.toList, c ∈ signsS.cps.toList := by
  cases v with
  | str s =>
    have h3' : (decide (s.length ≤ 12) && s.cps.toList.all (fun c => decide (c ∈ signsS.cps.toList))) = true := h
    rw [Bool.and_eq_true] at h3'
    exact ⟨s, rfl, of_decide_eq_true h3'.1, fun c hc => of_decide_eq_true (List.all_eq_true.mp h3'.2 c hc)⟩
  | _ => cases h
theorem mark_inv : ∀ {r : List V}, markOk r = true → ∃ s, r = [.str s] ∧ s.length ≤ 12 ∧ ∀ c ∈ s.cps.toList, c ∈ signsS.cps.toList
  | [v], h => by
    obtain ⟨s, rfl, h2⟩ := text_inv (v := v) h
    exact ⟨s, rfl, h2⟩
  | [], h => nomatch h
  | _ :: _ :: _, h => nomatch h
/-- a good event is one of the five -/
theorem good_evt {xs : List V} (h : isEv xs = true) : ∃ e : Evt, xs = e.v ∧ e.Ok := by
  match xs, h with
  | t :: r, h =>
    have h' : (withinV t 0 999999 && thingOk r) = true := h
    rw [Bool.and_eq_true] at h'
    obtain ⟨t, rfl, ht⟩ := win_inv h'.1
    obtain ⟨w, r, rfl⟩ := thing_head h'.2
    have h2 := h'.2
    · by_cases hw : w = "mark"
      · subst hw
        rw [thing_mark] at h2
        obtain ⟨s, rfl, h3, h4⟩ := mark_inv h2
        exact ⟨.mark t s, rfl, ht, h3, h4⟩
      · rw [thing_word hw] at h2
        unfold wordB at h2
        by_cases e1 : w = "on"
        · rw [if_pos e1] at h2
          obtain ⟨x, y, z, rfl, hx, hy, hz⟩ := winAll3 h2
          exact ⟨.key true t x y z, by rw [e1]; rfl, ht, hx, hy, hz⟩
        rw [if_neg e1] at h2
        by_cases e2 : w = "off"
        · rw [if_pos e2] at h2
          obtain ⟨x, y, z, rfl, hx, hy, hz⟩ := winAll3 h2
          exact ⟨.key false t x y z, by rw [e2]; rfl, ht, hx, hy, hz⟩
        rw [if_neg e2] at h2
        by_cases e3 : w = "knob"
        · rw [if_pos e3] at h2
          obtain ⟨x, y, z, rfl, hx, hy, hz⟩ := winAll3 h2
          exact ⟨.knob t x y z, by rw [e3]; rfl, ht, hx, hy, hz⟩
        rw [if_neg e3] at h2
        by_cases e4 : w = "voice"
        · rw [if_pos e4] at h2
          obtain ⟨x, y, rfl, hx, hy⟩ := winAll2 h2
          exact ⟨.voice t x y, by rw [e4]; rfl, ht, hx, hy⟩
        rw [if_neg e4] at h2
        cases h2
theorem okx_of_good {xs : List V} (h : GoodEv xs) : Okx xs := h.2.1
/-- a track of good events -/
theorem good_evts : ∀ {evs : List (List V)}, (∀ xs ∈ evs, GoodEv xs) → ∃ es : List Evt, evs = es.map Evt.v ∧ ∀ e ∈ es, e.Ok
  | [], _ => ⟨[], rfl, fun e h => nomatch h⟩
  | x :: r, h => by
    obtain ⟨e, he, ho⟩ := good_evt (h x (.head _)).1
    obtain ⟨es, h1, h2⟩ := good_evts fun y hy => h y (.tail _ hy)
    refine ⟨e :: es, by rw [he, h1]; rfl, fun z hz => ?_⟩
    rcases List.mem_cons.mp hz with rfl | hz
    · exact ho
    · exact h2 z hz
theorem onW_ok (b : Bool) : PyData.strOk (onW b) = true ∧ (onW b).length ≤ 10 := by cases b <;> exact ⟨by decide +kernel, by decide⟩
theorem Evt.Ok.okx {e : Evt} (h : e.Ok) : Okx e.v ∧ e.v.length ≤ 5 := by
  have key : ∀ s : Str, s.length ≤ 12 → PyData.strOk s = true → Scal2 (.str s) := fun s h1 h2 => .inr ⟨s, rfl, by omega, h2⟩
  cases e with
  | key b t c k f =>
    refine ⟨⟨fun x hx => ?_, (by show 5 ≤ 100; decide)⟩, (by show 5 ≤ 5; decide)⟩
    simp only [Evt.v, List.mem_cons, List.mem_nil_iff, or_false] at hx
    rcases hx with rfl | rfl | rfl | rfl | rfl
    · exact sc2I _
    · exact key _ (Nat.le_trans (onW_ok b).2 (by decide)) (onW_ok b).1
    all_goals exact sc2I _
  | knob t c k v =>
    refine ⟨⟨fun x hx => ?_, (by show 5 ≤ 100; decide)⟩, (by show 5 ≤ 5; decide)⟩
    simp only [Evt.v, List.mem_cons, List.mem_nil_iff, or_false] at hx
    rcases hx with rfl | rfl | rfl | rfl | rfl
    · exact sc2I _
    · exact key _ (by decide) (by decide +kernel)
    all_goals exact sc2I _
  | voice t c v =>
    refine ⟨⟨fun x hx => ?_, (by show 4 ≤ 100; decide)⟩, (by show 4 ≤ 5; decide)⟩
    simp only [Evt.v, List.mem_cons, List.mem_nil_iff, or_false] at hx
    rcases hx with rfl | rfl | rfl | rfl
    · exact sc2I _
    · exact key _ (by decide) (by decide +kernel)
    all_goals exact sc2I _
  | mark t s =>
    refine ⟨⟨fun x hx => ?_, (by show 3 ≤ 100; decide)⟩, (by show 3 ≤ 5; decide)⟩
    simp only [Evt.v, List.mem_cons, List.mem_nil_iff, or_false] at hx
    rcases hx with rfl | rfl | rfl
    · exact sc2I _
    · exact key _ (by decide) (by decide +kernel)
    · exact key s h.2.1 (strOk_signs h.2.2)
theorem evs_at {G : Hp} {ps : List Addr} {es : List Evt} (h : Evs G ps (es.map Evt.v)) {i : Nat} {x : V} (hx : (ps.map V.ref)[i]? = some x) : ∃ p e, x = .ref p ∧ ps[i]? = some p ∧ es[i]? = some e ∧ G p = some (.tup e.v) := by
  have hil : i < ps.length := by
    have := (List.getElem?_eq_some_iff.mp hx).1
    rwa [List.length_map] at this
  have hl : ps.length = es.length := by rw [h.1, List.length_map]
  obtain ⟨p, xs, hp, hxs, hpx⟩ := h.at_ (i := i) (by rw [List.length_map]; omega)
  have he : es[i]? = some es[i] := List.getElem?_eq_getElem (by omega)
  rw [List.getElem?_map, he] at hxs
  cases hxs
  rw [map_ref hp] at hx
  exact ⟨p, es[i], (Option.some.inj hx).symm, hp, he, hpx⟩
theorem Evs.len {G : Hp} {ps : List Addr} {es : List Evt} (h : Evs G ps (es.map Evt.v)) : ps.length = es.length := by rw [h.1, List.length_map]
/-- is it an on or an off -/
def Evt.isKey : Evt → Bool
  | .key .. => true
  | _ => false
theorem in_onoff (e : Evt) : inV (e.v.getD 1 .non) [.str "on", .str "off"] = e.isKey := by
  cases e with
  | key b t c k f =>
    cases b
    · show inV (.str "off") [.str "on", .str "off"] = true; decide +kernel
    · show inV (.str "on") [.str "on", .str "off"] = true; decide +kernel
  | knob t c k v => show inV (.str "knob") [.str "on", .str "off"] = false; decide +kernel
  | voice t c v => show inV (.str "voice") [.str "on", .str "off"] = false; decide +kernel
  | mark t s => show inV (.str "mark") [.str "on", .str "off"] = false; decide +kernel
end Rt

namespace Rt
open PySem PySem.Spec PyProof.Rows L2
/-! ### steps of the settled heap, said with a new letter -/
theorem Sd.nw {d p : Addr} {A0 A H0 H : Hp} (S : Sd d A0 A H0 H) (o : HO) (h : H p = none) : ∃ G0 G, upd H p o = G ∧ Sd d A0 A G0 G ∧ G0 p = some o ∧ Ex H0 G0 :=
  ⟨_, _, rfl, S.put o h, upd_same, Ex.new (S.ex.free h)⟩
theorem Go.nw {m : Addr → Prop} {p : Addr} {E0 E H0 H : Hp} (g : Go m E0 E H0 H) (o : HO) (h : H p = none) : ∃ G0 G, upd H p o = G ∧ Go m E0 E G0 G ∧ G0 p = some o ∧ Ex H0 G0 :=
  ⟨_, _, rfl, g.put o h, upd_same, Ex.new (g.inn.free h)⟩
/-- a new object, not settled -/
theorem Go.ly {m : Addr → Prop} {p : Addr} {E0 E H0 H : Hp} (g : Go m E0 E H0 H) (o : HO) (h : H p = none) : ∃ G, upd H p o = G ∧ Go m E0 E H0 G ∧ G p = some o ∧ Ex H G ∧ E p = none ∧ H0 p = none :=
  ⟨_, rfl, g.lay o h, upd_same, Ex.new h, g.fresh h, g.fresh0 h⟩
theorem upS {G : Hp} {p b : Addr} {o u : HO} (n : G p = none) (h : G b = some u) : upd G p o b = some u := by
  rw [upd_ne (ne_of_none h n)]
  exact h
/-- all but the drawing's list is settled -/
def butD (d : Addr) (H : Hp) : Hp := fun x => if x = d then none else H x
theorem but_ex (d : Addr) (H : Hp) : Ex (butD d H) H := fun x o h => by
  unfold butD at h
  split at h
  · cases h
  · exact h
theorem but_at {d x : Addr} {H : Hp} (n : x ≠ d) : butD d H x = H x := if_neg n
theorem but_dr {H0 H : Hp} {d : Addr} (e : Ex H0 H) (D : Dr H0 H d) : Dr (butD d H) H d := by
  obtain ⟨⟨a, ns, i, j, k, l, h1, h2, h3⟩, o⟩ := D
  refine ⟨⟨a, ns, i, j, k, l, h1, ?_, h3⟩, if_pos rfl⟩
  have n : a ≠ d := fun z => by rw [z, o] at h2; cases h2
  rw [but_at n]
  exact e _ _ h2
theorem but_none {d x : Addr} {H : Hp} (h : H x = none) : butD d H x = none := by
  unfold butD
  split
  · rfl
  · exact h
theorem but_up {d : Addr} {H0 H : Hp} (e : Ex H0 H) (h : H0 d = none) : Ex H0 (butD d H) := fun x o q => by
  rw [but_at (fun z => by rw [z, h] at q; cases q)]
  exact e _ _ q
end Rt

namespace Rt
open PySem PySem.Spec PyProof.Rows L2 RZ TL LamX
/-! ### keen tracks: few keys -/
def RiseE (es : List Evt) : Prop := ∀ j x y, es[j]? = some x → es[j + 1]? = some y → x.tick ≤ y.tick
/-- a drawn track: a list of events, the list itself not settled -/
def spKeen : Sp := fun vs H Q _ => ∃ (d : Addr) (m : Nat) (H0 : Hp), vs = [.ref d, .int (m : Int)] ∧ m ≤ 1000 ∧ Ex H0 H ∧ Dr H0 H d ∧
  ∀ (p : Addr) (ps : List Addr) (es : List Evt) (G0 H' : Hp), Go (· = d) H0 H G0 H' → Dr G0 H' d → H p = none → H' p = some (.lst (ps.map V.ref)) → G0 p = none → Evs G0 ps (es.map Evt.v) → es.length ≤ m → (∀ e ∈ es, e.Ok) → RiseE es → Q (.ref p) H'
/-- pairs of a channel and a key, settled -/
def Pairs (G : Hp) (vs : List V) : Prop := ∀ v ∈ vs, ∃ q c k, v = .ref q ∧ G q = some (.tup [.int c, .int k]) ∧ (0 ≤ c ∧ c ≤ 15) ∧ (0 ≤ k ∧ k ≤ 127)
theorem Pairs.up {G G' : Hp} {vs : List V} (h : Pairs G vs) (x : Ex G G') : Pairs G' vs := fun v hv => by
  obtain ⟨q, c, k, e, h1, h2⟩ := h v hv
  exact ⟨q, c, k, e, x _ _ h1, h2⟩
theorem Pairs.snoc {G : Hp} {vs : List V} {q : Addr} {c k : Int} (h : Pairs G vs) (hq : G q = some (.tup [.int c, .int k])) (hc : 0 ≤ c ∧ c ≤ 15) (hk : 0 ≤ k ∧ k ≤ 127) : Pairs G (vs ++ [.ref q]) := fun v hv => by
  rcases List.mem_append.mp hv with h1 | h1
  · exact h v h1
  · exact ⟨q, c, k, List.mem_singleton.mp h1, hq, hc, hk⟩
theorem RiseE.snoc {es : List Evt} {e : Evt} (h : RiseE es) (hl : ∀ x ∈ es, x.tick ≤ e.tick) : RiseE (es ++ [e]) := fun j x y hx hy => by
  have ly := (List.getElem?_eq_some_iff.mp hy).1
  rw [List.length_append] at ly
  have ly : j + 1 < es.length + 1 := ly
  rw [List.getElem?_append_left (by omega)] at hx
  by_cases c : j + 1 < es.length
  · rw [List.getElem?_append_left c] at hy
    exact h j x y hx hy
  · rw [List.getElem?_append_right (by omega), show j + 1 - es.length = 0 by omega] at hy
    cases hy
    exact hl x (List.mem_of_getElem? hx)
theorem TrS.nw {d : Addr} {H0 B : Hp} {p : Addr} {ps : List Addr} {evs : List (List V)} {G H : Hp} {x : Addr} (T : TrS d H0 B p ps evs G H) (o : HO) (h : H x = none) :
    ∃ G' H', upd H x o = H' ∧ TrS d H0 B p ps evs G' H' ∧ G' x = some o ∧ Ex G G' := ⟨_, _, rfl, T.put o h, upd_same, Ex.new (T.S.ex.free h)⟩
theorem evt_of {t : Int} {ys : List V} (h0 : 0 ≤ t) (h1 : t ≤ 999999) (h : thingOk ys = true) (hl : ys.length ≤ 4) : ∃ e : Evt, .int t :: ys = e.v ∧ e.Ok ∧ e.tick = t := by
  obtain ⟨e, he, ok⟩ := good_evt (good_mk h0 h1 h hl).1
  refine ⟨e, he, ok, ?_⟩
  rw [← Evt.tick_v, ← he]
  rfl
end Rt

namespace Rt
open PySem PySem.Spec PyProof.Rows L2
/-! ### objects: making one, its methods, its length -/
/-- a class of the text, at C -/
structure ClsT (K : PySem.W.Frag) (mg : Str → Option Value) (x : Str) (C : Addr) : Prop where
  cl : Cls K C
  mks : PySem.W.makesIn K C = true
  kp : PySem.W.keepIn K (.ref C) = true
  mgC : mg x = some (.ref C)
section
variable {X : Cx} {CX : CXT} {x : Str} {p pos : Pos} {j k : Nat} {C f : Addr} {fd : FuncData} {ps : List Str} {sp : Sp}
theorem pe_new0 (c : C8.Mak X.prog X.w X.K X.mg X.base k x C sp []) (hr : Room j X.A) (hk : k + 1 ≤ j) (hg : Gl X x) (hdb : (x == ("__debug__" : Str)) = false := by decide) : PE X (.Call (.Name x p) [] [] pos) (tMake C sp [] E0 tNil) := by
  obtain ⟨f, fd, ps, ds, M, F, hm, b, d⟩ := c.ex
  exact pe_make0 M F (hr.mono hk) hg hm b d pass0 hdb
/-- a call of a def within a built-in, one frame deeper -/
theorem call_in1 {pins : List (Addr × Obj)} {σ : L2.St} {H : Hp} {s : Shared} {us : List Value} {vs : List V} {Q : VK} (F : FnOk X.prog X.w X.K X.mg X.base CX0 k f fd ps sp) (hr : Room (k + 1) X.A) (hb : Binds X.K fd ps []) (I : Inv X pins σ H s) (rv : Vals vs us) (h : sp vs H Q E0) {E' : Value → Shared → Prop} :
    wpAny (model X.prog X.w) X.A.in1 (call (.ref f) us) (EP X pins σ Q) E' s := by
  have hl : (us ++ []).length = ps.length := by
    rw [List.append_nil, ← F.len _ _ _ _ h, rv.length]
  refine wpAny_call (codeAny_mono (F.run X.A.in1 X.stack s H ⟨us, []⟩ (us ++ []) vs Q E0 hr.in1 I.env0.in1 (hb _ us I.kIn hl) (by rw [List.append_nil]; exact rv) h) fun r s' hq => ?_)
  cases r with
  | error er =>
    have z := (pass0 : Passes CX0 X.nox E0) pins σ H s er s' (I.wish _) hq
    exact False.elim z
  | ok fl =>
    cases fl with
    | ret u =>
      obtain ⟨v, H', I3, r3, q3⟩ := I.after hq
      exact ⟨v, H', I3, r3, q3⟩
    | next => exact False.elim hq
    | brk => exact False.elim hq
    | cont => exact False.elim hq
/-- len(o), by the class's own __len__ -/
def rLenO (C : Addr) (sp : Sp) : List V → Hp → VK → Prop := fun xs H Q => ∃ a dx fs, xs = [V.ref a] ∧ H a = some (.ins C dx fs) ∧ sp [.ref a] H (fun v H' => ∃ n : Int, v = .int n ∧ 0 ≤ n ∧ n < 2 ^ 63 ∧ Q (.int n) H') E0
theorem cr_lenO (M : Meth X.K C "__len__" f) (F : FnOk X.prog X.w X.K X.mg X.base CX0 k f fd ps sp) (hr : Room (k + 1) X.A) (hb : Binds X.K fd ps []) : CallR X (.builtin "len") (rLenO C sp) := by
  intro pins s σ H xs us Q I r h
  obtain ⟨a, dx, fs, rfl, ea, h⟩ := h
  obtain ⟨u, rfl, rx⟩ := vals1 r
  cases rx
  obtain ⟨mA, O, _⟩ := ins_get I.hok ea
  obtain ⟨od, J, _⟩ := O.look
  refine Calls.call_function_entry PySem.kind_len PySem.plain_len
    PySem.entry_len (PySem.args_len1 _) ?_
  unfold Builtin.«len»
  refine wpAny_bind (m := oneArg "len" _) (wpAny_pure ?_)
  have go := call_in1 (E' := X.xe) (us := [.ref a]) (vs := [.ref a]) F hr hb I (.cons rfl .nil) h
  refine wpAny_bind (m := callSpecial? (.ref a) (Str.ofString "__len__"))
    (PySem.W.special_fn I.kIn J M.at_ (beq_iff_eq.mp M.fn) (wpAny_mono go (fun v s' z => ?_) fun _ _ y => y))
  obtain ⟨v', H', I', rv, n, rfl, n0, n1, q⟩ := z
  obtain ⟨t, rfl⟩ : ∃ t, v = Value.int n t := rv
  refine wpAny_bind (wpAny_holding (wpAny_pure ?_))
  refine wpAny_bind (wpAny_letGo ?_)
  show wpAny _ _ (if n < 0 then _ else _) _ _ _
  rw [if_neg (by omega)]
  show wpAny _ _ (if n ≥ 2 ^ 63 then _ else _) _ _ _
  rw [if_neg (by omega)]
  refine wpAny_bind (wpAny_mkInt (wpAny_pure ⟨_, rfl, ?_⟩))
  exact ⟨.int n, H', I'.tok _, ⟨_, rfl⟩, q⟩
end
end Rt

namespace Rt
open PySem PySem.Spec PyProof.Rows L2 RZ TL LamX
/-! ### rows of numbers -/
/-- rows of numbers stand as tuples at the addresses -/
def Rws (G : Hp) (qs : List Addr) (rs : List (List Int)) : Prop := Paired (fun q ns => G q = some (.tup (ns.map V.int))) qs rs
theorem Rws.up {G G' : Hp} {qs : List Addr} {rs : List (List Int)} (h : Rws G qs rs) (x : Ex G G') : Rws G' qs rs := Paired.mapP h fun _ _ z => x _ _ z
theorem Rws.len {G : Hp} {qs : List Addr} {rs : List (List Int)} (h : Rws G qs rs) : qs.length = rs.length := Paired.length h
theorem pairedApp {α β : Type} {F : α → β → Prop} : ∀ {a c : List α} {b d : List β}, Paired F a b → Paired F c d → Paired F (a ++ c) (b ++ d)
  | _, _, _, _, .nil, h => h
  | _, _, _, _, .cons r t, h => .cons r (pairedApp t h)
theorem pairedTake {α β : Type} {F : α → β → Prop} : ∀ {a : List α} {b : List β} (n : Nat), Paired F a b → Paired F (a.take n) (b.take n)
  | _, _, 0, _ => .nil
  | _, _, n + 1, .nil => .nil
  | _, _, n + 1, .cons r t => .cons r (pairedTake n t)
theorem pairedDrop {α β : Type} {F : α → β → Prop} : ∀ {a : List α} {b : List β} (n : Nat), Paired F a b → Paired F (a.drop n) (b.drop n)
  | _, _, 0, h => h
  | _, _, n + 1, .nil => .nil
  | _, _, n + 1, .cons r t => pairedDrop n t
theorem pairedAt {α β : Type} {F : α → β → Prop} : ∀ {l : List α} {m : List β}, Paired F l m → ∀ {i : Nat} {x : α}, l[i]? = some x → ∃ y, m[i]? = some y ∧ F x y
  | _, _, .nil, i, x, h => by simp at h
  | _, _, .cons r t, 0, x, h => by
    cases h
    exact ⟨_, rfl, r⟩
  | _, _, .cons r t, i + 1, x, h => pairedAt t (i := i) h
/-- the rows of a thing: what stands behind its word -/
def Evt.row : Evt → List Int
  | .key _ _ c k f => [c, k, f]
  | .knob _ c k v => [c, k, v]
  | .voice _ c v => [c, v]
  | .mark .. => []
def rck (r : List Int) : Int × Int := (r.getD 0 0, r.getD 1 0)
def leCK (a b : Int × Int) : Bool := decide (a.1 < b.1 ∨ a.1 = b.1 ∧ a.2 ≤ b.2)
def delF (p : List Int → Bool) : List (List Int) → List (List Int)
  | [] => []
  | x :: xs => if p x = true then xs else x :: delF p xs
theorem delF_none {p : List Int → Bool} : ∀ {S : List (List Int)}, (∀ x ∈ S, p x = false) → delF p S = S
  | [], _ => rfl
  | x :: xs, h => by
    unfold delF
    rw [if_neg (by rw [h x (.head _)]; exact Bool.false_ne_true), delF_none fun y hy => h y (.tail _ hy)]
theorem delF_at {p : List Int → Bool} : ∀ {S : List (List Int)} {i : Nat} {x : List Int}, S[i]? = some x → p x = true → (∀ y ∈ S.take i, p y = false) → delF p S = S.take i ++ S.drop (i + 1)
  | [], i, x, h, _, _ => by simp at h
  | y :: ys, 0, x, h, hp, _ => by
    cases h
    unfold delF
    rw [if_pos hp]
    rfl
  | y :: ys, i + 1, x, h, hp, hn => by
    unfold delF
    rw [if_neg (by rw [hn y (.head _)]; exact Bool.false_ne_true), delF_at (S := ys) (i := i) (x := x) h hp fun z hz => hn z (.tail _ hz)]
    rfl
/-- what sounds behind one thing more -/
def insN (S : List (List Int)) (r : List Int) : List (List Int) := let n := (S.filter fun x => leCK (rck x) (rck r)).length; S.take n ++ [r] ++ S.drop n
def sndA (S : List (List Int)) : Evt → List (List Int)
  | .key true _ c k f => insN S [c, k, f]
  | .key false _ c k _ => delF (fun x => decide (rck x = (c, k))) S
  | _ => S
/-- rising rows -/
def leR (a b : List Int) : Bool := decide (TS.code 128 a ≤ TS.code 128 b)
def srt (rs : List (List Int)) : List (List Int) := rs.mergeSort leR
/-- what is set behind one thing more -/
def setA (rs : List (List Int)) (r : List Int) : List (List Int) := let kept := rs.filter fun x => decide (x.dropLast ≠ r.dropLast); if r.getLastD 0 = 0 then kept else srt (kept ++ [r])
structure Sta where
  snd : List (List Int)
  knb : List (List Int)
  voi : List (List Int)
def Sta.nil : Sta := ⟨[], [], []⟩
def Sta.after (s : Sta) (e : Evt) : Sta :=
  ⟨sndA s.snd e, (match e with | .knob .. => setA s.knb e.row | _ => s.knb), (match e with | .voice .. => setA s.voi e.row | _ => s.voi)⟩
/-- each row has d numbers from 0 to 127 -/
def RowsB (d : Nat) (rs : List (List Int)) : Prop := ∀ r ∈ rs, r.length = d ∧ TS.Bd 128 r
structure Sta.Ok (s : Sta) (n : Nat) : Prop where
  b1 : RowsB 3 s.snd
  b2 : RowsB 3 s.knb
  b3 : RowsB 2 s.voi
  l1 : s.snd.length ≤ n
  l2 : s.knb.length ≤ n
  l3 : s.voi.length ≤ n
theorem Evt.Ok.row {e : Evt} (h : e.Ok) : TS.Bd 128 e.row := by
  intro m hm
  cases e with
  | key b t c k f =>
    have h4 : low b ≤ f ∧ f ≤ 127 := h.2.2.2
    have h5 : (0 : Int) ≤ low b := by cases b <;> decide
    simp only [Evt.row, List.mem_cons, List.mem_nil_iff, or_false] at hm
    rcases hm with rfl | rfl | rfl
    · exact ⟨h.2.1.1, by have := h.2.1.2; omega⟩
    · exact ⟨h.2.2.1.1, by have := h.2.2.1.2; omega⟩
    · exact ⟨by omega, by omega⟩
  | knob t c k v =>
    simp only [Evt.row, List.mem_cons, List.mem_nil_iff, or_false] at hm
    rcases hm with rfl | rfl | rfl
    · exact ⟨h.2.1.1, by have := h.2.1.2; omega⟩
    · exact ⟨h.2.2.1.1, by have := h.2.2.1.2; omega⟩
    · exact ⟨h.2.2.2.1, by have := h.2.2.2.2; omega⟩
  | voice t c v =>
    simp only [Evt.row, List.mem_cons, List.mem_nil_iff, or_false] at hm
    rcases hm with rfl | rfl
    · exact ⟨h.2.1.1, by have := h.2.1.2; omega⟩
    · exact ⟨h.2.2.1, by have := h.2.2.2; omega⟩
  | mark t s => exact nomatch hm
theorem RowsB.filter {d : Nat} {rs : List (List Int)} (h : RowsB d rs) (p : List Int → Bool) : RowsB d (rs.filter p) := fun r hr => h r (List.mem_filter.mp hr).1
theorem RowsB.app {d : Nat} {rs qs : List (List Int)} (h : RowsB d rs) (h2 : RowsB d qs) : RowsB d (rs ++ qs) := fun r hr => (List.mem_append.mp hr).elim (h r) (h2 r)
theorem RowsB.one {d : Nat} {r : List Int} (h : r.length = d) (h2 : TS.Bd 128 r) : RowsB d [r] := fun x hx => by rw [List.mem_singleton.mp hx]; exact ⟨h, h2⟩
theorem RowsB.sub {d : Nat} {rs qs : List (List Int)} (h : RowsB d rs) (x : ∀ r ∈ qs, r ∈ rs) : RowsB d qs := fun r hr => h r (x r hr)
theorem delF_sub (p : List Int → Bool) : ∀ (S : List (List Int)) (r : List Int), r ∈ delF p S → r ∈ S
  | [], r, h => h
  | x :: xs, r, h => by
    unfold delF at h
    split at h
    · exact .tail _ h
    · rcases List.mem_cons.mp h with rfl | h
      · exact .head _
      · exact .tail _ (delF_sub p xs r h)
theorem delF_len (p : List Int → Bool) : ∀ (S : List (List Int)), (delF p S).length ≤ S.length
  | [] => Nat.le_refl _
  | x :: xs => by
    unfold delF
    split
    · exact Nat.le_succ _
    · exact Nat.succ_le_succ (delF_len p xs)
theorem insN_mem {S : List (List Int)} {r x : List Int} : x ∈ insN S r ↔ x = r ∨ x ∈ S := by
  unfold insN
  dsimp only
  generalize (S.filter fun x => leCK (rck x) (rck r)).length = n
  rw [List.append_assoc, List.mem_append, List.mem_append, List.mem_singleton]
  refine ⟨fun h => ?_, fun h => ?_⟩
  · rcases h with h | h | h
    · exact .inr (List.mem_of_mem_take h)
    · exact .inl h
    · exact .inr (List.mem_of_mem_drop h)
  · rcases h with h | h
    · exact .inr (.inl h)
    · rw [← List.take_append_drop n S, List.mem_append] at h
      exact h.elim .inl fun z => .inr (.inr z)
theorem insN_len (S : List (List Int)) (r : List Int) : (insN S r).length = S.length + 1 := by
  unfold insN
  dsimp only
  generalize (S.filter fun x => leCK (rck x) (rck r)).length = n
  rw [List.length_append, List.length_append, List.length_take, List.length_drop, List.length_singleton]
  omega
theorem srt_mem {rs : List (List Int)} {r : List Int} : r ∈ srt rs ↔ r ∈ rs := (List.mergeSort_perm rs leR).mem_iff
theorem srt_len (rs : List (List Int)) : (srt rs).length = rs.length := (List.mergeSort_perm rs leR).length_eq
theorem setA_ok {d n : Nat} {rs : List (List Int)} {r : List Int} (h : RowsB d rs) (hr : r.length = d) (hb : TS.Bd 128 r) (hl : rs.length ≤ n) : RowsB d (setA rs r) ∧ (setA rs r).length ≤ n + 1 := by
  unfold setA
  dsimp only
  have l := List.length_filter_le (fun x => decide (x.dropLast ≠ r.dropLast)) rs
  split
  · exact ⟨h.filter _, by omega⟩
  · refine ⟨((h.filter _).app (.one hr hb)).sub fun x hx => srt_mem.mp hx, ?_⟩
    rw [srt_len, List.length_append, List.length_singleton]
    omega
theorem Sta.Ok.after {s : Sta} {n : Nat} {e : Evt} (h : s.Ok n) (he : e.Ok) : (s.after e).Ok (n + 1) := by
  have hb := he.row
  have sn : RowsB 3 (sndA s.snd e) ∧ (sndA s.snd e).length ≤ n + 1 := by
    cases e with
    | key b t c k f =>
      cases b with
      | true => exact ⟨fun x hx => (insN_mem.mp hx).elim (fun z => by rw [z]; exact ⟨rfl, hb⟩) (h.b1 x), by show (insN _ _).length ≤ _; rw [insN_len]; have := h.l1; omega⟩
      | false => exact ⟨h.b1.sub (delF_sub _ _), Nat.le_succ_of_le (Nat.le_trans (delF_len _ _) h.l1)⟩
    | knob t c k v => exact ⟨h.b1, Nat.le_succ_of_le h.l1⟩
    | voice t c v => exact ⟨h.b1, Nat.le_succ_of_le h.l1⟩
    | mark t x => exact ⟨h.b1, Nat.le_succ_of_le h.l1⟩
  cases e with
  | key b t c k f => exact ⟨sn.1, h.b2, h.b3, sn.2, Nat.le_succ_of_le h.l2, Nat.le_succ_of_le h.l3⟩
  | knob t c k v =>
    have z := setA_ok (r := [c, k, v]) h.b2 rfl hb h.l2
    exact ⟨sn.1, z.1, h.b3, sn.2, z.2, Nat.le_succ_of_le h.l3⟩
  | voice t c v =>
    have z := setA_ok (r := [c, v]) h.b3 rfl hb h.l3
    exact ⟨sn.1, h.b2, z.1, sn.2, Nat.le_succ_of_le h.l2, z.2⟩
  | mark t x => exact ⟨sn.1, h.b2, h.b3, sn.2, Nat.le_succ_of_le h.l2, Nat.le_succ_of_le h.l3⟩
theorem Sta.Ok.nil : Sta.nil.Ok 0 := ⟨(fun _ h => nomatch h), (fun _ h => nomatch h), (fun _ h => nomatch h), Nat.le_refl _, Nat.le_refl _, Nat.le_refl _⟩
/-- the order of tuples of two -/
theorem le_pair (a b c d : Int) : Ob.lexAt (fun j => decide (([a, b] : List Int).getD j 0 = ([c, d] : List Int).getD j 0)) (fun j => decide (([a, b] : List Int).getD j 0 ≤ ([c, d] : List Int).getD j 0)) (decide (([a, b] : List Int).length ≤ ([c, d] : List Int).length)) 0 (min ([a, b] : List Int).length ([c, d] : List Int).length) = leCK (a, b) (c, d) := by
  show (if decide (a = c) = true then (if decide (b = d) = true then true else decide (b ≤ d)) else decide (a ≤ c)) = decide (a < c ∨ a = c ∧ b ≤ d)
  by_cases h1 : a = c
  · rw [if_pos (decide_eq_true h1)]
    by_cases h2 : b = d
    · rw [if_pos (decide_eq_true h2), decide_eq_true (.inr ⟨h1, by omega⟩)]
    · rw [if_neg (fun z => h2 (of_decide_eq_true z))]
      by_cases h3 : b ≤ d
      · rw [decide_eq_true h3, decide_eq_true (.inr ⟨h1, h3⟩)]
      · rw [decide_eq_false h3, decide_eq_false (fun z => z.elim (by omega) fun y => h3 y.2)]
  · rw [if_neg (fun z => h1 (of_decide_eq_true z))]
    by_cases h3 : a ≤ c
    · rw [decide_eq_true h3, decide_eq_true (.inl (by omega))]
    · rw [decide_eq_false h3, decide_eq_false (fun z => z.elim (by omega) fun y => h1 y.1)]
/-! ### sorted rows -/
theorem code_inj : ∀ {r q : List Int}, r.length = q.length → TS.Bd 128 r → TS.Bd 128 q → TS.code 128 r = TS.code 128 q → r = q
  | [], [], _, _, _, _ => rfl
  | x :: r, y :: q, hl, hr, hq, e => by
    have hl' : r.length = q.length := by simpa using hl
    rcases Int.lt_trichotomy x y with h | h | h
    · have := TS.code_lt hl' hr.tail hq.tail h
      omega
    · subst h
      have e' : TS.code 128 r = TS.code 128 q := by
        have e : x * 128 ^ r.length + TS.code 128 r = x * 128 ^ q.length + TS.code 128 q := e
        rw [hl'] at e
        omega
      rw [code_inj hl' hr.tail hq.tail e']
    · have := TS.code_lt hl'.symm hq.tail hr.tail h
      omega
theorem srt_sorted (rs : List (List Int)) : (srt rs).Pairwise fun a b => TS.code 128 a ≤ TS.code 128 b := by
  have := List.pairwise_mergeSort (le := leR) (fun a b c h1 h2 => decide_eq_true (Int.le_trans (of_decide_eq_true h1) (of_decide_eq_true h2))) (fun a b => by
    unfold leR
    rcases Int.le_total (TS.code 128 a) (TS.code 128 b) with h | h
    · rw [decide_eq_true h]; rfl
    · rw [decide_eq_true h, Bool.or_true]) rs
  exact this.imp fun h => of_decide_eq_true h
/-- what is sorted is the sorted one -/
theorem srt_eq {d : Nat} {rs ys : List (List Int)} (hb : RowsB d rs) (hp : ys.Perm rs) (hs : ys.Pairwise fun a b => TS.code 128 a ≤ TS.code 128 b) : ys = srt rs := by
  refine List.Perm.eq_of_pairwise (le := fun a b => TS.code 128 a ≤ TS.code 128 b) (fun a b ha hb' h1 h2 => ?_) hs (srt_sorted rs) (hp.trans (List.mergeSort_perm rs leR).symm)
  have ra := hb a (hp.mem_iff.mp ha)
  have rb := hb b (srt_mem.mp hb')
  exact code_inj (by rw [ra.1, rb.1]) ra.2 rb.2 (Int.le_antisymm h1 h2)
theorem _root_.Rt.ne_sy {α : Type} {a b : α} (h : ¬ a = b) : ¬ b = a := fun z => h z.symm
theorem eqvAll_ints : ∀ ns ms : List Int, PyData.eqvAll (ns.map PyData.int) (ms.map PyData.int) = decide (ns = ms)
  | [], [] => by simp [PyData.eqvAll]
  | [], _ :: _ => by simp [PyData.eqvAll]
  | _ :: _, [] => by simp [PyData.eqvAll]
  | a :: r, b :: t => by
    simp only [List.map_cons, PyData.eqvAll, PyData.eqv, eqvAll_ints r t]
    by_cases h : a = b <;> by_cases h2 : r = t <;> simp [h, h2]
theorem eqv_tup (ns ms : List Int) : PyData.eqv (.tuple (ns.map PyData.int)) (.tuple (ms.map PyData.int)) = decide (ns = ms) := by
  rw [PyData.eqv]
  exact eqvAll_ints ns ms
theorem shaped_tup (r : List Int) : SeqAt.shaped (.tuple (r.map PyData.int)) = true := PySem.W.ke_shaped_ints r
theorem dp_ints {K : PySem.W.Frag} {H : Hp} : ∀ r : List Int, DpAll K H (r.map V.int) (r.map PyData.int)
  | [] => .nil
  | _ :: r => .cons (.int _) (dp_ints r)
theorem dp_tupI {K : PySem.W.Frag} {H : Hp} {a : Addr} {r : List Int} (h : SqT K H a (r.map V.int)) : Dp K H (.ref a) (.tuple (r.map PyData.int)) := .tup h (dp_ints r)
theorem sIx_neg1 (n : Nat) : HT.sIx n n (some (-1)) = n - 1 := by
  show ((-1 : Int) + (n : Int)).toNat = n - 1
  omega
theorem cut_last (r : List Int) : cutV (r.map V.int) none (some (-1)) = r.dropLast.map V.int := by
  unfold cutV
  rw [sIx_neg1, List.length_map]
  show (List.drop 0 (r.map V.int)).take (r.length - 1 - 0) = _
  rw [List.drop_zero, Nat.sub_zero, ← List.map_take, List.dropLast_eq_take]
def intV : V → Int
  | .int i => i
  | _ => 0
def adr : V → Addr
  | .ref q => q
  | _ => 0
def rowOf (G : Hp) (v : V) : List Int := match G (adr v) with
  | some (.tup vs) => vs.map intV
  | _ => []
theorem rowOf_eq {G : Hp} {q : Addr} {ns : List Int} (h : G q = some (.tup (ns.map V.int))) : rowOf G (.ref q) = ns := by
  show (match G q with | some (.tup vs) => vs.map intV | _ => []) = ns
  rw [h]
  dsimp only
  rw [List.map_map]
  exact (List.map_congr_left fun _ _ => rfl).trans (List.map_id ns)
theorem rws_map {G : Hp} : ∀ {qs : List Addr} {rs : List (List Int)}, Rws G qs rs → (qs.map V.ref).map (rowOf G) = rs
  | _, _, .nil => rfl
  | _, _, .cons h t => by
    rw [List.map_cons, List.map_cons, rowOf_eq h, rws_map t]
theorem rws_mem {G : Hp} : ∀ {qs : List Addr} {rs : List (List Int)}, Rws G qs rs → ∀ v ∈ qs.map V.ref, ∃ (q : Addr) (ns : List Int), v = V.ref q ∧ G q = some (.tup (ns.map V.int)) ∧ ns ∈ rs
  | _, _, .nil, v, h => nomatch h
  | _, _, .cons h t, v, hv => by
    rcases List.mem_cons.mp hv with e | hv
    · exact ⟨_, _, e, h, .head _⟩
    · obtain ⟨q, ns, e, h1, h2⟩ := rws_mem t v hv
      exact ⟨q, ns, e, h1, .tail _ h2⟩
theorem rws_of {G : Hp} : ∀ ys : List V, (∀ v ∈ ys, ∃ (q : Addr) (ns : List Int), v = V.ref q ∧ G q = some (.tup (ns.map V.int))) → ys = (ys.map adr).map V.ref ∧ Rws G (ys.map adr) (ys.map (rowOf G))
  | [], _ => ⟨rfl, .nil⟩
  | v :: ys, h => by
    obtain ⟨h1, h2⟩ := rws_of ys fun u hu => h u (.tail _ hu)
    obtain ⟨q, ns, rfl, hq⟩ := h v (.head _)
    refine ⟨by rw [List.map_cons, List.map_cons, ← h1]; rfl, ?_⟩
    rw [List.map_cons, List.map_cons, rowOf_eq hq]
    exact .cons hq h2
/-- sorted references are those of the sorted rows -/
theorem sorted_rows {K : PySem.W.Frag} {G H : Hp} {d : Nat} {qs : List Addr} {rs : List (List Int)} {ys : List V} (h : Rws G qs rs) (hb : RowsB d rs) (e : Ex G H) (hp : ys.Perm (qs.map V.ref)) (hs : ys.Pairwise fun x y => ∀ n m, TupI K H x n → TupI K H y m → TS.code 128 n ≤ TS.code 128 m) :
    ∃ ks, ys = ks.map V.ref ∧ Rws G ks (srt rs) := by
  have mem : ∀ v ∈ ys, ∃ (q : Addr) (ns : List Int), v = V.ref q ∧ G q = some (.tup (ns.map V.int)) := fun v hv => by
    obtain ⟨q, ns, h1, h2, _⟩ := rws_mem h v (hp.mem_iff.mp hv)
    exact ⟨q, ns, h1, h2⟩
  obtain ⟨h1, h2⟩ := rws_of ys mem
  refine ⟨ys.map adr, h1, ?_⟩
  have pm : (ys.map (rowOf G)).Perm rs := by
    have := hp.map (rowOf G)
    rwa [rws_map h] at this
  have ps : (ys.map (rowOf G)).Pairwise fun a b => TS.code 128 a ≤ TS.code 128 b := by
    rw [List.pairwise_map]
    refine hs.imp_of_mem fun {a b} ha hb' z => ?_
    obtain ⟨q, ns, rfl, hq⟩ := mem a ha
    obtain ⟨q2, ns2, rfl, hq2⟩ := mem b hb'
    rw [rowOf_eq hq, rowOf_eq hq2]
    exact z _ _ ⟨q, rfl, SqT.of (e _ _ hq)⟩ ⟨q2, rfl, SqT.of (e _ _ hq2)⟩
  rw [← srt_eq hb pm ps]
  exact h2
/-- a thing in memory: an event's tuple without its tick -/
def Evt.th (e : Evt) : List V := e.v.drop 1
theorem last_row {e : Evt} (h : 1 ≤ e.row.length) : ∃ j : Nat, e.th[j]? = some (.int (e.row.getLastD 0)) ∧ j + 1 = e.th.length := by
  cases e with
  | key b t c k f => exact ⟨3, rfl, rfl⟩
  | knob t c k v => exact ⟨3, rfl, rfl⟩
  | voice t c v => exact ⟨2, rfl, rfl⟩
  | mark t x => exact absurd h (by show ¬ 1 ≤ 0; decide)
theorem th_row {e : Evt} (h : 1 ≤ e.row.length) : cutV e.th (some 1) none = e.row.map V.int := by
  cases e with
  | key b t c k f => rfl
  | knob t c k v => rfl
  | voice t c v => rfl
  | mark t x => exact absurd h (by show ¬ 1 ≤ 0; decide)
/-! ### a stand in memory -/
abbrev fS : Str := "_sounds"
abbrev fK : Str := "_knobs"
abbrev fV : Str := "_voices"
theorem nSK : ¬ (fS = fK) := by decide +kernel
theorem nSV : ¬ (fS = fV) := by decide +kernel
theorem nKV : ¬ (fK = fV) := by decide +kernel
def flds (x y z : V) : List (Str × V) := [(fS, x), (fK, y), (fV, z)]
theorem flds1 (x : V) : putF fS x [] = [(fS, x)] := rfl
theorem flds2 (x y : V) : putF fK y [(fS, x)] = [(fS, x), (fK, y)] := by
  show (if fS = fK then _ else (fS, x) :: putF fK y []) = _
  rw [if_neg nSK]
  rfl
theorem flds3 (x y z : V) : putF fV z [(fS, x), (fK, y)] = flds x y z := by
  show (if fS = fV then _ else (fS, x) :: (if fK = fV then _ else (fK, y) :: putF fV z [])) = _
  rw [if_neg nSV, if_neg nKV]
  rfl
theorem put_s (x y z u : V) : putF fS u (flds x y z) = flds u y z := by
  show (if fS = fS then (fS, u) :: _ else _) = _
  rw [if_pos rfl]
  rfl
theorem put_k (x y z u : V) : putF fK u (flds x y z) = flds x u z := by
  show (if fS = fK then _ else (fS, x) :: (if fK = fK then (fK, u) :: _ else _)) = _
  rw [if_neg nSK, if_pos rfl]
  rfl
theorem put_v (x y z u : V) : putF fV u (flds x y z) = flds x y u := by
  show (if fS = fV then _ else (fS, x) :: (if fK = fV then _ else (fK, y) :: (if fV = fV then (fV, u) :: _ else _))) = _
  rw [if_neg nSV, if_neg nKV, if_pos rfl]
  rfl
theorem flds_chain (x y z : V) : flds x y z = putF fV z (putF fK y (putF fS x [])) := by rw [flds1, flds2, flds3]
theorem look_s (x y z : V) : (flds x y z).lookup fS = some x := by
  rw [flds_chain, lookup_putF, if_neg nSV, lookup_putF, if_neg nSK, lookup_putF, if_pos rfl]
theorem look_k (x y z : V) : (flds x y z).lookup fK = some y := by
  rw [flds_chain, lookup_putF, if_neg nKV, lookup_putF, if_pos rfl]
theorem look_v (x y z : V) : (flds x y z).lookup fV = some z := by
  rw [flds_chain, lookup_putF, if_pos rfl]
theorem look_no (x y z : V) {m : Str} (h1 : ¬ m = fS) (h2 : ¬ m = fK) (h3 : ¬ m = fV) : (flds x y z).lookup m = none := by
  rw [flds_chain, lookup_putF, if_neg h3, lookup_putF, if_neg h2, lookup_putF, if_neg h1]
  rfl
/-- a Stand stands at a, settled -/
def StaAt (C : Addr) (G : Hp) (a : Addr) (s : Sta) : Prop := ∃ (dx l1 l2 l3 : Addr) (q1 q2 q3 : List Addr), G a = some (.ins C dx (flds (.ref l1) (.ref l2) (.ref l3))) ∧ G l1 = some (.lst (q1.map V.ref)) ∧ G l2 = some (.lst (q2.map V.ref)) ∧ G l3 = some (.lst (q3.map V.ref)) ∧
  Rws G q1 s.snd ∧ Rws G q2 s.knb ∧ Rws G q3 s.voi
theorem StaAt.up {C : Addr} {G G' : Hp} {a : Addr} {s : Sta} (h : StaAt C G a s) (x : Ex G G') : StaAt C G' a s := by
  obtain ⟨dx, l1, l2, l3, q1, q2, q3, h0, h1, h2, h3, r1, r2, r3⟩ := h
  exact ⟨dx, l1, l2, l3, q1, q2, q3, x _ _ h0, x _ _ h1, x _ _ h2, x _ _ h3, r1.up x, r2.up x, r3.up x⟩
/-- what the text's class Stand is -/
structure StandT (K : PySem.W.Frag) (C : Addr) : Prop where
  cl : Cls K C
  ns : NoAttr K C "_sounds"
  nk : NoAttr K C "_knobs"
  nv : NoAttr K C "_voices"
/-! ### the promises -/
def spSnd : Sp := fun vs H Q _ => ∃ (l t : Addr) (qs : List Addr) (S : List (List Int)) (e : Evt) (H0 : Hp), vs = [.ref l, .ref t] ∧ Ex H0 H ∧ H0 l = some (.lst (qs.map V.ref)) ∧ Rws H0 qs S ∧ RowsB 3 S ∧ H0 t = some (.tup e.th) ∧ S.length ≤ 1000 ∧
  ∀ (p : Addr) (qs' : List Addr) (G H' : Hp), Go (fun _ => False) H0 H G H' → G p = some (.lst (qs'.map V.ref)) → Rws G qs' (sndA S e) → Q (.ref p) H'
def spSet (d : Nat) (ok : Evt → Prop) : Sp := fun vs H Q _ => ∃ (l t : Addr) (qs : List Addr) (S : List (List Int)) (e : Evt) (H0 : Hp), vs = [.ref l, .ref t] ∧ Ex H0 H ∧ H0 l = some (.lst (qs.map V.ref)) ∧ Rws H0 qs S ∧ RowsB d S ∧ H0 t = some (.tup e.th) ∧ ok e ∧ e.Ok ∧ e.row.length = d ∧ S.length ≤ 62 ∧
  ∀ (p : Addr) (qs' : List Addr) (G H' : Hp), Go (fun _ => False) H0 H G H' → G p = some (.lst (qs'.map V.ref)) → Rws G qs' (setA S e.row) → Q (.ref p) H'
def spAfter (C : Addr) : Sp := fun vs H Q _ => ∃ (a t : Addr) (s : Sta) (n : Nat) (e : Evt) (H0 : Hp), vs = [.ref a, .ref t] ∧ Ex H0 H ∧ StaAt C H0 a s ∧ s.Ok n ∧ n ≤ 62 ∧ H0 t = some (.tup e.th) ∧ e.Ok ∧
  ∀ (b : Addr) (G H' : Hp), Go (fun _ => False) H0 H G H' → H b = none → StaAt C G b (s.after e) → Q (.ref b) H'
def spTold (C : Addr) (f : Sta → List (List Int)) : Sp := fun vs H Q _ => ∃ (a : Addr) (s : Sta) (H0 : Hp), vs = [.ref a] ∧ Ex H0 H ∧ StaAt C H0 a s ∧
  ∀ (p : Addr) (qs : List Addr) (H' : Hp), Go (fun _ => False) H0 H H0 H' → H p = none → H' p = some (.lst (qs.map V.ref)) → Rws H0 qs (f s) → Q (.ref p) H'
def spSLen (C : Addr) : Sp := fun vs H Q _ => ∃ (a : Addr) (s : Sta) (H0 : Hp), vs = [.ref a] ∧ Ex H0 H ∧ StaAt C H0 a s ∧ Q (.int ((s.snd.length : Nat) : Int)) H
def spNew (C : Addr) : Sp := fun vs H Q _ => ∃ (x dx : Addr) (H0 : Hp), vs = [.ref x] ∧ Ex H0 H ∧ H x = some (.ins C dx []) ∧ H0 x = none ∧
  ∀ (l1 l2 l3 : Addr) (H' : Hp), Go (· = x) H0 H H0 H' → H' x = some (.ins C dx (flds (.ref l1) (.ref l2) (.ref l3))) → H' l1 = some (.lst []) → H' l2 = some (.lst []) → H' l3 = some (.lst []) → H l1 = none → H l2 = none → H l3 = none → l1 ≠ l2 → l1 ≠ l3 → l2 ≠ l3 → Q .non H'
/-- the stand behind some events, and at a tick -/
def behind (es : List Evt) : Sta := es.foldl Sta.after Sta.nil
def upTo (es : List Evt) (tk : Int) : List Evt := es.filter fun e => decide (e.tick ≤ tk)
def staAt (es : List Evt) (tk : Int) : Sta := behind (upTo es tk)
theorem behind_snoc (es : List Evt) (e : Evt) : behind (es ++ [e]) = (behind es).after e := by
  unfold behind
  rw [List.foldl_append]
  rfl
theorem behind_ok : ∀ (es : List Evt), (∀ e ∈ es, e.Ok) → (behind es).Ok es.length := by
  intro es
  have key : ∀ (es : List Evt) (s : Sta) (n : Nat), s.Ok n → (∀ e ∈ es, e.Ok) → (es.foldl Sta.after s).Ok (n + es.length) := by
    intro es
    induction es with
    | nil => intro s n h _; exact h
    | cons x xs ih =>
      intro s n h hx
      have := ih (s.after x) (n + 1) (h.after (hx x (.head _))) fun e he => hx e (.tail _ he)
      rw [List.length_cons, show n + (xs.length + 1) = n + 1 + xs.length by omega]
      exact this
  intro h
  have := key es Sta.nil 0 Sta.Ok.nil h
  rwa [Nat.zero_add] at this
theorem upTo_snoc {es : List Evt} {j : Nat} {e : Evt} {tk : Int} (h : es[j]? = some e) : upTo (es.take (j + 1)) tk = if e.tick ≤ tk then upTo (es.take j) tk ++ [e] else upTo (es.take j) tk := by
  rw [take_snoc h]
  unfold upTo
  rw [List.filter_append]
  by_cases c : e.tick ≤ tk
  · rw [if_pos c, List.filter_cons_of_pos (p := fun e : Evt => decide (e.tick ≤ tk)) (a := e) (decide_eq_true c)]
    rfl
  · rw [if_neg c, List.filter_cons_of_neg (p := fun e : Evt => decide (e.tick ≤ tk)) (a := e) (by rw [decide_eq_false c]; exact Bool.false_ne_true)]
    exact List.append_nil _
theorem Sta.Ok.mono {s : Sta} {n m : Nat} (h : s.Ok n) (hm : n ≤ m) : s.Ok m := ⟨h.b1, h.b2, h.b3, Nat.le_trans h.l1 hm, Nat.le_trans h.l2 hm, Nat.le_trans h.l3 hm⟩
def spTick : Sp := fun vs H Q _ => ∃ t : Int, vs = [.int t] ∧ 0 ≤ t ∧ t ≤ 999999 ∧ Q .non H
def spStandAt (C : Addr) : Sp := fun vs H Q _ => ∃ (r : Addr) (tk : Int) (ps : List Addr) (es : List Evt) (H0 : Hp), vs = [.ref r, .int tk] ∧ Ex H0 H ∧ H0 r = some (.lst (ps.map V.ref)) ∧ Evs H0 ps (es.map Evt.v) ∧ es.length ≤ 62 ∧ (∀ e ∈ es, e.Ok) ∧ 0 ≤ tk ∧ tk ≤ 999999 ∧
  ∀ (a : Addr) (G H' : Hp), Go (fun _ => False) H0 H G H' → H a = none → StaAt C G a (staAt es tk) → Q (.ref a) H'
theorem cut_th (e : Evt) : cutV e.v (some 1) none = e.th := by cases e <;> rfl
theorem v_tick (e : Evt) : e.v[0]? = some (.int e.tick) := by cases e <;> rfl
theorem v_len (e : Evt) : 1 < e.v.length := by cases e <;> simp [Evt.v]
/-- a new stand is settled -/
theorem settle_new {C x dx m1 m2 m3 : Addr} {H0 B H1 : Hp} (g : Go (fun _ => False) H0 B H0 H1) (hx : H1 x = some (.ins C dx (flds (.ref m1) (.ref m2) (.ref m3)))) (h1 : H1 m1 = some (.lst [])) (h2 : H1 m2 = some (.lst [])) (h3 : H1 m3 = some (.lst []))
    (fx : B x = none) (f1 : B m1 = none) (f2 : B m2 = none) (f3 : B m3 = none) (zx : H0 x = none) (z1 : H0 m1 = none) (z2 : H0 m2 = none) (z3 : H0 m3 = none) (x1 : x ≠ m1) (x2 : x ≠ m2) (x3 : x ≠ m3) (d12 : m1 ≠ m2) (d13 : m1 ≠ m3) (d23 : m2 ≠ m3) :
    ∃ G, Go (fun _ => False) H0 B G H1 ∧ Ex H0 G ∧ StaAt C G x Sta.nil := by
  have g1 := g.set f1 h1 z1
  have g2 := g1.set f2 h2 (by rw [upd_ne d12.symm]; exact z2)
  have g3 := g2.set f3 h3 (by rw [upd_ne d23.symm, upd_ne d13.symm]; exact z3)
  have zx3 : upd (upd (upd H0 m1 (.lst [])) m2 (.lst [])) m3 (.lst []) x = none := by rw [upd_ne x3, upd_ne x2, upd_ne x1]; exact zx
  have g4 := g3.set fx hx zx3
  refine ⟨_, g4, g4.up, dx, m1, m2, m3, [], [], [], upd_same, ?_, ?_, ?_, .nil, .nil, .nil⟩
  · rw [upd_ne x1.symm, upd_ne d13, upd_ne d12, upd_same]; rfl
  · rw [upd_ne x2.symm, upd_ne d23, upd_same]; rfl
  · rw [upd_ne x3.symm, upd_same]; rfl
end Rt

namespace Rt
open PySem PySem.Spec PyProof.Rows L2
/-! ### setdefault of a dict whose keys are tuples -/
def rSetdT : V → List V → Hp → VK → Prop := fun x xs H Q => ∃ (D : Addr) (es : List (List L2.Key × V)) (c : List L2.Key) (kp : Addr) (new : V),
  x = .ref D ∧ xs = [.ref kp, new] ∧ H D = some (.dT es) ∧ H kp = some (.tup (c.map kV)) ∧ es.length < sizeLine ∧
  (∀ old, valV es c = some old → Q old H) ∧ (valV es c = none → Q new (upd H D (.dT (putK es c new))))
theorem mt_setdT {X : Cx} (hu : X.A.units + 1 < cLine) : MtR X "dict.setdefault" rSetdT := by
  intro pins s σ H x xs v us Q I rx rxs h
  obtain ⟨D, es, c, kp, new, rfl, rfl, hD, hk, small, q1, q2⟩ := h
  cases rx
  obtain ⟨u1, u2, rfl, r1, r2⟩ := vals2 rxs
  cases r1
  obtain ⟨sz, sys, ys, rel, dd⟩ := dt_of I.hok hD
  have ysz : ys.length ≤ sizeLine := (Paired.length rel) ▸ sz
  refine call_setdefault_heap (hsz := ysz) (tupleKind_room_in1 hu) (key_of I.hok hk) sys dd (fun p hp => ?_) (fun hn h' dd' same => ?_)
  · have r := rel.val c
    rw [hp] at r
    cases ev : valV es c with
    | none => rw [ev] at r; exact (show False from r).elim
    | some old =>
      rw [ev] at r
      exact ⟨old, H, I.tok _, r, q1 old ev⟩
  · have r := rel.val c
    rw [hn] at r
    cases ev : valV es c with
    | some old => rw [ev] at r; exact (show False from r).elim
    | none =>
      have lp : (putK es c new).length ≤ sizeLine := by
        have := length_putK es c new
        omega
      obtain ⟨ob, e1, e2, g1, g2, g3, g4, _, g5⟩ := dd'
      have mu : L2.Mut (H D) := by rw [hD]; exact True.intro
      have nw := (rel.put c hk r2).keeps (H' := upd H D (.dT (putK es c new))) fun b zs eb => by
        rw [upd_ne (ne_of eb hD (fun z => nomatch z))]
        exact eb
      exact ⟨new, _, d_write (ob := .dT (putK es c new)) (t' := s.toks + _) I mu same ⟨ob, g1⟩ ⟨lp, sys, _, nw, ob, e1, e2, g1, g2, g3, g4, g5⟩, r2, q2 ev⟩
end Rt

namespace Rt
open PySem PySem.Spec PyProof.Rows L2 RZ TL LamX
/-! ### notes led to their ends -/
abbrev Row := Nat × Option Nat
structure NS where
  rows : List Row
  alone : List Nat
  above : List Nat
def Evt.ck : Evt → Option (Int × Int)
  | .key _ _ c k _ => some (c, k)
  | _ => none
def ckAt (es : List Evt) (j : Nat) : Option (Int × Int) := (es[j]?).bind Evt.ck
def isOpen (es : List Evt) (c : Int × Int) (r : Row) : Bool := decide (r.2 = none) && decide (ckAt es r.1 = some c)
def openAt (es : List Evt) (rows : List Row) (c : Int × Int) : List Nat := (rows.filter (isOpen es c)).map (·.1)
def setEnd (rows : List Row) (b i : Nat) : List Row := rows.map fun r => if r.1 = b then (r.1, some i) else r
def stepN (es : List Evt) (i : Nat) (s : NS) : NS := match es[i]? with
  | some (.key true _ c k _) => ⟨s.rows ++ [(i, none)], s.alone, if openAt es s.rows (c, k) = [] then s.above else s.above ++ [i]⟩
  | some (.key false _ c k _) => match openAt es s.rows (c, k) with
    | [] => ⟨s.rows, s.alone ++ [i], s.above⟩
    | b :: _ => ⟨setEnd s.rows b i, s.alone, s.above⟩
  | _ => s
def walkN (es : List Evt) : Nat → NS
  | 0 => ⟨[], [], []⟩
  | i + 1 => stepN es i (walkN es i)
def endV : Option Nat → V
  | none => .non
  | some e => .int (e : Int)
def rowsK (rows : List Row) : List (Key × V) := rows.map fun r => (Sum.inl (r.1 : Int), endV r.2)
theorem rowsK_len (rows : List Row) : (rowsK rows).length = rows.length := List.length_map ..
def Asc (rows : List Row) (i : Nat) : Prop := (rows.map (·.1)).Pairwise (· < ·) ∧ ∀ r ∈ rows, r.1 < i
theorem setEnd_fst (rows : List Row) (b i : Nat) : (setEnd rows b i).map (·.1) = rows.map (·.1) := by
  unfold setEnd
  rw [List.map_map]
  refine List.map_congr_left fun r _ => ?_
  show (if r.1 = b then (r.1, some i) else r).1 = r.1
  split <;> rfl
theorem Asc.up {rows : List Row} {i j : Nat} (h : Asc rows i) (hj : i ≤ j) : Asc rows j := ⟨h.1, fun r hr => Nat.lt_of_lt_of_le (h.2 r hr) hj⟩
theorem Asc.snoc {rows : List Row} {i : Nat} (h : Asc rows i) (v : Option Nat) : Asc (rows ++ [(i, v)]) (i + 1) := by
  refine ⟨?_, fun r hr => ?_⟩
  · rw [List.map_append, List.pairwise_append]
    refine ⟨h.1, List.pairwise_singleton .., fun a ha b hb => ?_⟩
    obtain ⟨r, hr, rfl⟩ := List.mem_map.mp ha
    rw [List.map_singleton, List.mem_singleton] at hb
    rw [hb]
    exact h.2 r hr
  · rcases List.mem_append.mp hr with h1 | h1
    · exact Nat.lt_succ_of_lt (h.2 r h1)
    · rw [List.mem_singleton.mp h1]
      exact Nat.lt_succ_self _
theorem Asc.setE {rows : List Row} {i j b e : Nat} (h : Asc rows i) (hj : i ≤ j) : Asc (setEnd rows b e) j := by
  refine ⟨by rw [setEnd_fst]; exact h.1, fun r hr => ?_⟩
  have h1 : r.1 ∈ (setEnd rows b e).map (·.1) := List.mem_map_of_mem hr
  rw [setEnd_fst] at h1
  obtain ⟨r', hr', e'⟩ := List.mem_map.mp h1
  rw [← e']
  exact Nat.lt_of_lt_of_le (h.2 r' hr') hj
theorem stepN_asc {es : List Evt} {i : Nat} {s : NS} (h : Asc s.rows i) : Asc (stepN es i s).rows (i + 1) := by
  unfold stepN
  split
  · exact h.snoc none
  · split
    · exact h.up (Nat.le_succ i)
    · exact h.setE (Nat.le_succ i)
  · exact h.up (Nat.le_succ i)
theorem walkN_asc (es : List Evt) : ∀ i, Asc (walkN es i).rows i
  | 0 => ⟨List.Pairwise.nil, fun r h => nomatch h⟩
  | i + 1 => stepN_asc (walkN_asc es i)
theorem asc_nd {rows : List Row} {i : Nat} (h : Asc rows i) : (rows.map (·.1)).Nodup := h.1.imp fun a => Nat.ne_of_lt a
theorem row_eq {rows : List Row} (h : (rows.map (·.1)).Nodup) {r s : Row} (hr : r ∈ rows) (hs : s ∈ rows) (e : r.1 = s.1) : r = s := by
  induction rows with
  | nil => exact nomatch hr
  | cons x xs ih =>
    rw [List.map_cons, List.nodup_cons] at h
    rcases List.mem_cons.mp hr with e1 | hr <;> rcases List.mem_cons.mp hs with e2 | hs
    · rw [e1, e2]
    · exact absurd (List.mem_map.mpr ⟨s, hs, by rw [← e, e1]⟩) h.1
    · exact absurd (List.mem_map.mpr ⟨r, hr, by rw [e, e2]⟩) h.1
    · exact ih h.2 hr hs
theorem mem_open {es : List Evt} {rows : List Row} {c : Int × Int} {b : Nat} (h : b ∈ openAt es rows c) : (b, none) ∈ rows ∧ ckAt es b = some c := by
  obtain ⟨r, hr, rfl⟩ := List.mem_map.mp h
  obtain ⟨h1, h2⟩ := List.mem_filter.mp hr
  unfold isOpen at h2
  rw [Bool.and_eq_true] at h2
  have e := of_decide_eq_true h2.1
  refine ⟨?_, of_decide_eq_true h2.2⟩
  rw [← e]
  exact h1
theorem open_snoc (es : List Evt) (rows : List Row) (i : Nat) (c : Int × Int) : openAt es (rows ++ [(i, none)]) c = if ckAt es i = some c then openAt es rows c ++ [i] else openAt es rows c := by
  unfold openAt
  rw [List.filter_append, List.map_append]
  by_cases h : ckAt es i = some c
  · rw [if_pos h, List.filter_cons_of_pos (by unfold isOpen; rw [decide_eq_true h, decide_eq_true rfl]; rfl)]
    rfl
  · rw [if_neg h, List.filter_cons_of_neg (by unfold isOpen; rw [decide_eq_false h, Bool.and_false]; exact Bool.false_ne_true)]
    exact List.append_nil _
theorem open_end {es : List Evt} {rows : List Row} {b i : Nat} {r : List Nat} {c : Int × Int} (hn : (rows.map (·.1)).Nodup) (h : openAt es rows c = b :: r) (c' : Int × Int) :
    openAt es (setEnd rows b i) c' = if c' = c then r else openAt es rows c' := by
  have hb : ckAt es b = some c := (mem_open (es := es) (rows := rows) (c := c) (by rw [h]; exact .head _)).2
  -- what goes is b alone
  have key : openAt es (setEnd rows b i) c' = (openAt es rows c').filter (fun x => decide (x ≠ b)) := by
    clear h
    induction rows with
    | nil => rfl
    | cons x xs ih =>
      rw [List.map_cons, List.nodup_cons] at hn
      have ih := ih hn.2
      unfold openAt setEnd at ih ⊢
      rw [List.map_cons]
      by_cases e : x.1 = b
      · rw [if_pos e, List.filter_cons_of_neg (by show ¬ ((decide (some i = none) && _) = true); rw [decide_eq_false (fun z => nomatch z)]; exact Bool.false_ne_true), ih]
        by_cases p : isOpen es c' x = true
        · rw [List.filter_cons_of_pos p, List.map_cons, List.filter_cons_of_neg (p := fun x => decide (x ≠ b)) (by rw [decide_eq_false (fun z => z e)]; exact Bool.false_ne_true)]
        · rw [List.filter_cons_of_neg p]
      · rw [if_neg e]
        by_cases p : isOpen es c' x = true
        · rw [List.filter_cons_of_pos p, List.filter_cons_of_pos p, List.map_cons, List.map_cons, List.filter_cons_of_pos (p := fun x => decide (x ≠ b)) (decide_eq_true e), ih]
        · rw [List.filter_cons_of_neg p, List.filter_cons_of_neg p, ih]
  rw [key]
  by_cases e : c' = c
  · rw [if_pos e, e, h, List.filter_cons_of_neg (p := fun x => decide (x ≠ b)) (by rw [decide_eq_false (fun z => z rfl)]; exact Bool.false_ne_true)]
    refine List.filter_eq_self.mpr fun x hx => decide_eq_true fun z => ?_
    have nd : (openAt es rows c).Nodup := (List.filter_sublist.map _).nodup hn
    rw [h, List.nodup_cons, ← z] at nd
    exact nd.1 hx
  · rw [if_neg e]
    refine List.filter_eq_self.mpr fun x hx => decide_eq_true fun z => e ?_
    have := (mem_open hx).2
    rw [z, hb] at this
    exact (Option.some.inj this).symm
theorem putK_none {rows : List Row} {i : Nat} (h : ∀ r ∈ rows, r.1 < i) : putK (rowsK rows) (Sum.inl (i : Int)) V.non = rowsK (rows ++ [(i, none)]) := by
  have n : ¬ ((rowsK rows).any (fun kv => decide (kv.1 = Sum.inl (i : Int))) = true) := fun z => by
    obtain ⟨kv, h1, h2⟩ := List.any_eq_true.mp z
    obtain ⟨r, hr, rfl⟩ := List.mem_map.mp h1
    have e : (Sum.inl (r.1 : Int) : Key) = Sum.inl (i : Int) := of_decide_eq_true h2
    have e := Sum.inl.inj e
    have := h r hr
    omega
  unfold putK
  rw [if_neg n]
  unfold rowsK
  rw [List.map_append]
  rfl
theorem putK_end {rows : List Row} {b i : Nat} {v : Option Nat} (h : (b, v) ∈ rows) : putK (rowsK rows) (Sum.inl (b : Int)) (V.int (i : Int)) = rowsK (setEnd rows b i) := by
  have n : (rowsK rows).any (fun kv => decide (kv.1 = Sum.inl (b : Int))) = true := List.any_eq_true.mpr ⟨_, List.mem_map_of_mem h, decide_eq_true rfl⟩
  unfold putK
  rw [if_pos n]
  unfold rowsK setEnd
  rw [List.map_map, List.map_map]
  refine List.map_congr_left fun r _ => ?_
  show (if (Sum.inl (r.1 : Int) : Key) = Sum.inl (b : Int) then (Sum.inl (r.1 : Int), V.int (i : Int)) else (Sum.inl (r.1 : Int), endV r.2)) = (Sum.inl ((if r.1 = b then (r.1, some i) else r).1 : Int), endV (if r.1 = b then (r.1, some i) else r).2)
  by_cases e : r.1 = b
  · rw [if_pos e, if_pos (by rw [e])]
    rfl
  · rw [if_neg e, if_neg (fun z => e (by have := Sum.inl.inj z; omega))]
theorem setEnd_len (rows : List Row) (b i : Nat) : (setEnd rows b i).length = rows.length := List.length_map ..
theorem walkN_len (es : List Evt) : ∀ i, (walkN es i).rows.length ≤ i ∧ (walkN es i).alone.length ≤ i ∧ (walkN es i).above.length ≤ i
  | 0 => ⟨Nat.le_refl _, Nat.le_refl _, Nat.le_refl _⟩
  | i + 1 => by
    obtain ⟨h1, h2, h3⟩ := walkN_len es i
    show (stepN es i (walkN es i)).rows.length ≤ i + 1 ∧ (stepN es i (walkN es i)).alone.length ≤ i + 1 ∧ (stepN es i (walkN es i)).above.length ≤ i + 1
    unfold stepN
    split
    · refine ⟨by rw [List.length_append]; exact Nat.succ_le_succ h1, Nat.le_succ_of_le h2, ?_⟩
      show (if _ then _ else _ : List Nat).length ≤ _
      split
      · omega
      · rw [List.length_append]; exact Nat.succ_le_succ h3
    · split
      · exact ⟨Nat.le_succ_of_le h1, by rw [List.length_append]; exact Nat.succ_le_succ h2, Nat.le_succ_of_le h3⟩
      · exact ⟨by show (setEnd _ _ _).length ≤ _; rw [setEnd_len]; omega, Nat.le_succ_of_le h2, Nat.le_succ_of_le h3⟩
    · exact ⟨by omega, by omega, by omega⟩
/-- the pairs that are told -/
def rowD (r : Row) : PyData := .tuple [.int (r.1 : Int), match r.2 with | none => .none | some e => .int (e : Int)]
def rowsD (rows : List Row) : PyData := .list (rows.map rowD)
/-- what sounds, by channel and key: a list of places for each -/
def keyK (c k : Int) : List Key := [Sum.inl c, Sum.inl k]
def Snd (es : List Evt) (rows : List Row) (kvs : List (List Key × V)) (X : Addr → Prop) (H : Hp) : Prop :=
  (∀ c k, (valV kvs (keyK c k) = none ∧ openAt es rows (c, k) = []) ∨ ∃ l, valV kvs (keyK c k) = some (.ref l) ∧ H l = some (.lst (nums (openAt es rows (c, k)))) ∧ X l) ∧
  ∀ c k c' k' l, valV kvs (keyK c k) = some (.ref l) → valV kvs (keyK c' k') = some (.ref l) → c = c' ∧ k = k'
section
variable {es : List Evt} {rows : List Row} {kvs : List (List Key × V)} {X : Addr → Prop} {H : Hp}
theorem Snd.nil : Snd es [] [] X H := ⟨fun c k => .inl ⟨rfl, rfl⟩, fun c k c' k' l h => nomatch h⟩
theorem Snd.other {x : Addr} (S : Snd es rows kvs X H) (o : HO) (hx : ∀ l ys, H l = some (.lst ys) → X l → l ≠ x) : Snd es rows kvs X (upd H x o) := by
  refine ⟨fun c k => ?_, S.2⟩
  rcases S.1 c k with h | ⟨l, h1, h2, h3⟩
  · exact .inl h
  · exact .inr ⟨l, h1, by rw [upd_ne (hx l _ h2 h3)]; exact h2, h3⟩
theorem Snd.lay {p : Addr} (S : Snd es rows kvs X H) (o : HO) (hp : H p = none) : Snd es rows kvs X (upd H p o) := S.other o fun _ _ h _ => ne_of_none h hp
theorem keyK_inj {c k c' k' : Int} (h : keyK c k = keyK c' k') : c = c' ∧ k = k' := by
  unfold keyK at h
  injection h with h1 h2
  injection h2 with h2 _
  exact ⟨Sum.inl.inj h1, Sum.inl.inj h2⟩
theorem Snd.put {c k : Int} {l : Addr} (S : Snd es rows kvs X H) (hn : valV kvs (keyK c k) = none) (hl : H l = some (.lst [])) (hX : X l) (fr : ∀ c' k', valV kvs (keyK c' k') ≠ some (.ref l)) : Snd es rows (putK kvs (keyK c k) (.ref l)) X H := by
  have nil : openAt es rows (c, k) = [] := by
    rcases S.1 c k with h | ⟨_, h, _⟩
    · exact h.2
    · rw [hn] at h; cases h
  refine ⟨fun c' k' => ?_, fun c1 k1 c2 k2 m h1 h2 => ?_⟩
  · rw [valV_put]
    by_cases e : keyK c' k' = keyK c k
    · obtain ⟨rfl, rfl⟩ := keyK_inj e
      rw [if_pos rfl, nil]
      exact .inr ⟨l, rfl, hl, hX⟩
    · rw [if_neg e]
      exact S.1 c' k'
  · rw [valV_put] at h1 h2
    by_cases e1 : keyK c1 k1 = keyK c k <;> by_cases e2 : keyK c2 k2 = keyK c k
    · obtain ⟨rfl, rfl⟩ := keyK_inj e1
      obtain ⟨rfl, rfl⟩ := keyK_inj e2
      exact ⟨rfl, rfl⟩
    · rw [if_pos e1] at h1
      rw [if_neg e2] at h2
      cases h1
      exact absurd h2 (fr _ _)
    · rw [if_neg e1] at h1
      rw [if_pos e2] at h2
      cases h2
      exact absurd h1 (fr _ _)
    · rw [if_neg e1] at h1
      rw [if_neg e2] at h2
      exact S.2 _ _ _ _ _ h1 h2
theorem Snd.turn {rows' : List Row} {c k : Int} {l : Addr} {new : List Nat} (S : Snd es rows kvs X H) (hl : valV kvs (keyK c k) = some (.ref l)) (e : ∀ c', openAt es rows' c' = if c' = (c, k) then new else openAt es rows c') : Snd es rows' kvs X (upd H l (.lst (nums new))) := by
  refine ⟨fun c' k' => ?_, S.2⟩
  rw [e]
  rcases S.1 c' k' with ⟨h1, h2⟩ | ⟨m, h1, h2, h3⟩
  · rw [if_neg (fun z => by injection z with z1 z2; rw [z1, z2, hl] at h1; cases h1)]
    exact .inl ⟨h1, h2⟩
  · by_cases z : (c', k') = (c, k)
    · injection z with z1 z2
      subst z1 z2
      rw [hl] at h1
      cases h1
      rw [if_pos rfl]
      exact .inr ⟨l, hl, upd_same, h3⟩
    · rw [if_neg z]
      refine .inr ⟨m, h1, ?_, h3⟩
      rw [upd_ne]
      · exact h2
      · intro q
        subst q
        obtain ⟨rfl, rfl⟩ := S.2 _ _ _ _ _ h1 hl
        exact z rfl
theorem Snd.same {rows' : List Row} (S : Snd es rows kvs X H) (e : ∀ c', openAt es rows' c' = openAt es rows c') : Snd es rows' kvs X H :=
  ⟨fun c k => by rw [e]; exact S.1 c k, S.2⟩
end
theorem nums_tail (b : Nat) (r : List Nat) : (nums (b :: r)).eraseIdx 0 = nums r := rfl
theorem nums_pos (r : List Nat) : decide ((0 : Int) < ((nums r).length : Nat)) = decide (r ≠ []) := by
  rw [nums_len]
  cases r with
  | nil => rfl
  | cons x xs =>
    rw [decide_eq_true (by rw [List.length_cons]; omega), decide_eq_true (fun z => nomatch z)]
theorem step_on {es : List Evt} {i : Nat} {t c k f : Int} (he : es[i]? = some (.key true t c k f)) (s : NS) : stepN es i s = ⟨s.rows ++ [(i, none)], s.alone, if openAt es s.rows (c, k) = [] then s.above else s.above ++ [i]⟩ := by
  unfold stepN
  rw [he]
theorem step_off0 {es : List Evt} {i : Nat} {t c k f : Int} (he : es[i]? = some (.key false t c k f)) {s : NS} (h : openAt es s.rows (c, k) = []) : stepN es i s = ⟨s.rows, s.alone ++ [i], s.above⟩ := by
  unfold stepN
  rw [he]
  dsimp only
  rw [h]
theorem step_off1 {es : List Evt} {i b : Nat} {r : List Nat} {t c k f : Int} (he : es[i]? = some (.key false t c k f)) {s : NS} (h : openAt es s.rows (c, k) = b :: r) : stepN es i s = ⟨setEnd s.rows b i, s.alone, s.above⟩ := by
  unfold stepN
  rw [he]
  dsimp only
  rw [h]
theorem step_no {es : List Evt} {i : Nat} {e : Evt} (he : es[i]? = some e) (h : e.isKey = false) (s : NS) : stepN es i s = s := by
  unfold stepN
  rw [he]
  cases e with
  | key b t c k f => cases h
  | _ => rfl
theorem ck_at {es : List Evt} {i : Nat} {b : Bool} {t c k f : Int} (he : es[i]? = some (.key b t c k f)) : ckAt es i = some (c, k) := by
  unfold ckAt
  rw [he]
  rfl
/-- rows that stand as lists of two -/
structure RowsZ (B H : Hp) (a b c : Addr) (zs : List (Addr × Row)) (rows : List Row) : Prop where
  ha : H a = some (.lst (zs.map fun z => V.ref z.1))
  snd : zs.map (·.2) = rows
  nd : (zs.map (·.1)).Nodup
  at_ : ∀ z ∈ zs, H z.1 = some (.lst [.int (z.2.1 : Int), endV z.2.2]) ∧ B z.1 = none ∧ z.1 ≠ a ∧ z.1 ≠ b ∧ z.1 ≠ c
theorem RowsZ.other {B H : Hp} {a b c : Addr} {zs : List (Addr × Row)} {rows : List Row} {x : Addr} (R : RowsZ B H a b c zs rows) (o : HO) (ha : x ≠ a) (hz : ∀ z ∈ zs, z.1 ≠ x) : RowsZ B (upd H x o) a b c zs rows where
  ha := (upd_ne ha.symm).trans R.ha
  snd := R.snd
  nd := R.nd
  at_ := fun z h => by
    have := R.at_ z h
    exact ⟨(upd_ne (hz z h)).trans this.1, this.2⟩
theorem RowsZ.lay {B H : Hp} {a b c : Addr} {zs : List (Addr × Row)} {rows : List Row} {x : Addr} (R : RowsZ B H a b c zs rows) (o : HO) (h : H x = none) : RowsZ B (upd H x o) a b c zs rows :=
  R.other o (ne_of_none R.ha h).symm fun z hz => ne_of_none (R.at_ z hz).1 h
theorem RowsZ.ex {B H H' : Hp} {a b c : Addr} {zs : List (Addr × Row)} {rows : List Row} (R : RowsZ B H a b c zs rows) (x : Ex H H') : RowsZ B H' a b c zs rows where
  ha := x _ _ R.ha
  snd := R.snd
  nd := R.nd
  at_ := fun z h => ⟨x _ _ (R.at_ z h).1, (R.at_ z h).2⟩
def setZ (zs : List (Addr × Row)) (b i : Nat) : List (Addr × Row) := zs.map fun z => if z.2.1 = b then (z.1, (z.2.1, some i)) else z
theorem setZ_snd (zs : List (Addr × Row)) (b i : Nat) : (setZ zs b i).map (·.2) = setEnd (zs.map (·.2)) b i := by
  unfold setZ setEnd
  rw [List.map_map, List.map_map]
  refine List.map_congr_left fun z _ => ?_
  show (if z.2.1 = b then (z.1, (z.2.1, some i)) else z).2 = if z.2.1 = b then (z.2.1, some i) else z.2
  split <;> rfl
theorem setZ_fst (zs : List (Addr × Row)) (b i : Nat) : (setZ zs b i).map (·.1) = zs.map (·.1) := by
  unfold setZ
  rw [List.map_map]
  refine List.map_congr_left fun z _ => ?_
  show (if z.2.1 = b then (z.1, (z.2.1, some i)) else z).1 = z.1
  split <;> rfl
theorem setZ_ref (zs : List (Addr × Row)) (b i : Nat) : ((setZ zs b i).map fun z => V.ref z.1) = zs.map fun z => V.ref z.1 := by
  have h := congrArg (List.map V.ref) (setZ_fst zs b i)
  rw [List.map_map, List.map_map] at h
  exact h
theorem RowsZ.set {B H : Hp} {a b c : Addr} {zs : List (Addr × Row)} {rows : List Row} {l : Addr} {w i : Nat} {v : Option Nat} (R : RowsZ B H a b c zs rows) (hn : (rows.map (·.1)).Nodup) (h : (l, (w, v)) ∈ zs) :
    RowsZ B (upd H l (.lst [.int (w : Int), .int (i : Int)])) a b c (setZ zs w i) (setEnd rows w i) where
  ha := by
    rw [setZ_ref]
    exact (upd_ne (R.at_ _ h).2.2.1.symm).trans R.ha
  snd := by rw [setZ_snd, R.snd]
  nd := by rw [setZ_fst]; exact R.nd
  at_ := fun z hz => by
    obtain ⟨y, hy, rfl⟩ := List.mem_map.mp hz
    have Ry := R.at_ y hy
    have pair : ∀ {zs : List (Addr × Row)}, (zs.map (·.1)).Nodup → ∀ y ∈ zs, ∀ x ∈ zs, y.1 = x.1 → y = x := by
      intro zs
      induction zs with
      | nil => intro _ y hy; exact nomatch hy
      | cons u us ih =>
        intro nd y hy x hx e
        rw [List.map_cons, List.nodup_cons] at nd
        rcases List.mem_cons.mp hy with e1 | hy <;> rcases List.mem_cons.mp hx with e2 | hx
        · rw [e1, e2]
        · exact absurd (List.mem_map.mpr ⟨x, hx, by rw [← e, e1]⟩) nd.1
        · exact absurd (List.mem_map.mpr ⟨y, hy, by rw [e, e2]⟩) nd.1
        · exact ih nd.2 y hy x hx e
    by_cases e : y.2.1 = w
    · rw [if_pos e]
      -- it is l itself
      have ey : y.2 = (w, v) := row_eq hn (by rw [← R.snd]; exact List.mem_map_of_mem hy) (by rw [← R.snd]; exact List.mem_map_of_mem h) e
      have el : y.1 = l := by
        have hn2 : ((zs.map (·.2)).map (·.1)).Nodup := by rw [R.snd]; exact hn
        have one : ∀ {zs : List (Addr × Row)}, ((zs.map (·.2)).map (·.1)).Nodup → ∀ y ∈ zs, ∀ x ∈ zs, y.2.1 = x.2.1 → y = x := by
          intro zs
          induction zs with
          | nil => intro _ y hy; exact nomatch hy
          | cons u us ih =>
            intro nd y hy x hx e
            rw [List.map_cons, List.map_cons, List.nodup_cons] at nd
            rcases List.mem_cons.mp hy with e1 | hy <;> rcases List.mem_cons.mp hx with e2 | hx
            · rw [e1, e2]
            · exact absurd (List.mem_map.mpr ⟨x.2, List.mem_map_of_mem hx, by rw [← e, e1]⟩) nd.1
            · exact absurd (List.mem_map.mpr ⟨y.2, List.mem_map_of_mem hy, by rw [e, e2]⟩) nd.1
            · exact ih nd.2 y hy x hx e
        have := one hn2 y hy _ h e
        rw [this]
      refine ⟨?_, Ry.2⟩
      show upd H l _ y.1 = some (.lst [.int (y.2.1 : Int), .int (i : Int)])
      rw [el, upd_same, e]
    · rw [if_neg e]
      refine ⟨?_, Ry.2⟩
      rw [upd_ne]
      · exact Ry.1
      · intro z
        exact e (by rw [pair R.nd y hy _ h z])
theorem RowsZ.snoc {B H : Hp} {a b c : Addr} {zs : List (Addr × Row)} {rows : List Row} {l : Addr} {w : Nat} (R : RowsZ B H a b c zs rows) (hl : H l = some (.lst [.int (w : Int), .non])) (hB : B l = none) (n1 : l ≠ a) (n2 : l ≠ b) (n3 : l ≠ c) (fr : ∀ z ∈ zs, z.1 ≠ l) :
    RowsZ B (upd H a (.lst ((zs.map fun z => V.ref z.1) ++ [V.ref l]))) a b c (zs ++ [(l, (w, none))]) (rows ++ [(w, none)]) where
  ha := by rw [upd_same, List.map_append]; rfl
  snd := by rw [List.map_append, R.snd]; rfl
  nd := by
    rw [List.map_append]
    unfold List.Nodup
    rw [List.pairwise_append]
    refine ⟨R.nd, List.pairwise_singleton .., fun x hx y hy => ?_⟩
    obtain ⟨z, hz, rfl⟩ := List.mem_map.mp hx
    rw [List.map_singleton, List.mem_singleton] at hy
    rw [hy]
    exact fr z hz
  at_ := fun z hz => by
    rcases List.mem_append.mp hz with h | h
    · have := R.at_ z h
      exact ⟨(upd_ne this.2.2.1).trans this.1, this.2⟩
    · rw [List.mem_singleton.mp h]
      exact ⟨(upd_ne n1).trans hl, hB, n1, n2, n3⟩
theorem walkN_key (es : List Evt) : ∀ i, ∀ r ∈ (walkN es i).rows, ∃ t c k f, es[r.1]? = some (.key true t c k f)
  | 0, r, h => nomatch h
  | i + 1, r, h => by
    have ih := walkN_key es i
    have h : r ∈ (stepN es i (walkN es i)).rows := h
    unfold stepN at h
    split at h
    · rename_i t c k f he
      rcases List.mem_append.mp h with h | h
      · exact ih r h
      · rw [List.mem_singleton.mp h]
        exact ⟨_, _, _, _, he⟩
    · split at h
      · exact ih r h
      · rename_i b _ _
        have h1 : r.1 ∈ (setEnd (walkN es i).rows b i).map (·.1) := List.mem_map_of_mem h
        rw [setEnd_fst] at h1
        obtain ⟨r', hr', e'⟩ := List.mem_map.mp h1
        rw [← e']
        exact ih r' hr'
    · exact ih r h
def selZ (f : Row → Bool) (zs : List (Addr × Row)) : List (Addr × Row) := zs.filter fun z => f z.2
def refZ (zs : List (Addr × Row)) : List V := zs.map fun z => V.ref z.1
theorem selZ_snoc {f : Row → Bool} {zs : List (Addr × Row)} {j : Nat} {z : Addr × Row} (h : zs[j]? = some z) : selZ f (zs.take (j + 1)) = if f z.2 = true then selZ f (zs.take j) ++ [z] else selZ f (zs.take j) := by
  rw [take_snoc h]
  unfold selZ
  rw [List.filter_append]
  by_cases c : f z.2 = true
  · rw [if_pos c, List.filter_cons_of_pos (p := fun z : Addr × Row => f z.2) c]
    rfl
  · rw [if_neg c, List.filter_cons_of_neg (p := fun z : Addr × Row => f z.2) c]
    exact List.append_nil _
theorem selZ_open (es : List Evt) (c : Int × Int) : ∀ zs : List (Addr × Row), (selZ (isOpen es c) zs).map (fun z => z.2.1) = openAt es (zs.map (·.2)) c
  | [] => rfl
  | z :: zs => by
    have ih := selZ_open es c zs
    unfold selZ openAt at ih ⊢
    rw [List.map_cons]
    by_cases p : isOpen es c z.2 = true
    · rw [List.filter_cons_of_pos (p := fun z : Addr × Row => isOpen es c z.2) p, List.filter_cons_of_pos p, List.map_cons, List.map_cons, ih]
    · rw [List.filter_cons_of_neg (p := fun z : Addr × Row => isOpen es c z.2) p, List.filter_cons_of_neg p, ih]
theorem refZ_at {zs : List (Addr × Row)} {j : Nat} {x : V} (h : (refZ zs)[j]? = some x) : ∃ z, zs[j]? = some z ∧ x = V.ref z.1 := by
  unfold refZ at h
  rw [List.getElem?_map] at h
  cases e : zs[j]? with
  | none => rw [e] at h; cases h
  | some z => rw [e] at h; exact ⟨z, rfl, (Option.some.inj h).symm⟩
def rowP (r : Row) : PyData := .list [.int (r.1 : Int), match r.2 with | none => .none | some e => .int (e : Int)]
theorem ck_eq (c k c' k' : Int) : PyData.eqv (.tuple [.int c, .int k]) (.tuple [.int c', .int k']) = decide ((c, k) = (c', k')) := by
  show ((c == c') && ((k == k') && true)) = _
  rw [Bool.and_true]
  by_cases h1 : c = c'
  · by_cases h2 : k = k'
    · subst h1 h2
      rw [decide_eq_true rfl, beq_self_eq_true, beq_self_eq_true]
      rfl
    · rw [decide_eq_false (fun z => h2 (by injection z)), beq_eq_false_iff_ne.mpr h2, Bool.and_false]
  · rw [decide_eq_false (fun z => h1 (by injection z)), beq_eq_false_iff_ne.mpr h1, Bool.false_and]
def hereP (z : Addr × Row) : PyData := .list [.int (z.2.1 : Int), .none]
def hereD (here : List (Addr × Row)) : PyData := .list (here.map hereP)
theorem dp_here {K : PySem.W.Frag} {H : Hp} : ∀ here : List (Addr × Row), (∀ z ∈ here, H z.1 = some (.lst [.int (z.2.1 : Int), .non])) → DpAll K H (refZ here) (here.map hereP)
  | [], _ => .nil
  | z :: zs, h => .cons (.lst (SqL.of (h z (.head _))) (.cons (.int _) (.cons .non .nil))) (dp_here zs fun y hy => h y (.tail _ hy))
theorem here_lay : ∀ here : List (Addr × Row), PyData.canLayAll0 (here.map hereP) = true ∧ PyData.depthAll (here.map hereP) ≤ 1
  | [] => ⟨rfl, Nat.zero_le _⟩
  | z :: zs => by
    obtain ⟨h1, h2⟩ := here_lay zs
    refine ⟨?_, ?_⟩
    · show ((hereP z).canLay0 && PyData.canLayAll0 (zs.map hereP)) = true
      rw [h1]
      rfl
    · show max (hereP z).depth (PyData.depthAll (zs.map hereP)) ≤ 1
      have : (hereP z).depth = 1 := rfl
      omega
theorem here_shaped (here : List (Addr × Row)) : SeqAt.shaped (hereD here) = true := by
  obtain ⟨h1, h2⟩ := here_lay here
  show (PyData.canLayAll0 (here.map hereP) && decide (PyData.depthAll (here.map hereP) + 1 ≤ 64)) = true
  rw [h1, decide_eq_true (by omega)]
  rfl
theorem here_nil (here : List (Addr × Row)) : PyData.eqv (hereD here) (.list []) = decide (here = []) := by
  cases here with
  | nil => rfl
  | cons x r => rfl
theorem paired_app {α β : Type} {F : α → β → Prop} : ∀ {a c : List α} {b d : List β}, Paired F a b → Paired F c d → Paired F (a ++ c) (b ++ d)
  | _, _, _, _, .nil, h => h
  | _, _, _, _, .cons r t, h => .cons r (paired_app t h)
theorem mapPM {α β : Type} {F G : α → β → Prop} : ∀ {a : List α} {b : List β}, Paired F a b → (∀ x ∈ a, ∀ y ∈ b, F x y → G x y) → Paired G a b
  | _, _, .nil, _ => .nil
  | _, _, .cons r t, f => .cons (f _ (.head _) _ (.head _) r) (mapPM t fun x hx y hy => f x (.tail _ hx) y (.tail _ hy))
theorem dp_row {K : PySem.W.Frag} {H : Hp} {t : Addr} {q : Row} (h : H t = some (.tup [.int (q.1 : Int), endV q.2])) : Dp K H (.ref t) (rowD q) := by
  refine .tup (SqT.of h) (.cons (.int _) (.cons ?_ .nil))
  cases q.2 with
  | none => exact .non
  | some e => exact .int _
theorem dp_rows {K : PySem.W.Frag} {H : Hp} : ∀ {ts : List Addr} {rows : List Row}, Paired (fun (t : Addr) (q : Row) => H t = some (.tup [.int (q.1 : Int), endV q.2])) ts rows → DpAll K H (ts.map V.ref) (rows.map rowD)
  | _, _, .nil => .nil
  | _, _, .cons h t => .cons (dp_row h) (dp_rows t)
theorem rows_depth (rows : List Row) : (rowsD rows).depth ≤ 2 := by
  have h : ∀ rows : List Row, PyData.depthAll (rows.map rowD) ≤ 1 := fun rows => by
    induction rows with
    | nil => exact Nat.zero_le _
    | cons r rs ih =>
      show max (rowD r).depth (PyData.depthAll (rs.map rowD)) ≤ 1
      have : (rowD r).depth = 1 := by
        unfold rowD
        cases r.2 <;> rfl
      omega
  show PyData.depthAll (rows.map rowD) + 1 ≤ 2
  have := h rows
  omega
theorem rows_sm {rows : List Row} (hl : rows.length ≤ 100000) : smA (rowsD rows) := by
  have h : ∀ rows : List Row, smAll (rows.map rowD) := fun rows => by
    induction rows with
    | nil => exact True.intro
    | cons r rs ih =>
      refine ⟨?_, ih⟩
      unfold rowD
      refine ⟨(by show 2 ≤ 100000; decide), True.intro, ?_⟩
      cases r.2 with
      | none => exact ⟨True.intro, True.intro⟩
      | some e => exact ⟨True.intro, True.intro⟩
  exact ⟨by rw [List.length_map]; exact hl, h rows⟩
/-- walked_through: the ends by beginnings, the lone ends, those over another -/
def spWalk : Sp := fun vs H Q _ => ∃ (r : Addr) (ps : List Addr) (es : List Evt) (H0 : Hp), vs = [.ref r] ∧ Ex H0 H ∧ H0 r = some (.lst (ps.map V.ref)) ∧ Evs H0 ps (es.map Evt.v) ∧ es.length ≤ 1000 ∧
  ∀ (t a b c : Addr) (H' : Hp), Go (fun _ => False) H0 H H0 H' → H a = none → H b = none → H c = none → b ≠ c → H' t = some (.tup [.ref a, .ref b, .ref c]) → H' a = some (.dK (rowsK (walkN es es.length).rows)) →
    H' b = some (.lst (nums (walkN es es.length).alone)) → H' c = some (.lst (nums (walkN es es.length).above)) → Q (.ref t) H'
/-- the places that nothing ends -/
def hungN (rows : List Row) : List Nat := (rows.filter fun r => decide (r.2 = none)).map (·.1)
/-- a list of places, told of a track -/
def spTell (g : List Evt → List Nat) : Sp := fun vs H Q _ => ∃ (r : Addr) (ps : List Addr) (es : List Evt) (H0 : Hp), vs = [.ref r] ∧ Ex H0 H ∧ H0 r = some (.lst (ps.map V.ref)) ∧ Evs H0 ps (es.map Evt.v) ∧ es.length ≤ 1000 ∧
  ∀ (p : Addr) (H' : Hp), Go (fun _ => False) H0 H H0 H' → H p = none → H' p = some (.lst (nums (g es))) → Q (.ref p) H'
def gLone (es : List Evt) : List Nat := (walkN es es.length).alone
def gOver (es : List Evt) : List Nat := (walkN es es.length).above
def gHung (es : List Evt) : List Nat := hungN (walkN es es.length).rows
theorem hungN_snoc {rows : List Row} {j : Nat} {q : Row} (h : rows[j]? = some q) : hungN (rows.take (j + 1)) = if q.2 = none then hungN (rows.take j) ++ [q.1] else hungN (rows.take j) := by
  rw [take_snoc h]
  unfold hungN
  rw [List.filter_append, List.map_append]
  by_cases c : q.2 = none
  · rw [if_pos c, List.filter_cons_of_pos (p := fun r : Row => decide (r.2 = none)) (decide_eq_true c)]
    rfl
  · rw [if_neg c, List.filter_cons_of_neg (p := fun r : Row => decide (r.2 = none)) (by rw [decide_eq_false c]; exact Bool.false_ne_true)]
    exact List.append_nil _
theorem hungN_len (rows : List Row) : (hungN rows).length ≤ rows.length := by
  unfold hungN
  rw [List.length_map]
  exact List.length_filter_le _ _
theorem paired_at {α β : Type} {F : α → β → Prop} : ∀ {l : List α} {m : List β}, Paired F l m → ∀ {i : Nat} {x : α}, l[i]? = some x → ∃ y, m[i]? = some y ∧ F x y
  | _, _, .nil, i, x, h => by simp at h
  | _, _, .cons r t, 0, x, h => by
    cases h
    exact ⟨_, rfl, r⟩
  | _, _, .cons r t, i + 1, x, h => paired_at t (i := i) h
theorem dp_numsL {K : PySem.W.Frag} {H : Hp} {a : Addr} {l : List Nat} (h : H a = some (.lst (nums l))) : Dp K H (.ref a) (numsD l) := .lst (SqL.of h) (dp_nums l)
theorem numsD_ok {l : List Nat} (h : l.length ≤ 100000) : (numsD l).depth ≤ 1 ∧ smA (numsD l) := by
  have h1 : ∀ l : List Nat, PyData.depthAll (l.map fun (n : Nat) => PyData.int (n : Int)) = 0 ∧ smAll (l.map fun (n : Nat) => PyData.int (n : Int)) := fun l => by
    induction l with
    | nil => exact ⟨rfl, True.intro⟩
    | cons x xs ih =>
      refine ⟨?_, True.intro, ih.2⟩
      show max 0 (PyData.depthAll (xs.map fun (n : Nat) => PyData.int (n : Int))) = 0
      rw [ih.1]
      rfl
  refine ⟨?_, by rw [List.length_map]; exact h, (h1 l).2⟩
  show PyData.depthAll (l.map fun (n : Nat) => PyData.int (n : Int)) + 1 ≤ 1
  rw [(h1 l).1]
  exact Nat.le_refl _
end Rt

namespace Rt
open PySem PySem.Spec PyProof.Rows L2 RZ TL LamX
def topS (i : Nat) : Stmt := PySem.Challenge.pw_reedtapes_k33_whole_stands_are_their_not.main.body.getD i (.Pass ⟨0, 0, 0, 0⟩)
section
variable {P : Program} {w : World} {K : PySem.W.Frag} {mg : Str → Option Value} {base : Heap}
abbrev s_sta_init : Stmt := inClass (topS 10) 0
theorem sc_sta_init : FnScope ["self"] ["self"] (defScope s_sta_init) := ⟨rfl, rfl, rfl, by decide +kernel, rfl, by decide +kernel, by decide +kernel⟩
theorem ok_sta_init {f C : Addr} {fd : FuncData} (F : Fun K "__init__" "Stand.__init__" s_sta_init f fd) (T : StandT K C) : FnOk P w K mg base CX0 1 f fd ["self"] (spNew C) := by
  refine F.ok sc_sta_init (fun vs H Q E h => ?_) (fun cdv A outer s B vs Q E hr h => ?_)
  · obtain ⟨x, dx, H0, rfl, _⟩ := h
    rfl
  · obtain ⟨x, dx, H0, rfl, e0, hx, zx, q⟩ := h
    refine ⟨_, (pss_cons (ps_fld (pv 0) (pe_lst pa_nil) rfl)
      (pss_cons (ps_fld (pv 0) (pe_lst pa_nil) rfl)
      (pss_one (ps_fld (pv 0) (pe_lst pa_nil) rfl)))), ?_⟩
    have g := Go.refl (m := (· = x)) e0
    refine ⟨(by show 0 ≤ sizeLine; decide), fun l1 n1 => ?_⟩
    have x1 := ne_of_none hx n1
    obtain ⟨H1, e1, g, hl1, y1, B1, _⟩ := g.ly (.lst []) n1
    have hx := y1 _ _ hx
    rw [e1]
    refine ⟨_, rfl, x, C, dx, _, rfl, hx, T.cl, T.ns, (by show 0 < 1000; decide), ?_⟩
    have g := g.turnM (.ins C dx (putF fS (.ref l1) [])) rfl zx
    have hl1 := (upd_ne (o := .ins C dx (putF fS (.ref l1) [])) x1.symm).trans hl1
    have hx : upd H1 x (.ins C dx (putF fS (.ref l1) [])) x = some (.ins C dx (putF fS (.ref l1) [])) := upd_same
    revert g hl1 hx
    generalize upd H1 x (.ins C dx (putF fS (.ref l1) [])) = H1
    intro g hl1 hx
    refine ⟨(by show 0 ≤ sizeLine; decide), fun l2 n2 => ?_⟩
    have x2 := ne_of_none hx n2
    have d12 := ne_of_none hl1 n2
    obtain ⟨H2, e2, g, hl2, y2, B2, _⟩ := g.ly (.lst []) n2
    have hx := y2 _ _ hx
    have hl1 := y2 _ _ hl1
    rw [e2]
    refine ⟨_, rfl, x, C, dx, _, rfl, hx, T.cl, T.nk, (by show 1 < 1000; decide), ?_⟩
    rw [flds1, flds2]
    have g := g.turnM (.ins C dx [(fS, .ref l1), (fK, .ref l2)]) rfl zx
    have hl1 := (upd_ne (o := .ins C dx [(fS, .ref l1), (fK, .ref l2)]) x1.symm).trans hl1
    have hl2 := (upd_ne (o := .ins C dx [(fS, .ref l1), (fK, .ref l2)]) x2.symm).trans hl2
    have hx : upd H2 x (.ins C dx [(fS, .ref l1), (fK, .ref l2)]) x = some (.ins C dx [(fS, .ref l1), (fK, .ref l2)]) := upd_same
    revert g hl1 hl2 hx
    generalize upd H2 x (.ins C dx [(fS, .ref l1), (fK, .ref l2)]) = H2
    intro g hl1 hl2 hx
    refine ⟨(by show 0 ≤ sizeLine; decide), fun l3 n3 => ?_⟩
    have x3 := ne_of_none hx n3
    have d13 := ne_of_none hl1 n3
    have d23 := ne_of_none hl2 n3
    obtain ⟨H3, e3, g, hl3, y3, B3, _⟩ := g.ly (.lst []) n3
    have hx := y3 _ _ hx
    have hl1 := y3 _ _ hl1
    have hl2 := y3 _ _ hl2
    rw [e3]
    refine ⟨_, rfl, x, C, dx, _, rfl, hx, T.cl, T.nv, (by show 2 < 1000; decide), ?_⟩
    rw [flds3]
    exact q l1 l2 l3 _ (g.turnM _ rfl zx) upd_same ((upd_ne x1.symm).trans hl1) ((upd_ne x2.symm).trans hl2) ((upd_ne x3.symm).trans hl3) B1 B2 B3 d12 d13 d23
abbrev s_sta_sounds : Stmt := inClass (topS 10) 2
theorem sc_sta_sounds : FnScope ["self"] ["self"] (defScope s_sta_sounds) := ⟨rfl, rfl, rfl, by decide +kernel, rfl, by decide +kernel, by decide +kernel⟩
theorem ok_sta_sounds {f C : Addr} {fd : FuncData} (F : Fun K "sounds" "Stand.sounds" s_sta_sounds f fd) (T : StandT K C) (m_list : mg "list" = none) : FnOk P w K mg base CX0 1 f fd ["self"] (spTold C Sta.snd) := by
  refine F.ok sc_sta_sounds (fun vs H Q E h => ?_) (fun cdv A outer s B vs Q E hr h => ?_)
  · obtain ⟨a, st, H0, rfl, _⟩ := h
    rfl
  · obtain ⟨a, st, H0, rfl, e0, hs, q⟩ := h
    refine ⟨_, (pss_one (ps_ret (pe_callTy call_list_of (by rfl) m_list bt_list (pa_cons (pe_fld (pv 0) rfl) pa_nil)))), ?_⟩
    obtain ⟨dx, l1, l2, l3, q1, q2, q3, h0, h1, h2, h3, r1, r2, r3⟩ := hs
    have g := Go.refl (m := fun _ => False) e0
    exact ⟨_, rfl, a, C, dx, _, _, rfl, e0 _ _ h0, T.cl, T.ns, look_s _ _ _, l1, _, rfl, .inl (SqL.of (e0 _ _ h1)), fun p hp => q p q1 _ (g.lay _ hp) hp upd_same r1⟩
abbrev s_sta_len : Stmt := inClass (topS 10) 6
theorem sc_sta_len : FnScope ["self"] ["self"] (defScope s_sta_len) := ⟨rfl, rfl, rfl, by decide +kernel, rfl, by decide +kernel, by decide +kernel⟩
theorem ok_sta_len {f C : Addr} {fd : FuncData} (F : Fun K "__len__" "Stand.__len__" s_sta_len f fd) (T : StandT K C) (m_len : mg "len" = none) : FnOk P w K mg base CX0 1 f fd ["self"] (spSLen C) := by
  refine F.ok sc_sta_len (fun vs H Q E h => ?_) (fun cdv A outer s B vs Q E hr h => ?_)
  · obtain ⟨a, st, H0, rfl, _⟩ := h
    rfl
  · obtain ⟨a, st, H0, rfl, e0, hs, q⟩ := h
    refine ⟨_, (pss_one (ps_ret (pe_callB call_len_seq (by rfl) m_len PySem.boot_len (pa_cons (pe_fld (pv 0) rfl) pa_nil)))), ?_⟩
    obtain ⟨dx, l1, l2, l3, q1, q2, q3, h0, h1, h2, h3, r1, r2, r3⟩ := hs
    have e : (q1.map V.ref).length = st.snd.length := by rw [List.length_map, r1.len]
    refine ⟨_, rfl, a, C, dx, _, _, rfl, e0 _ _ h0, T.cl, T.ns, look_s _ _ _, l1, _, rfl, .inl (SqL.of (e0 _ _ h1)), ?_⟩
    rw [e]
    exact q
end
end Rt

namespace Rt
open PySem PySem.Spec PyProof.Rows L2 RZ TL LamX
section
variable {P : Program} {w : World} {K : PySem.W.Frag} {mg : Str → Option Value} {base : Heap}
abbrev s_sounds_after : Stmt := topS 8
theorem sc_sounds_after : FnScope ["sounds", "thing", "place", "note"] ["sounds", "thing"] (defScope s_sounds_after) := ⟨rfl, rfl, rfl, by decide +kernel, rfl, by decide +kernel, by decide +kernel⟩
theorem ok_sounds_after {f : Addr} {fd : FuncData} (F : Fun K "sounds_after" "sounds_after" s_sounds_after f fd) (m_len : mg "len" = none) (m_enumerate : mg "enumerate" = none) : FnOk P w K mg base CX0 1 f fd ["sounds", "thing"] spSnd := by
  refine F.ok sc_sounds_after (fun vs H Q E h => ?_) (fun cdv A outer s B vs Q E hr h => ?_)
  · obtain ⟨l, t, qs, S, e, H0, rfl, _⟩ := h
    rfl
  · obtain ⟨l, t, qs, S, e, H0, rfl, e0, hl, hS, hB, ht, ln, q⟩ := h
    refine ⟨_, (pss_cons (ps_if (pt_cmpR op_eq (pe_ix ix_tup (pv 1) pe_int (fun _ _ => rfl)) pe_str (nomark _)) (pss_cons (ps_set (i := 2) sc_sounds_after.nd rfl (Or.inl rfl) (pe_callB call_len_seq (by rfl) m_len PySem.boot_len (pa_cons (pe_lc (own := [("note", 3)]) (g := gName 3)  rfl sc_sounds_after.nd (pi_list (pv 0)) (blkOk_by (N := ["sounds", "thing", "place", "note"]) (sc := defScope s_sounds_after) (by decide +kernel)) (fun _ _ _ _ _ => pg_name (i := 3) sc_sounds_after.nd rfl (Or.inl rfl)) (fun _ _ _ _ _ => pts_one (pt_cmpR (r := rLeT K) (op_leT (Nat.lt_of_succ_lt (hu_of hr))) (pe_slice (r := rSlT K) sl_tup (pv 3) po_none (po_some pe_int)) (pe_slice (r := rSlT K) sl_tup (pv 1) (po_some pe_int) (po_some pe_int)) (nomark _))) (fun _ _ _ _ _ => (pv 3))) pa_nil)))
      (pss_one (ps_ret (pe_op op_cat (pe_op op_cat (pe_slice sl_list (pv 0) po_none (po_some (pv 2))) (pe_lst (pa_cons (pe_slice sl_tup (pv 1) (po_some pe_int) po_none) pa_nil))) (pe_slice sl_list (pv 0) (po_some (pv 2)) po_none))))) pss_nil)
      (pss_cons (ps_if (pt_cmpR op_eq (pe_ix ix_tup (pv 1) pe_int (fun _ _ => rfl)) pe_str (nomark _)) (pss_one (ps_for PassesOwn.never rfl (pi_enum (by rfl) m_enumerate (pa_cons (pv 0) pa_nil)) (pg_tup rfl (pgs_cons (pg_name (i := 2) sc_sounds_after.nd rfl (Or.inl rfl)) (pgs_cons (pg_name (i := 3) sc_sounds_after.nd rfl (Or.inl rfl)) pgs_nil))) (pss_one (ps_if (pt_cmpR (op_eqD hr.units) (pe_slice sl_tup (pv 3) po_none (po_some pe_int)) (pe_slice sl_tup (pv 1) (po_some pe_int) (po_some pe_int)) (nomark _)) (pss_one (ps_ret (pe_op op_cat (pe_slice sl_list (pv 0) po_none (po_some (pv 2))) (pe_slice sl_list (pv 0) (po_some (pe_op op_add (pv 2) pe_int)) po_none)))) pss_nil)))) pss_nil)
      (pss_one (ps_ret (pv 0))))), ?_⟩
    have g := Go.refl (m := fun _ => False) e0
    have lq := hS.len
    -- if thing[0] == "on"
    refine ⟨_, rfl, t, e.th, _, e.th.getD 0 .non, rfl, rfl, SqT.of (e0 _ _ ht), by cases e <;> rfl, by cases e <;> rfl, _, rfl, ?_⟩
    by_cases eon : ∃ t0 c k f', e = .key true t0 c k f'
    · obtain ⟨t0, c, k, f', rfl⟩ := eon
      refine ifT (decide_eq_true rfl) ?_
      -- place = len([..])
      refine ⟨_, rfl, l, rfl, ⟨_, SqL.of (e0 _ _ hl)⟩, fun D hD => ?_⟩
      have BD := g.fresh hD
      have ZD := g.fresh0 hD
      refine lc_list (xs := qs.map V.ref) (fun j H' => ∃ xs : List V, H' D = some (.lst xs) ∧ xs.length = ((S.take j).filter fun x => leCK (rck x) (c, k)).length ∧ Go (fun _ => False) H0 B H0 H')
        ⟨[], upd_same, rfl, g.lay _ hD⟩ (fun j H' _ ⟨_, _, _, g⟩ => SqL.of (g.inn _ _ hl)) ?_ ?_
      · rintro j x H' hx ⟨xs, h1, h2, g⟩
        rw [List.getElem?_map] at hx
        obtain ⟨y, hy, rfl⟩ := Option.map_eq_some_iff.mp hx
        obtain ⟨r, hr', hyr⟩ := pairedAt hS hy
        obtain ⟨br, -⟩ := hB r (List.mem_of_getElem? hr')
        obtain ⟨a1, a2, a3, rfl⟩ : ∃ a b c, r = [a, b, c] := by
          match r, br with
          | [a, b, c], _ => exact ⟨a, b, c, rfl⟩
        have lx : xs.length ≤ 1000 := by
          rw [h2]
          refine Nat.le_trans (List.length_filter_le _ _) ?_
          rw [List.length_take]
          omega
        refine ⟨rfl, ?_⟩
        refine ⟨_, rfl, _, rfl, y, _, rfl, SqT.of (g.inn _ _ hyr), fun z => absurd z.2 (by decide : ¬ ((2 : Nat) = 3)), fun u hu => ?_⟩
        have nDu := ne_of_none h1 hu
        obtain ⟨H2, e2, g, hu1, x2, _, _⟩ := g.ly (.tup (cutV (List.map V.int [a1, a2, a3]) none (some 2))) hu
        have h1 := x2 _ _ h1
        rw [e2]
        refine ⟨_, rfl, _, rfl, _, rfl, t, _, rfl, SqT.of (g.inn _ _ ht), fun z => absurd z.1 (by decide : ¬ ((1 : Nat) = 0)), fun v hv => ?_⟩
        obtain ⟨H3, e3, g, hv1, x3, _, _⟩ := g.ly (.tup (cutV (Evt.key true t0 c k f').th (some 1) (some 3))) hv
        have h1 := x3 _ _ h1
        have hu1 := x3 _ _ hu1
        rw [e3]
        refine ⟨u, v, [a1, a2], [c, k], rfl, rfl, SqT.of hu1, SqT.of hv1, ?_⟩
        rw [le_pair]
        refine ⟨_, rfl, ?_⟩
        have tk : S.take (j + 1) = S.take j ++ [[a1, a2, a3]] := take_snoc hr'
        by_cases c1 : leCK (a1, a2) (c, k) = true
        · refine ifT c1 ?_
          refine ⟨_, rfl, _, h1, mem_lt (by omega), xs ++ [V.ref y], upd_same, ?_, g.turn _ BD ZD⟩
          rw [tk, List.filter_append, List.length_append, List.length_append, h2, List.filter_cons_of_pos (p := fun x => leCK (rck x) (c, k)) (a := [a1, a2, a3]) c1]
          rfl
        · refine ifF (Bool.eq_false_iff.mpr c1) ?_
          refine ⟨xs, h1, ?_, g⟩
          rw [tk, List.filter_append, h2, List.filter_cons_of_neg (p := fun x => leCK (rck x) (c, k)) (a := [a1, a2, a3]) c1]
          simp
      · rintro H' ⟨xs, h1, h2, g⟩
        rw [List.length_map, lq, List.take_length] at h2
        refine ⟨D, xs, rfl, .inl (SqL.of h1), ?_⟩
        rw [h2]
        have nl : (S.filter fun x => leCK (rck x) (c, k)).length ≤ S.length := List.length_filter_le _ _
        have si : sndA S (.key true t0 c k f') = S.take (S.filter fun x => leCK (rck x) (c, k)).length ++ [[c, k, f']] ++ S.drop (S.filter fun x => leCK (rck x) (c, k)).length := rfl
        revert nl si
        generalize (S.filter fun x => leCK (rck x) (c, k)).length = n
        intro nl si
        have lqn : n ≤ (qs.map V.ref).length := by rw [List.length_map, lq]; exact nl
        have hlS : ∀ {H2 : Hp}, Go (fun _ => False) H0 B H0 H2 → SqL K H2 l (qs.map V.ref) := fun g => SqL.of (g.inn _ _ hl)
        refine ⟨_, rfl, _, rfl, _, rfl, l, _, rfl, hlS g, fun p1 n1 => ?_⟩
        rw [cutV_take _ n lqn]
        obtain ⟨H1, e1, g, hp1, x1, _, _⟩ := g.ly (.lst ((qs.map V.ref).take n)) n1
        rw [e1]
        refine ⟨_, rfl, _, rfl, t, _, rfl, SqT.of (g.inn _ _ ht), fun z => absurd z.1 (by decide : ¬ ((1 : Nat) = 0)), fun t1 n2 => ?_⟩
        rw [show cutV (Evt.key true t0 c k f').th (some 1) none = [.int c, .int k, .int f'] from rfl]
        obtain ⟨G1, H2, e2, g, ht1, xG⟩ := g.nw (.tup [.int c, .int k, .int f']) n2
        have hp1 : H2 p1 = some (.lst ((qs.map V.ref).take n)) := by rw [← e2, upd_ne (ne_of_none hp1 n2)]; exact hp1
        rw [e2]
        refine ⟨(by show 1 ≤ sizeLine; decide), fun p2 n3 => ?_⟩
        obtain ⟨H3, e3, g, hp2, x3, _, _⟩ := g.ly (.lst [.ref t1]) n3
        have hp1 := x3 _ _ hp1
        rw [e3]
        refine ⟨p1, p2, _, _, rfl, rfl, hp1, hp2, mem_sz (by rw [List.length_take, List.length_map]; show min n qs.length + 1 ≤ _; omega), fun p3 n4 => ?_⟩
        obtain ⟨H4, e4, g, hp3, x4, _, _⟩ := g.ly (.lst ((qs.map V.ref).take n ++ [.ref t1])) n4
        rw [e4]
        refine ⟨_, rfl, _, rfl, _, rfl, l, _, rfl, SqL.of (g.inn _ _ (xG _ _ hl)), fun p4 n5 => ?_⟩
        rw [cutV_drop _ n lqn]
        obtain ⟨H5, e5, g, hp4, x5, _, _⟩ := g.ly (.lst ((qs.map V.ref).drop n)) n5
        have hp3 := x5 _ _ hp3
        rw [e5]
        refine ⟨p3, p4, _, _, rfl, rfl, hp3, hp4, mem_sz (by rw [List.length_append, List.length_take, List.length_drop, List.length_map]; show min n qs.length + 1 + _ ≤ _; omega), fun p5 n6 => ?_⟩
        obtain ⟨G2, H6, e6, g, hp5, xG2⟩ := g.nw (.lst ((qs.map V.ref).take n ++ [.ref t1] ++ (qs.map V.ref).drop n)) n6
        rw [e6]
        refine q p5 (qs.take n ++ [t1] ++ qs.drop n) G2 H6 g ?_ ?_
        · rw [hp5, List.map_append, List.map_append, List.map_take, List.map_drop]
          rfl
        · rw [si]
          have hS2 : Rws G2 qs S := hS.up (xG.trans xG2)
          exact pairedApp (pairedApp (pairedTake n hS2) (.cons (xG2 _ _ ht1) .nil)) (pairedDrop n hS2)
    · refine ifF ?_ ?_
      · cases e with
        | key b t0 c k f' =>
          cases b with
          | true => exact absurd ⟨_, _, _, _, rfl⟩ eon
          | false => show decide (V.str (onW false) = V.str "on") = false; decide +kernel
        | knob => show decide (V.str "knob" = V.str "on") = false; decide +kernel
        | voice => show decide (V.str "voice" = V.str "on") = false; decide +kernel
        | mark => show decide (V.str "mark" = V.str "on") = false; decide +kernel
      · refine ⟨_, rfl, t, e.th, _, e.th.getD 0 .non, rfl, rfl, SqT.of (e0 _ _ ht), by cases e <;> rfl, by cases e <;> rfl, _, rfl, ?_⟩
        by_cases eof : ∃ t0 c k f', e = .key false t0 c k f'
        · obtain ⟨t0, c, k, f', rfl⟩ := eof
          refine ifT (decide_eq_true rfl) ?_
          have hlS : ∀ {H2 : Hp}, Go (fun _ => False) H0 B H0 H2 → SqL K H2 l (qs.map V.ref) := fun g => SqL.of (g.inn _ _ hl)
          have lqr : (qs.map V.ref).length = S.length := by rw [List.length_map, lq]
          refine ⟨_, rfl, l, _, rfl, hlS g, for_enum (xs := qs.map V.ref) (fun i σ H' => ∃ v2 v3 : Option V, σ = [some (.ref l), some (.ref t), v2, v3] ∧ Go (fun _ => False) H0 B H0 H' ∧ ∀ y ∈ S.take i, decide (rck y = (c, k)) = false)
            ⟨none, none, rfl, g, fun y h => (nomatch h)⟩ (fun i σ H' ⟨_, _, _, g, _⟩ => hlS g) ?_ ?_⟩
          · rintro i x T σ H' hx ⟨v2, v3, rfl, g, hno⟩ hT
            rw [List.getElem?_map] at hx
            obtain ⟨y, hy, rfl⟩ := Option.map_eq_some_iff.mp hx
            obtain ⟨r, hr', hyr⟩ := pairedAt hS hy
            obtain ⟨br, -⟩ := hB r (List.mem_of_getElem? hr')
            obtain ⟨a1, a2, a3, rfl⟩ : ∃ a b c, r = [a, b, c] := by
              match r, br with
              | [a, b, c], _ => exact ⟨a, b, c, rfl⟩
            have hil := (List.getElem?_eq_some_iff.mp hr').1
            obtain ⟨H1, e1, g, hTT, x1, _, _⟩ := g.ly (.tup [.int (i : Nat), .ref y]) hT
            rw [e1]
            refine ⟨T, _, rfl, SqT.of hTT, rfl, _, _, rfl, _, _, rfl, rfl, ?_⟩
            refine ⟨_, rfl, _, rfl, y, _, rfl, SqT.of (g.inn _ _ hyr), fun z => absurd z.2 (by decide : ¬ ((2 : Nat) = 3)), fun u hu => ?_⟩
            rw [show cutV (List.map V.int [a1, a2, a3]) none (some 2) = [.int a1, .int a2] from rfl]
            obtain ⟨H2, e2, g, hu1, x2, _, _⟩ := g.ly (.tup [.int a1, .int a2]) hu
            rw [e2]
            refine ⟨_, rfl, _, rfl, _, rfl, t, _, rfl, SqT.of (g.inn _ _ ht), fun z => absurd z.1 (by decide : ¬ ((1 : Nat) = 0)), fun v hv => ?_⟩
            rw [show cutV (Evt.key false t0 c k f').th (some 1) (some 3) = [.int c, .int k] from rfl]
            obtain ⟨H3, e3, g, hv1, x3, _, _⟩ := g.ly (.tup [.int c, .int k]) hv
            have hu1 := x3 _ _ hu1
            rw [e3]
            refine ⟨.tuple [.int a1, .int a2], .tuple [.int c, .int k], .tup (SqT.of hu1) (.cons (.int _) (.cons (.int _) .nil)), .tup (SqT.of hv1) (.cons (.int _) (.cons (.int _) .nil)), rfl, rfl, ?_⟩
            rw [ck_eq]
            refine ⟨_, rfl, ?_⟩
            by_cases c1 : (a1, a2) = (c, k)
            · refine ifT (decide_eq_true c1) ?_
              have lqi : i ≤ (qs.map V.ref).length := by omega
              have lqi1 : i + 1 ≤ (qs.map V.ref).length := by omega
              have dl := delF_at (p := fun x => decide (rck x = (c, k))) hr' (decide_eq_true c1) hno
              refine ⟨_, rfl, _, rfl, _, rfl, l, _, rfl, hlS g, fun p1 n1 => ?_⟩
              rw [cutV_take _ i lqi]
              obtain ⟨H4, e4, g, hp1, x4, _, _⟩ := g.ly (.lst ((qs.map V.ref).take i)) n1
              rw [e4]
              refine ⟨_, rfl, _, rfl, _, _, rfl, rfl, _, rfl, l, _, rfl, hlS g, fun p2 n2 => ?_⟩
              rw [show (((i : Nat) : Int) + 1) = ((i + 1 : Nat) : Int) from rfl, cutV_drop _ (i + 1) lqi1]
              obtain ⟨H5, e5, g, hp2, x5, _, _⟩ := g.ly (.lst ((qs.map V.ref).drop (i + 1))) n2
              have hp1 := x5 _ _ hp1
              rw [e5]
              refine ⟨p1, p2, _, _, rfl, rfl, hp1, hp2, mem_sz (by rw [List.length_take, List.length_drop, lqr]; omega), fun p3 n3 => ?_⟩
              obtain ⟨G2, H6, e6, g, hp3, xG⟩ := g.nw (.lst ((qs.map V.ref).take i ++ (qs.map V.ref).drop (i + 1))) n3
              rw [e6]
              refine q p3 (qs.take i ++ qs.drop (i + 1)) G2 H6 g ?_ ?_
              · rw [hp3, List.map_append, List.map_take, List.map_drop]
              · show Rws G2 _ (delF _ S)
                rw [dl]
                exact pairedApp (pairedTake i (hS.up xG)) (pairedDrop (i + 1) (hS.up xG))
            · refine ifF (decide_eq_false c1) ?_
              refine ⟨_, _, rfl, g, fun z hz => ?_⟩
              rw [take_snoc hr'] at hz
              rcases List.mem_append.mp hz with h | h
              · exact hno z h
              · rw [List.mem_singleton.mp h]
                exact decide_eq_false c1
          · rintro σ H' ⟨v2, v3, rfl, g, hno⟩
            rw [lqr, List.take_length] at hno
            refine ⟨_, rfl, q l qs H0 H' g hl ?_⟩
            show Rws H0 qs (delF _ S)
            rw [delF_none hno]
            exact hS
        · refine ifF ?_ ?_
          · cases e with
            | key b t0 c k f' =>
              cases b with
              | true => exact absurd ⟨_, _, _, _, rfl⟩ eon
              | false => exact absurd ⟨_, _, _, _, rfl⟩ eof
            | knob => show decide (V.str "knob" = V.str "off") = false; decide +kernel
            | voice => show decide (V.str "voice" = V.str "off") = false; decide +kernel
            | mark => show decide (V.str "mark" = V.str "off") = false; decide +kernel
          · refine ⟨_, rfl, q l qs H0 B g hl ?_⟩
            have : sndA S e = S := by
              cases e with
              | key b t0 c k f' =>
                cases b with
                | true => exact absurd ⟨_, _, _, _, rfl⟩ eon
                | false => exact absurd ⟨_, _, _, _, rfl⟩ eof
              | knob => rfl
              | voice => rfl
              | mark => rfl
            rw [this]
            exact hS
end
end Rt

namespace Rt
open PySem PySem.Spec PyProof.Rows L2 RZ TL LamX
section
variable {P : Program} {w : World} {K : PySem.W.Frag} {mg : Str → Option Value} {base : Heap}
abbrev s_set_after : Stmt := topS 9
theorem sc_set_after : FnScope ["rows", "thing", "kept", "row"] ["rows", "thing"] (defScope s_set_after) := ⟨rfl, rfl, rfl, by decide +kernel, rfl, by decide +kernel, by decide +kernel⟩
theorem ok_set_after {f : Addr} {fd : FuncData} {d : Nat} {ok : Evt → Prop} (hd : 1 ≤ d) (F : Fun K "set_after" "set_after" s_set_after f fd) (m_sorted : mg "sorted" = none) : FnOk P w K mg base CX0 1 f fd ["rows", "thing"] (spSet d ok) := by
  refine F.ok sc_set_after (fun vs H Q E h => ?_) (fun cdv A outer s B vs Q E hr h => ?_)
  · obtain ⟨l, t, qs, S, e, H0, rfl, _⟩ := h
    rfl
  · obtain ⟨l, t, qs, S, e, H0, rfl, e0, hl, hS, hB, ht, hok, eok, er, ln, q⟩ := h
    refine ⟨_, (pss_cons (ps_setLc (i := 2) (own := [("row", 3)]) (g := gName 3)  rfl sc_set_after.nd rfl rfl (sw_true rfl rfl rfl (by decide +kernel)) (pi_list (pv 0)) (blkOk_by (N := ["rows", "thing", "kept", "row"]) (sc := defScope s_set_after) (by decide +kernel)) (fun _ _ _ _ _ => pg_name (i := 3) sc_set_after.nd rfl (Or.inl rfl)) (fun _ _ _ _ _ => pts_one (pt_cmpR (r := rNeD K) (op_neD hr.units) (pe_slice (r := rSlT K) sl_tup (pv 3) po_none (po_some (pe_un un_neg pe_int))) (pe_slice (r := rSlT K) sl_tup (pv 1) (po_some pe_int) (po_some (pe_un un_neg pe_int))) (nomark _))) (fun _ _ _ _ _ => (pv 3)))
      (pss_cons (ps_if (pt_cmpR op_eq (pe_ix ix_tup (pv 1) (pe_un un_neg pe_int) (fun _ _ => rfl)) pe_int (nomark _)) (pss_one (ps_ret (pv 2))) pss_nil)
      (pss_one (ps_ret (pe_callB (cr_sortT (d := d) (B := 128) hd) (by rfl) m_sorted bt_sorted (pa_cons (pe_op op_cat (pv 2) (pe_lst (pa_cons (pe_slice sl_tup (pv 1) (po_some pe_int) po_none) pa_nil))) pa_nil)))))), ?_⟩
    have g := Go.refl (m := fun _ => False) e0
    have lq := hS.len
    -- kept
    refine ⟨_, rfl, l, rfl, ⟨_, SqL.of (e0 _ _ hl)⟩, fun D hD => ?_⟩
    have BD := g.fresh hD
    have ZD := g.fresh0 hD
    have th1 : cutV e.th (some 1) (some (-1)) = e.row.dropLast.map V.int := by
      cases e with
      | key b t0 c k f' => rfl
      | knob t0 c k v => rfl
      | voice t0 c v => rfl
      | mark t0 x => have h : ([] : List Int).length = d := er; simp at h; omega
    refine lc_list (xs := qs.map V.ref) (fun j H' => ∃ ks : List Addr, H' D = some (.lst (ks.map V.ref)) ∧ Rws H0 ks ((S.take j).filter fun x => decide (x.dropLast ≠ e.row.dropLast)) ∧ Go (fun _ => False) H0 B H0 H')
      ⟨[], upd_same, .nil, g.lay _ hD⟩ (fun j H' _ ⟨_, _, _, g⟩ => SqL.of (g.inn _ _ hl)) ?_ ?_
    · rintro j x H' hx ⟨ks, h1, h2, g⟩
      rw [List.getElem?_map] at hx
      obtain ⟨y, hy, rfl⟩ := Option.map_eq_some_iff.mp hx
      obtain ⟨r, hr', hyr⟩ := pairedAt hS hy
      obtain ⟨br, -⟩ := hB r (List.mem_of_getElem? hr')
      have lk : ks.length ≤ 62 := by
        rw [h2.len]
        refine Nat.le_trans (List.length_filter_le _ _) ?_
        rw [List.length_take]
        omega
      refine ⟨rfl, ?_⟩
      refine ⟨_, rfl, _, rfl, _, rfl, y, _, rfl, SqT.of (g.inn _ _ hyr), fun z => ?_, fun u hu => ?_⟩
      · have := z.2
        rw [sIx_neg1, List.length_map] at this
        omega
      rw [cut_last]
      obtain ⟨H2, e2, g, hu1, x2, _, _⟩ := g.ly (.tup (r.dropLast.map V.int)) hu
      have h1 := x2 _ _ h1
      rw [e2]
      refine ⟨_, rfl, _, rfl, _, rfl, _, rfl, t, _, rfl, SqT.of (g.inn _ _ ht), fun z => ?_, fun v hv => ?_⟩
      · have := z.1
        rw [sI_one _ _ (by cases e <;> show 0 < _ + 1 <;> omega)] at this
        omega
      rw [th1]
      obtain ⟨H3, e3, g, hv1, x3, _, _⟩ := g.ly (.tup (e.row.dropLast.map V.int)) hv
      have h1 := x3 _ _ h1
      have hu1 := x3 _ _ hu1
      rw [e3]
      refine ⟨_, _, dp_tupI (SqT.of hu1), dp_tupI (SqT.of hv1), shaped_tup _, shaped_tup _, ?_⟩
      rw [eqv_tup]
      refine ⟨_, rfl, ?_⟩
      have tk : S.take (j + 1) = S.take j ++ [r] := take_snoc hr'
      by_cases c1 : r.dropLast = e.row.dropLast
      · refine ifF (by rw [decide_eq_true c1]; rfl) ?_
        refine ⟨ks, h1, ?_, g⟩
        rw [tk, List.filter_append, List.filter_cons_of_neg (p := fun x : List Int => decide (x.dropLast ≠ e.row.dropLast)) (a := r) (by rw [decide_eq_false (fun z => z c1)]; exact Bool.false_ne_true)]
        rw [List.filter_nil, List.append_nil]
        exact h2
      · refine ifT (by rw [decide_eq_false c1]; rfl) ?_
        refine ⟨_, rfl, _, h1, mem_lt (by rw [List.length_map]; omega), ks ++ [y], ?_, ?_, g.turn _ BD ZD⟩
        · rw [upd_same, List.map_append]
          rfl
        · rw [tk, List.filter_append, List.filter_cons_of_pos (p := fun x : List Int => decide (x.dropLast ≠ e.row.dropLast)) (a := r) (decide_eq_true c1)]
          exact pairedApp h2 (.cons hyr .nil)
    · rintro H' ⟨ks, h1, h2, g⟩
      rw [List.length_map, lq, List.take_length] at h2
      -- the value
      obtain ⟨jl, hj1, hj2⟩ := last_row (e := e) (by omega)
      have lk : ks.length ≤ 62 := by
        rw [h2.len]
        exact Nat.le_trans (List.length_filter_le _ _) ln
      refine ⟨_, rfl, _, rfl, t, e.th, _, _, rfl, rfl, SqT.of (g.inn _ _ ht), at_last (j := jl) rfl hj1 hj2, rfl, _, rfl, ?_⟩
      have kB : RowsB d (S.filter fun x => decide (x.dropLast ≠ e.row.dropLast)) := hB.filter _
      by_cases z0 : e.row.getLastD 0 = 0
      · refine ifT (decide_eq_true (by rw [z0])) ?_
        have x := Ex.new (o := .lst (ks.map V.ref)) ZD
        refine ⟨_, rfl, q D ks _ H' (g.set BD h1 ZD) upd_same ?_⟩
        unfold setA
        dsimp only
        rw [if_pos z0]
        exact h2.up x
      · refine ifF (decide_eq_false fun y => z0 (V.int.inj y)) ?_
        refine ⟨_, rfl, _, rfl, _, rfl, t, _, rfl, SqT.of (g.inn _ _ ht), fun z => ?_, fun t1 n1 => ?_⟩
        · have := z.1
          rw [sI_one _ _ (by omega)] at this
          omega
        rw [th_row (by omega)]
        obtain ⟨G1, H1, e1, g, ht1, xG⟩ := g.nw (.tup (e.row.map V.int)) n1
        have h1 : H1 D = some (.lst (ks.map V.ref)) := by rw [← e1, upd_ne (ne_of_none h1 n1)]; exact h1
        rw [e1]
        refine ⟨(by show 1 ≤ sizeLine; decide), fun p2 n2 => ?_⟩
        obtain ⟨H2, e2, g, hp2, x2, _, _⟩ := g.ly (.lst [.ref t1]) n2
        have h1 := x2 _ _ h1
        rw [e2]
        refine ⟨D, p2, _, _, rfl, rfl, h1, hp2, mem_sz (by rw [List.length_map]; show _ + 1 ≤ _; omega), fun p3 n3 => ?_⟩
        obtain ⟨H3, e3, g, hp3, x3, _, _⟩ := g.ly (.lst (ks.map V.ref ++ [.ref t1])) n3
        rw [e3]
        have R : Rws G1 (ks ++ [t1]) ((S.filter fun x => decide (x.dropLast ≠ e.row.dropLast)) ++ [e.row]) := pairedApp (h2.up xG) (.cons ht1 .nil)
        have RB : RowsB d ((S.filter fun x => decide (x.dropLast ≠ e.row.dropLast)) ++ [e.row]) := kB.app (.one er eok.row)
        have exs : ks.map V.ref ++ [V.ref t1] = (ks ++ [t1]).map V.ref := by rw [List.map_append]; rfl
        rw [exs] at hp3
        refine ⟨p3, _, rfl, SqL.of hp3, by rw [List.length_map, List.length_append]; show _ + 1 < 64; omega, fun x hx => ?_, fun ys p4 hperm hsort n4 => ?_⟩
        · obtain ⟨q', ns, rfl, hq, hm⟩ := rws_mem R x hx
          exact ⟨ns, ⟨q', rfl, SqT.of (g.inn _ _ hq)⟩, (RB ns hm).1, (RB ns hm).2⟩
        · obtain ⟨ks', rfl, R'⟩ := sorted_rows R RB g.inn hperm hsort
          obtain ⟨G2, H4, e4, g, hp4, xG2⟩ := g.nw (.lst (ks'.map V.ref)) n4
          rw [e4]
          refine q p4 ks' G2 H4 g hp4 ?_
          unfold setA
          dsimp only
          rw [if_neg z0]
          exact R'.up xG2
end
end Rt

namespace Rt
open PySem PySem.Spec PyProof.Rows L2 RZ TL LamX
section
variable {P : Program} {w : World} {K : PySem.W.Frag} {mg : Str → Option Value} {base : Heap}
abbrev s_sta_after : Stmt := inClass (topS 10) 1
theorem sc_sta_after : FnScope ["self", "thing", "told"] ["self", "thing"] (defScope s_sta_after) := ⟨rfl, rfl, rfl, by decide +kernel, rfl, by decide +kernel, by decide +kernel⟩
theorem ok_sta_after {f C : Addr} {fd : FuncData} (F : Fun K "after" "Stand.after" s_sta_after f fd) (T : StandT K C) (MK_Stand : C8.Mak P w K mg base 1 "Stand" C (spNew C) []) (D_sounds_after : Def P w K mg base "sounds_after" 1 spSnd)
    (D_set_k : Def P w K mg base "set_after" 1 (spSet 3 fun e => ∃ t c k v, e = .knob t c k v)) (D_set_v : Def P w K mg base "set_after" 1 (spSet 2 fun e => ∃ t c v, e = .voice t c v)) : FnOk P w K mg base CX0 3 f fd ["self", "thing"] (spAfter C) := by
  refine F.ok sc_sta_after (fun vs H Q E h => ?_) (fun cdv A outer s B vs Q E hr h => ?_)
  · obtain ⟨a, t, st, n, e, H0, rfl, _⟩ := h
    rfl
  · obtain ⟨a, t, st, n, e, H0, rfl, e0, hs, hk, hn, ht, eok, q⟩ := h
    refine ⟨_, (pss_cons (ps_set (i := 2) sc_sta_after.nd rfl (Or.inl rfl) (pe_new0 MK_Stand hr (by decide) rfl))
      (pss_cons (ps_fld (pv 2) (pe_d D_sounds_after (hr.mono (by decide)) rfl (pa_cons (pe_fld (pv 0) rfl) (pa_cons (pv 1) pa_nil))) rfl)
      (pss_cons (ps_fld (pv 2) (pe_ifExp (pt_cmpR op_eq (pe_ix ix_tup (pv 1) pe_int (fun _ _ => rfl)) pe_str (nomark _)) (pe_d D_set_k (hr.mono (by decide)) rfl (pa_cons (pe_fld (pv 0) rfl) (pa_cons (pv 1) pa_nil))) (pe_fld (pv 0) rfl)) rfl)
      (pss_cons (ps_fld (pv 2) (pe_ifExp (pt_cmpR op_eq (pe_ix ix_tup (pv 1) pe_int (fun _ _ => rfl)) pe_str (nomark _)) (pe_d D_set_v (hr.mono (by decide)) rfl (pa_cons (pe_fld (pv 0) rfl) (pa_cons (pv 1) pa_nil))) (pe_fld (pv 0) rfl)) rfl)
      (pss_one (ps_ret (pv 2))))))), ?_⟩
    have g := Go.refl (m := fun _ => False) e0
    obtain ⟨dx0, l1, l2, l3, q1, q2, q3, h0, h1, h2, h3, r1, r2, r3⟩ := hs
    -- told = Stand()
    intro x dx nx ndx nex
    have Bx := g.fresh nx
    have g := (g.lay (.own x) ndx).lay (.ins C dx []) (by rw [upd_ne nex.symm]; exact nx)
    have Zx : H0 x = none := e0.free nx
    refine ⟨x, dx, H0, rfl, g.inn, upd_same, Zx, fun m1 m2 m3 H1 g1 hx1 hm1 hm2 hm3 n1 n2 n3 d12 d13 d23 => ⟨rfl, ?_⟩⟩
    have g : Go (fun _ => False) H0 B H0 H1 := g.trans g1 fun y hy z => by
      rw [z] at hy
      exact absurd Bx hy
    -- told._sounds
    refine ⟨_, rfl, a, C, dx0, _, _, rfl, g.inn _ _ h0, T.cl, T.ns, look_s _ _ _, _, rfl, l1, t, q1, st.snd, e, H0, rfl, g.inn, h1, r1, hk.b1, ht, by have := hk.l1; omega, fun p1 k1 G1 H2 g2 hp1 R1 => ?_⟩
    have zx1 := g2.new x (by rw [hx1]; simp) Zx
    have hx2 := g2.keep _ _ hx1 (fun z => z)
    have g := g.then g2
    refine ⟨_, rfl, x, C, dx, _, rfl, hx2, T.cl, T.ns, (by show 3 < 1000; decide), ?_⟩
    rw [put_s]
    have g := g.turn (.ins C dx (flds (.ref p1) (.ref m2) (.ref m3))) Bx zx1
    have hx2 : upd H2 x (.ins C dx (flds (.ref p1) (.ref m2) (.ref m3))) x = some (.ins C dx (flds (.ref p1) (.ref m2) (.ref m3))) := upd_same
    revert g hx2
    generalize upd H2 x (.ins C dx (flds (.ref p1) (.ref m2) (.ref m3))) = H2
    intro g hx2
    clear g1 g2 hx1 hm1 hm2 hm3
    have h0 := g.up _ _ h0
    have h2 := g.up _ _ h2
    have h3 := g.up _ _ h3
    have ht := g.up _ _ ht
    have r2 := r2.up g.up
    have r3 := r3.up g.up
    -- told._knobs
    refine ⟨_, rfl, t, e.th, _, e.th.getD 0 .non, rfl, rfl, SqT.of (g.inn _ _ ht), by cases e <;> rfl, by cases e <;> rfl, _, rfl, ?_⟩
    by_cases ek : ∃ t0 c k v, e = .knob t0 c k v
    -- a knob
    refine ifT (by obtain ⟨_, _, _, _, rfl⟩ := ek; exact decide_eq_true rfl) ?_
    refine ⟨_, rfl, a, C, dx0, _, _, rfl, g.inn _ _ h0, T.cl, T.nk, look_k _ _ _, _, rfl, l2, t, q2, st.knb, e, G1, rfl, g.inn, h2, r2, hk.b2, ht, ek, eok, (by obtain ⟨_, _, _, _, rfl⟩ := ek; rfl), by have := hk.l2; omega, fun p2 k2 G2 H3 g2 hp2 R2 => ?_⟩
    have zx2 := g2.new x (by rw [hx2]; simp) zx1
    have hx3 := g2.keep _ _ hx2 (fun z => z)
    have g := g.then g2
    have xG := g2.up
    have R2 : Rws G2 k2 (st.after e).knb := by obtain ⟨_, _, _, _, rfl⟩ := ek; exact R2
    clear g2
    rotate_left
    -- another thing
    refine ifF (by
      cases e with
      | key b t0 c k f' =>
        cases b
        · show decide (V.str (onW false) = V.str "knob") = false; decide +kernel
        · show decide (V.str (onW true) = V.str "knob") = false; decide +kernel
      | knob t0 c k v => exact absurd ⟨_, _, _, _, rfl⟩ ek
      | voice => show decide (V.str "voice" = V.str "knob") = false; decide +kernel
      | mark => show decide (V.str "mark" = V.str "knob") = false; decide +kernel) ?_
    refine ⟨_, rfl, a, C, dx0, _, _, rfl, g.inn _ _ h0, T.cl, T.nk, look_k _ _ _, ?_⟩
    have R2 : Rws G1 q2 (st.after e).knb := by
      have : (st.after e).knb = st.knb := by
        cases e with
        | knob t0 c k v => exact absurd ⟨_, _, _, _, rfl⟩ ek
        | _ => rfl
      rw [this]
      exact r2
    obtain ⟨p2, k2, G2, H3, ep, eH, zx2, hx3, g, xG, hp2, R2⟩ : ∃ (p2 : Addr) (k2 : List Addr) (G2 H3 : Hp), l2 = p2 ∧ H2 = H3 ∧ G2 x = none ∧ H3 x = some (.ins C dx (flds (.ref p1) (.ref m2) (.ref m3))) ∧ Go (fun _ => False) H0 B G2 H3 ∧ Ex G1 G2 ∧ G2 p2 = some (.lst (k2.map V.ref)) ∧ Rws G2 k2 (st.after e).knb := ⟨l2, q2, G1, H2, rfl, rfl, zx1, hx2, g, Ex.refl _, h2, R2⟩
    rw [ep, eH]
    all_goals
      refine ⟨_, rfl, x, C, dx, _, rfl, hx3, T.cl, T.nk, (by show 3 < 1000; decide), ?_⟩
      rw [put_k]
      have g := g.turn (.ins C dx (flds (.ref p1) (.ref p2) (.ref m3))) Bx zx2
      have hx3 : upd H3 x (.ins C dx (flds (.ref p1) (.ref p2) (.ref m3))) x = some (.ins C dx (flds (.ref p1) (.ref p2) (.ref m3))) := upd_same
      revert g hx3
      generalize upd H3 x (.ins C dx (flds (.ref p1) (.ref p2) (.ref m3))) = H3
      intro g hx3
      have h0 := xG _ _ h0
      have h3 := xG _ _ h3
      have ht := xG _ _ ht
      have r3 := r3.up xG
      have hp1 := xG _ _ hp1
      have R1 := R1.up xG
      -- told._voices
      refine ⟨_, rfl, t, e.th, _, e.th.getD 0 .non, rfl, rfl, SqT.of (g.inn _ _ ht), by cases e <;> rfl, by cases e <;> rfl, _, rfl, ?_⟩
      by_cases ev : ∃ t0 c v, e = .voice t0 c v
      · refine ifT (by obtain ⟨_, _, _, rfl⟩ := ev; exact decide_eq_true rfl) ?_
        refine ⟨_, rfl, a, C, dx0, _, _, rfl, g.inn _ _ h0, T.cl, T.nv, look_v _ _ _, _, rfl, l3, t, q3, st.voi, e, G2, rfl, g.inn, h3, r3, hk.b3, ht, ev, eok, (by obtain ⟨_, _, _, rfl⟩ := ev; rfl), by have := hk.l3; omega, fun p3 k3 G3 H4 g3 hp3 R3 => ?_⟩
        have zx3 := g3.new x (by rw [hx3]; simp) zx2
        have hx4 := g3.keep _ _ hx3 (fun z => z)
        have R3 : Rws G3 k3 (st.after e).voi := by obtain ⟨_, _, _, rfl⟩ := ev; exact R3
        have xG3 := g3.up
        have g := g.then g3
        refine ⟨_, rfl, x, C, dx, _, rfl, hx4, T.cl, T.nv, (by show 3 < 1000; decide), ?_⟩
        rw [put_v]
        refine ⟨_, rfl, q x _ _ ((g.turn _ Bx zx3).set Bx upd_same zx3) nx ?_⟩
        have xN := Ex.new (o := .ins C dx (flds (.ref p1) (.ref p2) (.ref p3))) zx3
        exact ⟨dx, p1, p2, p3, k1, k2, k3, upd_same, xN _ _ (xG3 _ _ hp1), xN _ _ (xG3 _ _ hp2), xN _ _ hp3, (R1.up xG3).up xN, (R2.up xG3).up xN, R3.up xN⟩
      · refine ifF (by
          cases e with
          | key b t0 c k f' =>
            cases b
            · show decide (V.str (onW false) = V.str "voice") = false; decide +kernel
            · show decide (V.str (onW true) = V.str "voice") = false; decide +kernel
          | knob => show decide (V.str "knob" = V.str "voice") = false; decide +kernel
          | voice => exact absurd ⟨_, _, _, rfl⟩ ev
          | mark => show decide (V.str "mark" = V.str "voice") = false; decide +kernel) ?_
        refine ⟨_, rfl, a, C, dx0, _, _, rfl, g.inn _ _ h0, T.cl, T.nv, look_v _ _ _, ?_⟩
        have R3 : Rws G2 q3 (st.after e).voi := by
          have : (st.after e).voi = st.voi := by
            cases e with
            | voice => exact absurd ⟨_, _, _, rfl⟩ ev
            | _ => rfl
          rw [this]
          exact r3
        refine ⟨_, rfl, x, C, dx, _, rfl, hx3, T.cl, T.nv, (by show 3 < 1000; decide), ?_⟩
        rw [put_v]
        refine ⟨_, rfl, q x _ _ ((g.turn _ Bx zx2).set Bx upd_same zx2) nx ?_⟩
        have xN := Ex.new (o := .ins C dx (flds (.ref p1) (.ref p2) (.ref l3))) zx2
        exact ⟨dx, p1, p2, l3, k1, k2, q3, upd_same, xN _ _ hp1, xN _ _ hp2, xN _ _ h3, R1.up xN, R2.up xN, R3.up xN⟩
end
end Rt

namespace Rt
open PySem PySem.Spec PyProof.Rows L2 RZ TL LamX
section
variable {P : Program} {w : World} {K : PySem.W.Frag} {mg : Str → Option Value} {base : Heap}
abbrev s_is_within : Stmt := topS 5
theorem sc_is_within : FnScope ["thing", "low", "high"] ["thing", "low", "high"] (defScope s_is_within) := ⟨rfl, rfl, rfl, by decide +kernel, rfl, by decide +kernel, by decide +kernel⟩
theorem tyS {K : PySem.W.Frag} {H : Hp} (s : Str) : TyX K H (.str s) (.type "str") := .base (.str s)
theorem tyI {K : PySem.W.Frag} {H : Hp} (z : Int) : TyX K H (.int z) (.type "int") := .base (.int z)
/-- a number between its bounds -/
def spWithin : Sp := fun vs H Q _ => ∃ (x : V) (lo hi : Int), vs = [x, .int lo, .int hi] ∧ Scal x ∧ Q (.bl (withinV x lo hi)) H
theorem ok_is_within {f : Addr} {fd : FuncData} (F : Fun K "is_within" "is_within" s_is_within f fd) (m_isinstance : mg "isinstance" = none) (m_int : mg "int" = none) (m_bool : mg "bool" = none) : FnOk P w K mg base CX0 1 f fd ["thing", "low", "high"] spWithin := by
  refine F.ok sc_is_within (fun vs H Q E h => ?_) (fun cdv A outer s H vs Q E hr h => ?_)
  · obtain ⟨x, lo, hi, rfl, _⟩ := h
    rfl
  · obtain ⟨x, lo, hi, rfl, hx, q⟩ := h
    refine ⟨_, (pss_one (ps_ret (pe_and (pe_callB call_isi (by rfl) m_isinstance bt_isinstance (pa_cons (pv 0) (pa_cons (pe_bltn (v := .ty "int") (by rfl) m_int bt_int rfl) pa_nil))) (pe_and (pe_not (pe_callB call_isi (by rfl) m_isinstance bt_isinstance (pa_cons (pv 0) (pa_cons (pe_bltn (v := .ty "bool") (by rfl) m_bool bt_bool rfl) pa_nil)))) (pe_one (pe_chain op_le op_le (pv 1) (pv 0) (pv 2))))))), ?_⟩
    rcases hx with ⟨z, rfl⟩ | ⟨z, rfl, _⟩
    · refine ⟨_, rfl, _, _, _, _, true, rfl, .ty "int", tyI z, kit_ty (by decide +kernel), _, rfl, ifT rfl ?_⟩
      refine ⟨_, rfl, _, _, _, _, false, rfl, .ty "bool", tyI z, kit_ty (by decide +kernel), _, rfl, _, rfl, ifT rfl ?_⟩
      refine ⟨_, rfl, _, rfl, _, _, rfl, rfl, _, rfl, ifD (fun c => ?_) (fun c => ?_)⟩
      · refine ⟨_, rfl, _, _, rfl, rfl, ?_⟩
        have e : withinV (.int z) lo hi = decide (z ≤ hi) := by
          show (decide (lo ≤ z) && decide (z ≤ hi)) = _
          rw [decide_eq_true c, Bool.true_and]
        rw [e] at q
        exact q
      · have e : withinV (.int z) lo hi = false := by
          show (decide (lo ≤ z) && decide (z ≤ hi)) = _
          rw [decide_eq_false c, Bool.false_and]
        rw [e] at q
        exact q
    · refine ⟨_, rfl, _, _, _, _, false, rfl, .ty "int", tyS z, kit_ty (by decide +kernel), _, rfl, ifF rfl q⟩
abbrev s_need_tick0 : Stmt := topS 6
theorem sc_need_tick0 : FnScope ["tick"] ["tick"] (defScope s_need_tick0) := ⟨rfl, rfl, rfl, by decide +kernel, rfl, by decide +kernel, by decide +kernel⟩
theorem ok_need_tick0 {f : Addr} {fd : FuncData} (F : Fun K "need_tick" "need_tick" s_need_tick0 f fd) (D_is_within : Def P w K mg base "is_within" 1 spWithin) (c_MOST_TICK : ∃ u, mg "MOST_TICK" = some u ∧ L2.RelV (.int 999999) u) : FnOk P w K mg base CX0 2 f fd ["tick"] spTick := by
  refine F.ok sc_need_tick0 (fun vs H Q E h => ?_) (fun cdv A outer s H vs Q E hr h => ?_)
  · obtain ⟨t, rfl, _⟩ := h
    rfl
  · obtain ⟨t, rfl, c1, c2, q⟩ := h
    refine ⟨_, (pss_one (ps_if (pt_not (pt_val (pe_d D_is_within (hr.mono (by decide)) rfl (pa_cons (pv 0) (pa_cons pe_int (pa_cons (C8.pe_gc rfl c_MOST_TICK) pa_nil)))))) (pss_one ps_never) pss_nil)), ?_⟩
    refine ⟨_, rfl, _, _, _, rfl, .inl ⟨_, rfl⟩, _, rfl, ?_⟩
    have e : withinV (.int t) 0 999999 = (decide (0 ≤ t) && decide (t ≤ 999999)) := rfl
    rw [e, decide_eq_true c1, decide_eq_true c2]
    exact ifF rfl q
abbrev s_stand_behind : Stmt := topS 12
theorem sc_stand_behind : FnScope ["stand", "events", "event"] ["stand", "events"] (defScope s_stand_behind) := ⟨rfl, rfl, rfl, by decide +kernel, rfl, by decide +kernel, by decide +kernel⟩
def spStandBehind (C : Addr) : Sp := fun vs H Q _ => ∃ (a0 r : Addr) (s0 : Sta) (n : Nat) (ps : List Addr) (es : List Evt) (H0 : Hp), vs = [.ref a0, .ref r] ∧ Ex H0 H ∧ StaAt C H0 a0 s0 ∧ s0.Ok n ∧ n + es.length ≤ 62 ∧ H0 r = some (.lst (ps.map V.ref)) ∧ Evs H0 ps (es.map Evt.v) ∧ (∀ e ∈ es, e.Ok) ∧
  ∀ (a : Addr) (G H' : Hp), Go (fun _ => False) H0 H G H' → (a = a0 ∨ H a = none) → StaAt C G a (es.foldl Sta.after s0) → Q (.ref a) H'
theorem fold_ok : ∀ (es : List Evt) (s : Sta) (n : Nat), s.Ok n → (∀ e ∈ es, e.Ok) → (es.foldl Sta.after s).Ok (n + es.length) := by
  intro es
  induction es with
  | nil => intro s n h _; exact h
  | cons x xs ih =>
    intro s n h hx
    have := ih (s.after x) (n + 1) (h.after (hx x (.head _))) fun e he => hx e (.tail _ he)
    rw [List.length_cons, show n + (xs.length + 1) = n + 1 + xs.length by omega]
    exact this
theorem ok_stand_behind {f C : Addr} {fd : FuncData} (F : Fun K "stand_behind" "stand_behind" s_stand_behind f fd) (M_Stand_after : C8.Met P w K mg base 3 C "after" (spAfter C) []) : FnOk P w K mg base CX0 4 f fd ["stand", "events"] (spStandBehind C) := by
  refine F.ok sc_stand_behind (fun vs H Q E h => ?_) (fun cdv A outer s B vs Q E hr h => ?_)
  · obtain ⟨a0, r, s0, n, ps, es, H0, rfl, _⟩ := h
    rfl
  · obtain ⟨a0, r, s0, n, ps, es, H0, rfl, e0, hs, hok0, hl, hr0, hev, hok, q⟩ := h
    refine ⟨_, (pss_cons (ps_for PassesOwn.never rfl (pi_list (pv 1)) (pg_name (i := 2) sc_stand_behind.nd rfl (Or.inl rfl)) (pss_one (ps_set (i := 0) sc_stand_behind.nd rfl (Or.inl rfl) (C8.pe_mt M_Stand_after hr (by decide) (pv 0) (pa_cons (pe_slice sl_tup (pv 2) (po_some pe_int) po_none) pa_nil)))))
      (pss_one (ps_ret (pv 0)))), ?_⟩
    have g := Go.refl (m := fun _ => False) e0
    have lp : (ps.map V.ref).length = es.length := by rw [List.length_map, hev.len]
    refine ⟨_, rfl, r, rfl, ⟨_, SqL.of (g.inn _ _ hr0)⟩, for_list (K := K) (a := r) (xs := ps.map V.ref) (fun i σ H' => ∃ (v3 : Option V) (a : Addr) (G : Hp), σ = [some (.ref a), some (.ref r), v3] ∧ Go (fun _ => False) H0 B G H' ∧ (a = a0 ∨ B a = none) ∧ StaAt C G a ((es.take i).foldl Sta.after s0))
      ⟨none, a0, H0, rfl, g, .inl rfl, hs⟩ (fun i σ H' _ ⟨_, _, G, _, g, _⟩ => SqL.of (g.inn _ _ (g.up _ _ hr0))) ?_ ?_⟩
    · rintro i y σ H' hx ⟨v3, a, G, rfl, g, Ba, hS⟩
      obtain ⟨p, e, rfl, hp, he, hpe⟩ := evs_at (hev.up g.up) hx
      have eok := hok e (List.mem_of_getElem? he)
      have il := (List.getElem?_eq_some_iff.mp he).1
      obtain ⟨dxa, l1, l2, l3, q1, q2, q3, hins, _⟩ := id hS
      refine ⟨_, rfl, a, dxa, _, rfl, g.inn _ _ hins, look_no _ _ _ (by decide +kernel) (by decide +kernel) (by decide +kernel), ?_⟩
      refine ⟨_, rfl, _, rfl, p, _, rfl, SqT.of (g.inn _ _ hpe), fun z => ?_, fun t n1 => ?_⟩
      · have := z.1
        rw [sI_one _ _ (by have := v_len e; omega)] at this
        omega
      rw [cut_th]
      obtain ⟨G1, H2, e2, g, ht, xG1⟩ := g.nw (.tup e.th) n1
      rw [e2]
      have ok : ((es.take i).foldl Sta.after s0).Ok 62 := (fold_ok (es.take i) s0 n hok0 fun e he => hok e (List.mem_of_mem_take he)).mono (by
        rw [List.length_take]
        omega)
      refine ⟨a, t, (es.take i).foldl Sta.after s0, 62, e, G1, rfl, g.inn, hS.up xG1, ok, Nat.le_refl _, ht, eok, fun b G2 H3 g2 nb hS2 => ?_⟩
      refine ⟨_, b, G2, rfl, g.then g2, .inr (g.fresh nb), ?_⟩
      rw [take_snoc he, List.foldl_append]
      exact hS2
    · rintro σ H' ⟨v3, a, G, rfl, g, Ba, hS⟩
      rw [lp, List.take_length] at hS
      exact ⟨_, rfl, q a G H' g Ba hS⟩
abbrev s_stand_at : Stmt := topS 11
theorem sc_stand_at : FnScope ["track", "tick", "event"] ["track", "tick"] (defScope s_stand_at) := ⟨rfl, rfl, rfl, by decide +kernel, rfl, by decide +kernel, by decide +kernel⟩
theorem ok_stand_at {f C : Addr} {fd : FuncData} (F : Fun K "stand_at" "stand_at" s_stand_at f fd) (MK_Stand : C8.Mak P w K mg base 1 "Stand" C (spNew C) []) (D_stand_behind : Def P w K mg base "stand_behind" 4 (spStandBehind C)) (D_need_tick : Def P w K mg base "need_tick" 2 spTick) : FnOk P w K mg base CX0 5 f fd ["track", "tick"] (spStandAt C) := by
  refine F.ok sc_stand_at (fun vs H Q E h => ?_) (fun cdv A outer s B vs Q E hr h => ?_)
  · obtain ⟨r, tk, ps, es, H0, rfl, _⟩ := h
    rfl
  · obtain ⟨r, tk, ps, es, H0, rfl, e0, hr0, hev, hl, hok, t0, t1, q⟩ := h
    refine ⟨_, (pss_cons (ps_expr (pe_d D_need_tick (hr.mono (by decide)) rfl (pa_cons (pv 1) pa_nil)))
      (pss_one (ps_ret (pe_d D_stand_behind (hr.mono (by decide)) rfl (pa_cons (pe_new0 MK_Stand hr (by decide) rfl) (pa_cons (pe_lc (own := [("event", 2)]) (g := gName 2)  rfl sc_stand_at.nd (pi_list (pv 0)) (blkOk_by (N := ["track", "tick", "event"]) (sc := defScope s_stand_at) (by decide +kernel)) (fun _ _ _ _ _ => pg_name (i := 2) sc_stand_at.nd rfl (Or.inl rfl)) (fun _ _ _ _ _ => pts_one (pt_cmpR op_le (pe_ix (r := rIxT K) ix_tup (pv 2) pe_int (fun _ _ => rfl)) (pv 1) (nomark _))) (fun _ _ _ _ _ => (pv 2))) pa_nil)))))), ?_⟩
    refine ⟨_, rfl, tk, rfl, t0, t1, ?_⟩
    have g := Go.refl (m := fun _ => False) e0
    have lp : (ps.map V.ref).length = es.length := by rw [List.length_map, hev.len]
    -- Stand()
    intro x dx nx ndx nex
    have Bx := g.fresh nx
    have g := (g.lay (.own x) ndx).lay (.ins C dx []) (by rw [upd_ne nex.symm]; exact nx)
    have Zx : H0 x = none := e0.free nx
    refine ⟨x, dx, H0, rfl, g.inn, upd_same, Zx, fun m1 m2 m3 H1 g1 hx1 hm1 hm2 hm3 n1 n2 n3 d12 d13 d23 => ⟨rfl, ?_⟩⟩
    have f1 := g.fresh n1
    have f2 := g.fresh n2
    have f3 := g.fresh n3
    have x1 := ne_of_none (upd_same (H := upd B dx (.own x)) (a := x) (o := HO.ins C dx [])) n1
    have x2 := ne_of_none (upd_same (H := upd B dx (.own x)) (a := x) (o := HO.ins C dx [])) n2
    have x3 := ne_of_none (upd_same (H := upd B dx (.own x)) (a := x) (o := HO.ins C dx [])) n3
    have g : Go (fun _ => False) H0 B H0 H1 := g.trans g1 fun y hy z => by
      rw [z] at hy
      exact absurd Bx hy
    have z1 := e0.free f1
    have z2 := e0.free f2
    have z3 := e0.free f3
    obtain ⟨G0, g, xG, hS⟩ := settle_new g hx1 hm1 hm2 hm3 Bx f1 f2 f3 Zx z1 z2 z3 x1 x2 x3 d12 d13 d23
    have hr0 := xG _ _ hr0
    have hev := hev.up xG
    -- the events up to the tick
    refine ⟨_, rfl, r, rfl, ⟨_, SqL.of (g.inn _ _ hr0)⟩, fun D hD => ?_⟩
    have BD := g.fresh hD
    have ZD := g.fresh0 hD
    refine lc_list (xs := ps.map V.ref) (fun j HH => ∃ qs : List Addr, HH D = some (.lst (qs.map V.ref)) ∧ Evs G0 qs (((es.take j).filter fun e => decide (e.tick ≤ tk)).map Evt.v) ∧ Go (fun _ => False) H0 B G0 HH)
      ⟨[], upd_same, Evs.nil _, g.lay _ hD⟩ (fun j HH _ ⟨_, _, _, g⟩ => SqL.of (g.inn _ _ hr0)) ?_ ?_
    · rintro j x HH hx ⟨qs, h1, h2, g⟩
      obtain ⟨q1, e, rfl, hq, he, hqx⟩ := evs_at hev hx
      have hj := (List.getElem?_eq_some_iff.mp he).1
      have tk' : (es.take (j + 1)).filter (fun e => decide (e.tick ≤ tk)) = (es.take j).filter (fun e => decide (e.tick ≤ tk)) ++ [e].filter fun e => decide (e.tick ≤ tk) := by
        rw [take_snoc he, List.filter_append]
      refine ⟨rfl, ?_⟩
      refine ⟨_, rfl, q1, _, _, _, rfl, rfl, SqT.of (g.inn _ _ hqx), at_of (j := 0) rfl (v_tick e), _, rfl, _, _, rfl, rfl, _, rfl, ?_⟩
      by_cases c : e.tick ≤ tk
      · refine ifT (decide_eq_true c) ?_
        have lq := h2.len
        have lf : ((es.take j).filter fun e => decide (e.tick ≤ tk)).length ≤ j := Nat.le_trans (List.length_filter_le _ _) (by rw [List.length_take]; omega)
        refine ⟨_, rfl, _, h1, mem_lt (by rw [List.length_map]; omega), qs ++ [q1], ?_, ?_, g.turn _ BD ZD⟩
        · rw [upd_same, List.map_append]
          rfl
        · rw [tk', List.filter_cons_of_pos (p := fun e : Evt => decide (e.tick ≤ tk)) (decide_eq_true c), List.filter_nil, List.map_append]
          exact h2.snoc hqx
      · refine ifF (decide_eq_false c) ?_
        refine ⟨qs, h1, ?_, g⟩
        rw [tk', List.filter_cons_of_neg (p := fun e : Evt => decide (e.tick ≤ tk)) (by rw [decide_eq_false c]; exact Bool.false_ne_true), List.filter_nil, List.append_nil]
        exact h2
    · rintro HH ⟨qs, h1, h2, g⟩
      rw [lp, List.take_length] at h2
      have g := g.set BD h1 ZD
      have xD : Ex G0 (upd G0 D (.lst (qs.map V.ref))) := Ex.new ZD
      have lf : (es.filter fun e => decide (e.tick ≤ tk)).length ≤ es.length := List.length_filter_le _ _
      refine ⟨x, D, Sta.nil, 0, qs, upTo es tk, _, rfl, g.inn, hS.up xD, Sta.Ok.nil, by unfold upTo; omega, upd_same, h2.up xD, fun e he => hok e (List.mem_filter.mp he).1, fun a G H' g2 hb hs2 => ?_⟩
      refine q a G H' (g.then g2) ?_ hs2
      rcases hb with rfl | hb
      · exact Bx
      · exact g.fresh hb
end
end Rt

namespace Rt
open PySem PySem.Spec PyProof.Rows L2 RZ TL LamX
/-! ### what sounds is what is open -/
def rowE (es : List Evt) (b : Nat) : List Int := match es[b]? with
  | some e => e.row
  | none => []
def CkSorted (S : List (List Int)) : Prop := S.Pairwise fun a b => leCK (rck a) (rck b) = true
def SndInv (es : List Evt) (rows : List Row) (S : List (List Int)) : Prop := CkSorted S ∧ ∀ ck, S.filter (fun r => decide (rck r = ck)) = (openAt es rows ck).map (rowE es)
theorem leCK_refl (a : Int × Int) : leCK a a = true := decide_eq_true (.inr ⟨rfl, Int.le_refl _⟩)
theorem leCK_trans {a b c : Int × Int} (h1 : leCK a b = true) (h2 : leCK b c = true) : leCK a c = true := by
  have h1 := of_decide_eq_true h1
  have h2 := of_decide_eq_true h2
  exact decide_eq_true (by omega)
theorem leCK_anti {a b : Int × Int} (h1 : leCK a b = true) (h2 : leCK b a = true) : a = b := by
  have h1 := of_decide_eq_true h1
  have h2 := of_decide_eq_true h2
  obtain ⟨x, y⟩ := a
  obtain ⟨z, w⟩ := b
  dsimp only at h1 h2
  have e1 : x = z := by omega
  have e2 : y = w := by omega
  rw [e1, e2]
theorem leCK_total {a b : Int × Int} (h : ¬ leCK a b = true) : leCK b a = true := by
  have h : ¬ (a.1 < b.1 ∨ a.1 = b.1 ∧ a.2 ≤ b.2) := fun z => h (decide_eq_true z)
  exact decide_eq_true (by omega)
/-- in a sorted list those up to a key come first -/
theorem split_at {ck : Int × Int} : ∀ {S : List (List Int)}, CkSorted S → (∀ x ∈ S.take (S.filter fun x => leCK (rck x) ck).length, leCK (rck x) ck = true) ∧ ∀ x ∈ S.drop (S.filter fun x => leCK (rck x) ck).length, leCK (rck x) ck = false
  | [], _ => ⟨(fun x h => nomatch h), (fun x h => nomatch h)⟩
  | y :: S, h => by
    have h1 := List.pairwise_cons.mp h
    by_cases c : leCK (rck y) ck = true
    · rw [List.filter_cons_of_pos (p := fun x => leCK (rck x) ck) c, List.length_cons]
      obtain ⟨i1, i2⟩ := split_at (ck := ck) (S := S) h1.2
      refine ⟨fun x hx => ?_, fun x hx => i2 x hx⟩
      rcases List.mem_cons.mp hx with e | hx
      · rw [e]; exact c
      · exact i1 x hx
    · have no : ∀ x ∈ S, ¬ leCK (rck x) ck = true := fun x hx z => c (leCK_trans (h1.1 x hx) z)
      rw [List.filter_cons_of_neg (p := fun x => leCK (rck x) ck) c, List.filter_eq_nil_iff.mpr no]
      refine ⟨fun x hx => (nomatch hx), fun x hx => ?_⟩
      rcases List.mem_cons.mp hx with e | hx
      · rw [e]; exact Bool.eq_false_iff.mpr c
      · exact Bool.eq_false_iff.mpr (no x hx)
theorem ins_sorted {S : List (List Int)} {r : List Int} (h : CkSorted S) : CkSorted (insN S r) := by
  obtain ⟨h1, h2⟩ := split_at (ck := rck r) h
  unfold insN
  dsimp only
  revert h1 h2
  generalize (S.filter fun x => leCK (rck x) (rck r)).length = n
  intro h1 h2
  have hs := h
  rw [← List.take_append_drop n S] at hs
  unfold CkSorted at hs ⊢
  rw [List.pairwise_append] at hs
  rw [List.append_assoc, List.pairwise_append]
  refine ⟨hs.1, List.pairwise_cons.mpr ⟨fun b hb => ?_, hs.2.1⟩, fun a ha b hb => ?_⟩
  · exact leCK_total (by rw [h2 b hb]; exact Bool.false_ne_true)
  · rcases List.mem_cons.mp hb with e | hb
    · rw [e]; exact h1 a ha
    · exact hs.2.2 a ha b hb
theorem ins_filter {S : List (List Int)} {r : List Int} (h : CkSorted S) (ck : Int × Int) : (insN S r).filter (fun x => decide (rck x = ck)) = if rck r = ck then S.filter (fun x => decide (rck x = ck)) ++ [r] else S.filter (fun x => decide (rck x = ck)) := by
  obtain ⟨h1, h2⟩ := split_at (ck := rck r) h
  unfold insN
  dsimp only
  revert h1 h2
  generalize (S.filter fun x => leCK (rck x) (rck r)).length = n
  intro h1 h2
  rw [List.filter_append, List.filter_append]
  have hS : S.filter (fun x => decide (rck x = ck)) = (S.take n).filter (fun x => decide (rck x = ck)) ++ (S.drop n).filter (fun x => decide (rck x = ck)) := by
    rw [← List.filter_append, List.take_append_drop]
  by_cases e : rck r = ck
  · rw [if_pos e, hS]
    have no : (S.drop n).filter (fun x => decide (rck x = ck)) = [] := List.filter_eq_nil_iff.mpr fun x hx z => by
      have z := of_decide_eq_true z
      have := h2 x hx
      rw [z, ← e, leCK_refl] at this
      cases this
    rw [no, List.append_nil, List.append_nil, List.filter_cons_of_pos (p := fun x : List Int => decide (rck x = ck)) (a := r) (decide_eq_true e)]
    rfl
  · rw [if_neg e, hS, List.filter_cons_of_neg (p := fun x : List Int => decide (rck x = ck)) (a := r) (by rw [decide_eq_false e]; exact Bool.false_ne_true), List.filter_nil, List.append_nil]
theorem del_sub (p : List Int → Bool) : ∀ S : List (List Int), (delF p S).Sublist S
  | [] => .slnil
  | x :: xs => by
    unfold delF
    split
    · exact .cons _ (List.Sublist.refl _)
    · exact (del_sub p xs).cons₂ _
theorem del_filter {c ck : Int × Int} : ∀ S : List (List Int), (delF (fun x => decide (rck x = c)) S).filter (fun x => decide (rck x = ck)) = if ck = c then (S.filter (fun x => decide (rck x = ck))).tail else S.filter (fun x => decide (rck x = ck))
  | [] => by split <;> rfl
  | x :: xs => by
    have ih := del_filter (c := c) (ck := ck) xs
    unfold delF
    by_cases h : rck x = c
    · rw [if_pos (decide_eq_true h)]
      by_cases e : ck = c
      · rw [if_pos e, List.filter_cons_of_pos (p := fun x : List Int => decide (rck x = ck)) (a := x) (decide_eq_true (h.trans e.symm))]
        rfl
      · rw [if_neg e, List.filter_cons_of_neg (p := fun x : List Int => decide (rck x = ck)) (a := x) (by rw [decide_eq_false (fun z => e (z.symm.trans h))]; exact Bool.false_ne_true)]
    · rw [if_neg (by rw [decide_eq_false h]; exact Bool.false_ne_true)]
      by_cases e : rck x = ck
      · have ne : ¬ ck = c := fun z => h (e.trans z)
        rw [if_neg ne] at ih ⊢
        rw [List.filter_cons_of_pos (p := fun x : List Int => decide (rck x = ck)) (a := x) (decide_eq_true e), List.filter_cons_of_pos (p := fun x : List Int => decide (rck x = ck)) (a := x) (decide_eq_true e), ih]
      · rw [List.filter_cons_of_neg (p := fun x : List Int => decide (rck x = ck)) (a := x) (by rw [decide_eq_false e]; exact Bool.false_ne_true), List.filter_cons_of_neg (p := fun x : List Int => decide (rck x = ck)) (a := x) (by rw [decide_eq_false e]; exact Bool.false_ne_true), ih]
theorem rowE_at {es : List Evt} {i : Nat} {e : Evt} (h : es[i]? = some e) : rowE es i = e.row := by
  unfold rowE
  rw [h]
/-- behind each event what sounds is what is open -/
theorem snd_inv (es : List Evt) : ∀ i, i ≤ es.length → SndInv es (walkN es i).rows (behind (es.take i)).snd
  | 0, _ => ⟨List.Pairwise.nil, fun ck => rfl⟩
  | i + 1, hi => by
    obtain ⟨h1, h2⟩ := snd_inv es i (by omega)
    have he : es[i]? = some es[i] := List.getElem?_eq_getElem (by omega)
    generalize es[i] = e at he
    rw [take_snoc he, behind_snoc]
    show SndInv es (stepN es i (walkN es i)).rows (sndA (behind (es.take i)).snd e)
    cases e with
    | key b t c k f =>
      cases b with
      | true =>
        rw [step_on he]
        refine ⟨ins_sorted h1, fun ck => ?_⟩
        show (insN _ _).filter _ = _
        rw [ins_filter h1, open_snoc, ck_at he, h2 ck]
        by_cases e2 : (c, k) = ck
        · rw [if_pos (show rck [c, k, f] = ck from e2), if_pos (by rw [e2]), List.map_append]
          show _ ++ [[c, k, f]] = _ ++ [rowE es i]
          rw [rowE_at he]
          rfl
        · rw [if_neg (show ¬ rck [c, k, f] = ck from e2), if_neg (fun z => e2 (Option.some.inj z))]
      | false =>
        have srt' : CkSorted (delF (fun x => decide (rck x = (c, k))) (behind (es.take i)).snd) := h1.sublist (del_sub _ _)
        cases ho : openAt es (walkN es i).rows (c, k) with
        | nil =>
          rw [step_off0 he ho]
          refine ⟨srt', fun ck => ?_⟩
          show (delF _ _).filter _ = _
          rw [del_filter]
          by_cases e2 : ck = (c, k)
          · rw [if_pos e2, e2, h2, ho]
            rfl
          · rw [if_neg e2, h2]
        | cons b r =>
          rw [step_off1 he ho]
          refine ⟨srt', fun ck => ?_⟩
          show (delF _ _).filter _ = _
          rw [del_filter, open_end (asc_nd (walkN_asc es i)) ho]
          by_cases e2 : ck = (c, k)
          · rw [if_pos e2, if_pos e2, e2, h2, ho]
            rfl
          · rw [if_neg e2, if_neg e2, h2]
    | knob t c k v => rw [step_no he rfl]; exact ⟨h1, h2⟩
    | voice t c v => rw [step_no he rfl]; exact ⟨h1, h2⟩
    | mark t s => rw [step_no he rfl]; exact ⟨h1, h2⟩
/-! ### open in the middle, seen from the end -/
def activeAt (m : Nat) (r : Row) : Bool := decide (r.1 < m) && (match r.2 with | none => true | some e => decide (m ≤ e))
theorem ends_lt (es : List Evt) : ∀ i, ∀ r ∈ (walkN es i).rows, ∀ e, r.2 = some e → e < i
  | 0, r, h, _, _ => nomatch h
  | i + 1, r, h, e, he => by
    have ih := ends_lt es i
    have h : r ∈ (stepN es i (walkN es i)).rows := h
    unfold stepN at h
    split at h
    · rcases List.mem_append.mp h with h | h
      · exact Nat.lt_succ_of_lt (ih r h e he)
      · rw [List.mem_singleton.mp h] at he
        cases he
    · split at h
      · exact Nat.lt_succ_of_lt (ih r h e he)
      · obtain ⟨r', hr', rfl⟩ := List.mem_map.mp h
        split at he
        · cases he
          exact Nat.lt_succ_self _
        · exact Nat.lt_succ_of_lt (ih r' hr' e he)
    · exact Nat.lt_succ_of_lt (ih r h e he)
theorem active_now {es : List Evt} {m : Nat} : ((walkN es m).rows.filter (activeAt m)).map (·.1) = ((walkN es m).rows.filter fun r => decide (r.2 = none)).map (·.1) := by
  congr 1
  refine List.filter_congr fun r hr => ?_
  have h1 := (walkN_asc es m).2 r hr
  unfold activeAt
  rw [decide_eq_true h1, Bool.true_and]
  cases e : r.2 with
  | none => rfl
  | some e' =>
    have := ends_lt es m r hr e' e
    show decide (m ≤ e') = decide (some e' = none)
    rw [decide_eq_false (by omega), decide_eq_false (fun z => nomatch z)]
theorem active_set {rows : List Row} {m b n : Nat} (hn : m ≤ n) (h : ∀ r ∈ rows, r.1 = b → r.2 = none) : ((setEnd rows b n).filter (activeAt m)).map (·.1) = (rows.filter (activeAt m)).map (·.1) := by
  induction rows with
  | nil => rfl
  | cons r rs ih =>
    have ih := ih fun x hx => h x (.tail _ hx)
    have key : activeAt m (if r.1 = b then (r.1, some n) else r) = activeAt m r := by
      by_cases e : r.1 = b
      · rw [if_pos e]
        have e2 := h r (.head _) e
        unfold activeAt
        rw [e2]
        show (decide (r.1 < m) && decide (m ≤ n)) = (decide (r.1 < m) && true)
        rw [decide_eq_true hn]
      · rw [if_neg e]
    have fst : (if r.1 = b then ((r.1, some n) : Row) else r).1 = r.1 := by split <;> rfl
    show (((if r.1 = b then ((r.1, some n) : Row) else r) :: setEnd rs b n).filter (activeAt m)).map (·.1) = _
    by_cases p : activeAt m r = true
    · rw [List.filter_cons_of_pos p, List.filter_cons_of_pos (by rw [key]; exact p), List.map_cons, List.map_cons, fst, ih]
    · rw [List.filter_cons_of_neg p, List.filter_cons_of_neg (by rw [key]; exact p), ih]
theorem active_later (es : List Evt) (m : Nat) : ∀ d, ((walkN es (m + d)).rows.filter (activeAt m)).map (·.1) = ((walkN es m).rows.filter (activeAt m)).map (·.1)
  | 0 => rfl
  | d + 1 => by
    have ih := active_later es m d
    show ((stepN es (m + d) (walkN es (m + d))).rows.filter (activeAt m)).map (·.1) = _
    rw [← ih]
    unfold stepN
    split
    · dsimp only
      rw [List.filter_append, List.filter_cons_of_neg (by unfold activeAt; rw [decide_eq_false (show ¬ m + d < m by omega), Bool.false_and]; exact Bool.false_ne_true), List.filter_nil, List.append_nil]
    · split
      · rfl
      · rename_i b _ ho
        dsimp only
        refine active_set (by omega) fun r hr e => ?_
        have hb := (mem_open (es := es) (rows := (walkN es (m + d)).rows) (b := b) (by rw [ho]; exact .head _)).1
        rw [row_eq (asc_nd (walkN_asc es (m + d))) hr hb e]
    · rfl
/-- the places active at m are those open at m -/
theorem active_open {es : List Evt} {m n : Nat} (h : m ≤ n) : ((walkN es n).rows.filter (activeAt m)).map (·.1) = ((walkN es m).rows.filter fun r => decide (r.2 = none)).map (·.1) := by
  obtain ⟨d, rfl⟩ : ∃ d, n = m + d := ⟨n - m, by omega⟩
  rw [active_later, active_now]
theorem open_filter (es : List Evt) (rows : List Row) (ck : Int × Int) : openAt es rows ck = ((rows.filter fun r => decide (r.2 = none)).map (·.1)).filter fun b => decide (ckAt es b = some ck) := by
  unfold openAt
  induction rows with
  | nil => rfl
  | cons r rs ih =>
    by_cases h1 : r.2 = none
    · rw [List.filter_cons_of_pos (p := fun r : Row => decide (r.2 = none)) (decide_eq_true h1), List.map_cons]
      by_cases h2 : ckAt es r.1 = some ck
      · rw [List.filter_cons_of_pos (by unfold isOpen; rw [decide_eq_true h1, decide_eq_true h2]; rfl), List.filter_cons_of_pos (p := fun b => decide (ckAt es b = some ck)) (decide_eq_true h2), List.map_cons, ih]
      · rw [List.filter_cons_of_neg (by unfold isOpen; rw [decide_eq_false h2, Bool.and_false]; exact Bool.false_ne_true), List.filter_cons_of_neg (p := fun b => decide (ckAt es b = some ck)) (by rw [decide_eq_false h2]; exact Bool.false_ne_true), ih]
    · rw [List.filter_cons_of_neg (p := fun r : Row => decide (r.2 = none)) (by rw [decide_eq_false h1]; exact Bool.false_ne_true), List.filter_cons_of_neg (by unfold isOpen; rw [decide_eq_false h1, Bool.false_and]; exact Bool.false_ne_true), ih]
/-- the rows due at m are those that sound -/
def dueN (es : List Evt) (m : Nat) : List (List Int) := (((walkN es es.length).rows.filter (activeAt m)).map (·.1)).map (rowE es)
theorem due_perm {es : List Evt} {m : Nat} (h : m ≤ es.length) : (behind (es.take m)).snd.Perm (dueN es m) := by
  have inv := (snd_inv es m h).2
  have key : ∀ ck, (behind (es.take m)).snd.filter (fun r => decide (rck r = ck)) = (dueN es m).filter (fun r => decide (rck r = ck)) := fun ck => by
    rw [inv ck, open_filter]
    unfold dueN
    rw [active_open h]
    conv => rhs; rw [List.filter_map]
    congr 1
    refine List.filter_congr fun b hb => ?_
    obtain ⟨r, hr, rfl⟩ := List.mem_map.mp hb
    obtain ⟨t, c, k, f, he⟩ := walkN_key es m r (List.mem_filter.mp hr).1
    show decide (ckAt es r.1 = some ck) = decide (rck (rowE es r.1) = ck)
    rw [ck_at he, rowE_at he]
    show decide (some (c, k) = some ck) = decide ((c, k) = ck)
    by_cases e : (c, k) = ck
    · rw [decide_eq_true e, decide_eq_true (by rw [e])]
    · rw [decide_eq_false e, decide_eq_false (fun z => e (Option.some.inj z))]
  refine List.perm_iff_count.mpr fun a => ?_
  have c1 : ∀ l : List (List Int), l.count a = (l.filter fun r => decide (rck r = rck a)).count a := fun l => by
    rw [List.count_filter]
    exact decide_eq_true rfl
  rw [c1, c1 (dueN es m), key]
theorem srt_perm {d : Nat} {a b : List (List Int)} (hb : RowsB d b) (h : a.Perm b) : srt a = srt b := srt_eq hb ((List.mergeSort_perm a leR).trans h) (srt_sorted a)
/-! ### the events up to a tick are the first ones -/
theorem rise_le2 {es : List Evt} (h : RiseE es) : ∀ (d i : Nat) (x y : Evt), es[i]? = some x → es[i + d]? = some y → x.tick ≤ y.tick
  | 0, i, x, y, h1, h2 => by
    have h2 : es[i]? = some y := h2
    rw [h1] at h2
    cases h2
    exact Int.le_refl _
  | d + 1, i, x, y, h1, h2 => by
    have l2 := (List.getElem?_eq_some_iff.mp h2).1
    have hm : es[i + d]? = some es[i + d] := List.getElem?_eq_getElem (by omega)
    have := h (i + d) _ y hm h2
    exact Int.le_trans (rise_le2 h d i x _ h1 hm) this
theorem upTo_take {es : List Evt} (h : RiseE es) (tk : Int) : ∃ m, m ≤ es.length ∧ upTo es tk = es.take m ∧ ∀ j e, es[j]? = some e → (e.tick ≤ tk ↔ j < m) := by
  induction es with
  | nil => exact ⟨0, Nat.le_refl _, rfl, fun j e he => by simp at he⟩
  | cons x xs ih =>
    by_cases c : x.tick ≤ tk
    · obtain ⟨m, h1, h2, h3⟩ := ih fun j a b ha hb => h (j + 1) a b ha hb
      refine ⟨m + 1, Nat.succ_le_succ h1, ?_, fun j e he => ?_⟩
      · show (x :: xs).filter _ = _
        rw [List.filter_cons_of_pos (p := fun e : Evt => decide (e.tick ≤ tk)) (a := x) (decide_eq_true c)]
        exact congrArg (x :: ·) h2
      · match j, he with
        | 0, he => cases he; exact ⟨fun _ => by omega, fun _ => c⟩
        | j + 1, he =>
          have := h3 j e he
          exact ⟨fun z => Nat.succ_lt_succ (this.mp z), fun z => this.mpr (Nat.lt_of_succ_lt_succ z)⟩
    · refine ⟨0, Nat.zero_le _, ?_, fun j e he => ⟨fun z => ?_, fun z => absurd z (Nat.not_lt_zero _)⟩⟩
      · refine List.filter_eq_nil_iff.mpr fun e he z => c ?_
        obtain ⟨j, hj⟩ := List.mem_iff_getElem?.mp he
        exact Int.le_trans (rise_le2 h j 0 x e rfl (by rw [Nat.zero_add]; exact hj)) (of_decide_eq_true z)
      · exact absurd (Int.le_trans (rise_le2 h j 0 x e rfl (by rw [Nat.zero_add]; exact he)) z) c
/-! ### rows as data -/
def rowsDD (rs : List (List Int)) : PyData := .list (rs.map fun r => .tuple (r.map PyData.int))
theorem dp_rws {K : PySem.W.Frag} {H : Hp} : ∀ {qs : List Addr} {rs : List (List Int)}, Rws H qs rs → DpAll K H (qs.map V.ref) (rs.map fun r => .tuple (r.map PyData.int))
  | _, _, .nil => .nil
  | _, _, .cons h t => .cons (dp_tupI (SqT.of h)) (dp_rws t)
theorem dp_rowsDD {K : PySem.W.Frag} {H : Hp} {a : Addr} {qs : List Addr} {rs : List (List Int)} (ha : H a = some (.lst (qs.map V.ref))) (h : Rws H qs rs) : Dp K H (.ref a) (rowsDD rs) := .lst (SqL.of ha) (dp_rws h)
theorem rowsDD_lay : ∀ rs : List (List Int), PyData.canLayAll0 (rs.map fun r => PyData.tuple (r.map PyData.int)) = true ∧ PyData.depthAll (rs.map fun r => PyData.tuple (r.map PyData.int)) ≤ 1
  | [] => ⟨rfl, Nat.zero_le _⟩
  | r :: rs => by
    obtain ⟨h1, h2⟩ := rowsDD_lay rs
    refine ⟨?_, ?_⟩
    · show ((PyData.tuple (r.map PyData.int)).canLay0 && _) = true
      rw [h1, Bool.and_true]
      exact PySem.W.ke_canLayAll0 r
    · show max (PyData.depthAll (r.map PyData.int) + 1) _ ≤ 1
      rw [PySem.W.ke_depthAll]
      omega
theorem rowsDD_shaped (rs : List (List Int)) : SeqAt.shaped (rowsDD rs) = true := by
  obtain ⟨h1, h2⟩ := rowsDD_lay rs
  show (PyData.canLayAll0 _ && decide (PyData.depthAll _ + 1 ≤ 64)) = true
  rw [h1, decide_eq_true (by omega)]
  rfl
theorem rowsDD_eq (rs : List (List Int)) : PyData.eqv (rowsDD rs) (rowsDD rs) = true := SeqAt.eqv_refl _ (SeqAt.canLay_of_shaped (rowsDD_shaped rs))
theorem dueN_b {es : List Evt} (hok : ∀ e ∈ es, e.Ok) (m : Nat) : RowsB 3 (dueN es m) := fun r hr => by
  unfold dueN at hr
  obtain ⟨b, hb, rfl⟩ := List.mem_map.mp hr
  obtain ⟨q, hq, rfl⟩ := List.mem_map.mp hb
  obtain ⟨t, c, k, f, he⟩ := walkN_key es _ q (List.mem_filter.mp hq).1
  rw [rowE_at he]
  exact ⟨rfl, (hok _ (List.mem_of_getElem? he)).row⟩
theorem due_snoc {es : List Evt} {m j : Nat} {rows : List Row} {r : Row} (h : rows[j]? = some r) : (((rows.take (j + 1)).filter (activeAt m)).map (·.1)).map (rowE es) = if activeAt m r = true then (((rows.take j).filter (activeAt m)).map (·.1)).map (rowE es) ++ [rowE es r.1] else (((rows.take j).filter (activeAt m)).map (·.1)).map (rowE es) := by
  rw [take_snoc h, List.filter_append]
  by_cases c : activeAt m r = true
  · rw [if_pos c, List.filter_cons_of_pos c, List.map_append, List.map_append]
    rfl
  · rw [if_neg c, List.filter_cons_of_neg c, List.filter_nil, List.append_nil]
end Rt

namespace Rt
open PySem PySem.Spec PyProof.Rows L2 RZ TL LamX
section
variable {P : Program} {w : World} {K : PySem.W.Frag} {mg : Str → Option Value} {base : Heap}
abbrev s_begin : Stmt := topS 17
theorem sc_begin : FnScope ["_law_script"] ["_law_script"] (defScope s_begin) := ⟨rfl, rfl, rfl, by decide +kernel, rfl, by decide +kernel, by decide +kernel⟩
def spBegin (K : PySem.W.Frag) : Sp := fun vs H Q _ => ∃ (a : Addr) (ns : List Int) (H0 : Hp), vs = [.ref a] ∧ SqL K H a (ns.map V.int) ∧ Ex H0 H ∧
  ∀ (d : Addr) (H0' H' : Hp), Go (fun _ => False) H0 H H0' H' → Dr H0' H' d → H d = none → Q (.ref d) H'
theorem ok_begin {f : Addr} {fd : FuncData} (F : Fun K "_law_begin" "_law_begin" s_begin f fd) (m_list : mg "list" = none) : FnOk P w K mg base CX0 1 f fd ["_law_script"] (spBegin K) := by
  refine F.ok sc_begin (fun vs H Q E h => ?_) (fun cdv A outer s H vs Q E hr h => ?_)
  · obtain ⟨a, ns, H0, rfl, _⟩ := h
    rfl
  · obtain ⟨a, ns, H0, rfl, hS, e0, q⟩ := h
    refine ⟨_, (pss_one (ps_ret (pe_lst (pa_cons (pe_callTy call_list_of (by rfl) m_list bt_list (pa_cons (pe_slice sl_list (pv 0) po_none (po_some pe_int)) pa_nil)) (pa_cons pe_int (pa_cons pe_int (pa_cons pe_int (pa_cons pe_int pa_nil)))))))), ?_⟩
    obtain ⟨ms, hms⟩ : ∃ ms : List Int, cutV (ns.map V.int) none (some 63) = ms.map V.int := ⟨_, by unfold cutV; rw [← List.map_drop, ← List.map_take]⟩
    refine ⟨.ref a, rfl, 63, rfl, a, _, rfl, hS, fun c hc => ?_⟩
    refine ⟨c, _, rfl, .inl (SqL.of upd_same), fun l hl => ?_⟩
    rw [hms] at hl ⊢
    refine ⟨(by show 5 ≤ sizeLine; decide), fun d hd => ?_⟩
    have g0 := Go.refl (m := fun _ => False) e0
    have g1 := g0.lay (.lst (ms.map V.int)) hc
    have g2 := g1.put (.lst (ms.map V.int)) hl
    have g3 := g2.lay (.lst [.ref l, .int 0, .int 0, .int 1, .int 0]) hd
    have nH : H d = none := g2.fresh hd
    exact q d _ _ g3 ⟨⟨l, ms, 0, 0, 1, 0, upd_same, upd_same, by decide, by decide, by decide, by decide⟩, g2.fresh0 hd⟩ nH
abbrev s_pick : Stmt := topS 18
theorem sc_pick : FnScope ["_law_draw", "_law_many", "_law_cell", "_law_got"] ["_law_draw", "_law_many"] (defScope s_pick) := ⟨rfl, rfl, rfl, by decide +kernel, rfl, by decide +kernel, by decide +kernel⟩
def spPick : Sp := fun vs H Q _ => ∃ (d : Addr) (m : Int) (H0 : Hp), vs = [.ref d, .int m] ∧ 0 < m ∧ m ≤ 1000000000 ∧ Ex H0 H ∧ Dr H0 H d ∧
  ∀ (r : Int) (H' : Hp), 0 ≤ r → r < m → Go (· = d) H0 H H0 H' → Dr H0 H' d → Q (.int r) H'
theorem ok_pick {f : Addr} {fd : FuncData} (F : Fun K "_law_pick" "_law_pick" s_pick f fd) (m_len : mg "len" = none) : FnOk P w K mg base CX0 1 f fd ["_law_draw", "_law_many"] spPick := by
  refine F.ok sc_pick (fun vs H Q E h => ?_) (fun cdv A outer s H vs Q E hr h => ?_)
  · obtain ⟨d, m, H0, rfl, _⟩ := h
    rfl
  · obtain ⟨d, m, H0, rfl, m0, m1, e0, ⟨⟨a, ns, i, j, k, l, hd, ha, hi, hj, hk0, hk⟩, out⟩, q⟩ := h
    refine ⟨_, (C8.pss_cut (ps_if (PW.pt (pw_and (pt_cmpR op_lt (pe_ix ix_list (pv 0) pe_int (fun _ _ => rfl)) (pv 1) (nomark _)) (pw_and1 (pt_cmpR op_lt (pe_ix ix_list (pv 0) pe_int (fun _ _ => rfl)) (pe_callB call_len_seq (by rfl) m_len PySem.boot_len (pa_cons (pe_ix ix_list (pv 0) pe_int (fun _ _ => rfl)) pa_nil)) (nomark _))))) (pss_cons (ps_set (i := 2) sc_pick.nd rfl (Or.inl rfl) (pe_ix ix_list (pe_ix ix_list (pv 0) pe_int (fun _ _ => rfl)) (pe_ix ix_list (pv 0) pe_int (fun _ _ => rfl)) (fun _ _ => rfl)))
      (pss_cons (ps_asg (pe_op op_add (pe_ix ix_list (pv 0) pe_int (fun _ _ => rfl)) pe_int) (pg_sub (pv 0) pe_int set_list))
      (pss_cons (ps_asg pe_int (pg_sub (pv 0) pe_int set_list))
      (pss_one (ps_if (pt_cmpR op_ge (pv 2) (pe_op op_pow pe_int pe_int) (nomark _)) (pss_one (ps_asg (pv 2) (pg_sub (pv 0) pe_int set_list))) (pss_one (ps_asg (pe_op op_modN (pe_op op_add (pe_ix ix_list (pv 0) pe_int (fun _ _ => rfl)) (pv 2)) pe_int) (pg_sub (pv 0) pe_int set_list)))))))) pss_nil)
      (pss_cons (ps_if (pt_cmpR op_ge (pe_ix ix_list (pv 0) pe_int (fun _ _ => rfl)) (pv 1) (nomark _)) (pss_cons (ps_set (i := 3) sc_pick.nd rfl (Or.inl rfl) (pe_op op_modN (pe_ix ix_list (pv 0) pe_int (fun _ _ => rfl)) (pv 1)))
      (pss_cons (ps_asg (pe_op op_fdivN (pe_ix ix_list (pv 0) pe_int (fun _ _ => rfl)) (pv 1)) (pg_sub (pv 0) pe_int set_list))
      (pss_one (ps_ret (pv 3))))) pss_nil)
      (pss_cons (ps_asg (pe_op op_add (pe_ix ix_list (pv 0) pe_int (fun _ _ => rfl)) pe_int) (pg_sub (pv 0) pe_int set_list))
      (pss_cons (ps_asg (pe_op op_modN (pe_op op_add (pe_op op_add (pe_op op_pow (pe_ix ix_list (pv 0) pe_int (fun _ _ => rfl)) pe_int) (pe_op op_mul pe_int (pe_ix ix_list (pv 0) pe_int (fun _ _ => rfl)))) pe_int) pe_int) (pg_sub (pv 0) pe_int set_list))
      (pss_one (ps_ret (pe_op op_modN (pe_op op_fdivN (pe_ix ix_list (pv 0) pe_int (fun _ _ => rfl)) pe_int) (pv 1)))))))), ?_⟩
    have hA : H a = some (.lst (ns.map V.int)) := e0 _ _ ha
    have nda : a ≠ d := fun z => by rw [z, out] at ha; cases ha
    refine ⟨fun σ H' => ∃ (i j k : Int) (v : Option V), σ = [some (.ref d), some (.int m), v, none] ∧ H' d = some (.lst [.ref a, .int i, .int j, .int k, .int l]) ∧ 0 ≤ i ∧ 0 ≤ j ∧ 0 ≤ k ∧ k < 2000000000 ∧ Go (· = d) H0 H H0 H', ?_, ?_⟩
    · -- if draw[2] < many and draw[1] < len(draw[0])
      refine ⟨_, rfl, d, _, 2, _, rfl, rfl, SqL.of hd, at_of (j := 2) rfl rfl, _, rfl, _, _, rfl, rfl, _, rfl, ifD (fun c => ?_) (fun c => ?_)⟩
      · refine ⟨_, rfl, d, _, 1, _, rfl, rfl, SqL.of hd, at_of (j := 1) rfl rfl, _, rfl, d, _, 0, _, rfl, rfl, SqL.of hd, at_of (j := 0) rfl rfl, a, _, rfl, .inl (SqL.of hA), _, _, rfl, rfl, _, rfl, ?_⟩
        rw [List.length_map]
        refine ifD (fun c2 => ?_) (fun c2 => ?_)
        · obtain ⟨n, rfl⟩ : ∃ n : Nat, i = (n : Int) := ⟨i.toNat, by omega⟩
          have hn : n < ns.length := by omega
          have g0 := Go.refl (m := (· = d)) e0
          -- cell = draw[0][draw[1]]
          refine ⟨_, rfl, d, _, 0, _, rfl, rfl, SqL.of hd, at_of (j := 0) rfl rfl, _, rfl, d, _, 1, _, rfl, rfl, SqL.of hd, at_of (j := 1) rfl rfl, a, _, _, _, rfl, rfl, SqL.of hA, at_of (j := n) rfl (map_int (List.getElem?_eq_getElem hn)), ?_⟩
          -- draw[1] = draw[1] + 1
          refine ⟨_, rfl, d, _, 1, _, rfl, rfl, SqL.of hd, at_of (j := 1) rfl rfl, _, _, rfl, rfl, _, rfl, _, _, _, 1, rfl, rfl, hd, rfl, ?_⟩
          -- draw[2] = 0
          refine ⟨_, rfl, _, _, _, 2, rfl, rfl, upd_same, rfl, ?_⟩
          -- if cell >= 10 ** 18
          refine ⟨_, rfl, _, _, rfl, rfl, ⟨by decide, by decide, by decide⟩, _, _, rfl, rfl, _, rfl, ifD (fun c3 => ?_) (fun c3 => ?_)⟩
          · refine ⟨_, rfl, _, rfl, _, _, _, 2, rfl, rfl, upd_same, rfl, ?_⟩
            have c4 : (10 : Int) ^ (18 : Int).toNat ≤ ns[n] := c3
            exact ⟨_, ns[n], k, _, rfl, upd_same, by omega, Int.le_trans (by decide) c4, hk0, hk, ((g0.turnM _ rfl out).turnM _ rfl out).turnM _ rfl out⟩
          · refine ⟨_, rfl, d, _, 3, _, rfl, rfl, SqL.of upd_same, at_of (j := 3) rfl rfl, _, rfl, _, _, rfl, rfl, _, _, rfl, rfl, (by show (1000000007 : Int) ≠ 0; decide), _, rfl, _, _, _, 3, rfl, rfl, upd_same, rfl, ?_⟩
            have f0 := Int.fmod_nonneg_of_pos (k + ns[n]) (show (0 : Int) < 1000000007 by decide)
            have f1 := Int.fmod_lt_of_pos (k + ns[n]) (show (0 : Int) < 1000000007 by decide)
            exact ⟨_, 0, _, _, rfl, upd_same, by omega, by decide, f0, by omega, ((g0.turnM _ rfl out).turnM _ rfl out).turnM _ rfl out⟩
        · exact ⟨i, j, k, none, rfl, hd, hi, hj, hk0, hk, Go.refl e0⟩
      · exact ⟨i, j, k, none, rfl, hd, hi, hj, hk0, hk, Go.refl e0⟩
    · rintro σ' H' ⟨i, j, k, v, rfl, hd, hi, hj, hk0, hk, g⟩
      -- if draw[2] >= many
      refine ⟨_, rfl, d, _, 2, _, rfl, rfl, SqL.of hd, at_of (j := 2) rfl rfl, _, rfl, _, _, rfl, rfl, _, rfl, ifD (fun c => ?_) (fun c => ?_)⟩
      · refine ⟨_, rfl, d, _, 2, _, rfl, rfl, SqL.of hd, at_of (j := 2) rfl rfl, _, rfl, _, _, rfl, rfl, (by omega : m ≠ 0), ?_⟩
        refine ⟨_, rfl, d, _, 2, _, rfl, rfl, SqL.of hd, at_of (j := 2) rfl rfl, _, rfl, _, _, rfl, rfl, ⟨by omega, by omega⟩, _, rfl, _, _, _, 2, rfl, rfl, hd, rfl, ?_⟩
        have f0 := Int.fmod_nonneg_of_pos j m0
        have f1 := Int.fmod_lt_of_pos j m0
        have f2 : 0 ≤ j.fdiv m := Int.fdiv_nonneg hj (by omega)
        exact ⟨_, rfl, q _ _ f0 f1 (g.turnM _ rfl out) ⟨⟨a, ns, i, _, k, l, upd_same, ha, hi, f2, hk0, hk⟩, out⟩⟩
      · refine ⟨_, rfl, d, _, 4, _, rfl, rfl, SqL.of hd, at_of (j := 4) rfl rfl, _, _, rfl, rfl, _, rfl, _, _, _, 4, rfl, rfl, hd, rfl, ?_⟩
        refine ⟨_, rfl, d, _, 3, _, rfl, rfl, SqL.of upd_same, at_of (j := 3) rfl rfl, _, _, rfl, rfl, ⟨by decide, by decide, by omega⟩, _, rfl, d, _, 4, _, rfl, rfl, SqL.of upd_same, at_of (j := 4) rfl rfl, _, _, rfl, rfl, .inl ⟨by decide, by decide⟩, _, _, rfl, rfl, _, _, rfl, rfl, _, _, rfl, rfl, (by show (1000000007 : Int) ≠ 0; decide), _, rfl, _, _, _, 3, rfl, rfl, upd_same, rfl, ?_⟩
        have f0 := Int.fmod_nonneg_of_pos (k ^ Int.toNat 3 + 40503 * (l + 1) + 17) (show (0 : Int) < 1000000007 by decide)
        have f1 := Int.fmod_lt_of_pos (k ^ Int.toNat 3 + 40503 * (l + 1) + 17) (show (0 : Int) < 1000000007 by decide)
        refine ⟨_, rfl, d, _, 3, _, rfl, rfl, SqL.of upd_same, at_of (j := 3) rfl rfl, _, _, rfl, rfl, ⟨by decide, by decide⟩, _, rfl, _, _, rfl, rfl, (by omega : m ≠ 0), ?_⟩
        exact q _ _ (Int.fmod_nonneg_of_pos _ m0) (Int.fmod_lt_of_pos _ m0) ((g.turnM _ rfl out).turnM _ rfl out) ⟨⟨a, ns, i, j, _, _, upd_same, ha, hi, hj, f0, by omega⟩, out⟩
abbrev s_one : Stmt := topS 21
theorem sc_one : FnScope ["_law_draw", "_law_some"] ["_law_draw", "_law_some"] (defScope s_one) := ⟨rfl, rfl, rfl, by decide +kernel, rfl, by decide +kernel, by decide +kernel⟩
def spOne : Sp := fun vs H Q _ => ∃ (d p : Addr) (xs : List V) (H0 : Hp), vs = [.ref d, .ref p] ∧ Ex H0 H ∧ Dr H0 H d ∧ H0 p = some (.lst xs) ∧ 0 < xs.length ∧ xs.length ≤ 1000000000 ∧
  ∀ (i : Nat) (v : V) (H' : Hp), xs[i]? = some v → Go (· = d) H0 H H0 H' → Dr H0 H' d → Q v H'
theorem ok_one {f : Addr} {fd : FuncData} (F : Fun K "_law_one" "_law_one" s_one f fd) (D__law_pick : Def P w K mg base "_law_pick" 1 spPick) (m_len : mg "len" = none) : FnOk P w K mg base CX0 2 f fd ["_law_draw", "_law_some"] spOne := by
  refine F.ok sc_one (fun vs H Q E h => ?_) (fun cdv A outer s H vs Q E hr h => ?_)
  · obtain ⟨d, p, xs, H0, rfl, _⟩ := h
    rfl
  · obtain ⟨d, p, xs, H0, rfl, e0, hD, hp, l0, l1, q⟩ := h
    refine ⟨_, (pss_one (ps_ret (pe_ix ix_list (pv 1) (pe_d D__law_pick (hr.mono (by decide)) rfl (pa_cons (pv 0) (pa_cons (pe_callB call_len_seq (by rfl) m_len PySem.boot_len (pa_cons (pv 1) pa_nil)) pa_nil))) (fun _ _ => rfl)))), ?_⟩
    refine ⟨.ref p, rfl, .ref d, rfl, .ref p, rfl, p, xs, rfl, .inl (SqL.of (e0 _ _ hp)), d, (xs.length : Int), H0, rfl, by omega, by omega, e0, hD, fun r H' r0 r1 g hD' => ?_⟩
    obtain ⟨j, rfl⟩ : ∃ j : Nat, r = (j : Int) := ⟨r.toNat, by omega⟩
    have hj : j < xs.length := by omega
    exact ⟨p, xs, (j : Int), _, rfl, rfl, SqL.of (g.inn _ _ hp), at_of (j := j) rfl (List.getElem?_eq_getElem hj), q j _ _ (List.getElem?_eq_getElem hj) g hD'⟩
abbrev s_channel : Stmt := topS 19
theorem sc_channel : FnScope ["_law_draw"] ["_law_draw"] (defScope s_channel) := ⟨rfl, rfl, rfl, by decide +kernel, rfl, by decide +kernel, by decide +kernel⟩
theorem ok_channel {f : Addr} {fd : FuncData} (F : Fun K "_law_channel" "_law_channel" s_channel f fd) (D__law_pick : Def P w K mg base "_law_pick" 1 spPick) : FnOk P w K mg base CX0 2 f fd ["_law_draw"] (spInts 0 15) := by
  refine F.ok sc_channel (fun vs H Q E h => ?_) (fun cdv A outer s H vs Q E hr h => ?_)
  · obtain ⟨d, H0, rfl, _⟩ := h
    rfl
  · obtain ⟨d, H0, rfl, e0, hD, q⟩ := h
    refine ⟨_, (pss_one (ps_ret (pe_ix ix_tup (pe_tup (pa_cons (pe_d D__law_pick (hr.mono (by decide)) rfl (pa_cons (pv 0) (pa_cons pe_int pa_nil))) (pa_cons (pe_d D__law_pick (hr.mono (by decide)) rfl (pa_cons (pv 0) (pa_cons pe_int pa_nil))) pa_nil))) (pe_d D__law_pick (hr.mono (by decide)) rfl (pa_cons (pv 0) (pa_cons pe_int pa_nil))) (fun _ _ => rfl)))), ?_⟩
    have S := Sd.here e0 hD
    refine ⟨_, rfl, d, 3, _, rfl, by decide, by decide, S.ex, S.dr, fun x H x0 x1 g hD => ?_⟩
    have S := S.call g hD
    refine ⟨_, rfl, d, 16, _, rfl, by decide, by decide, S.ex, S.dr, fun y H y0 y1 g hD => ?_⟩
    have S := S.call g hD
    refine ⟨(by show 2 ≤ sizeLine; decide), fun t ht => ?_⟩
    have S := S.put (.tup [.int x, .int y]) ht
    refine ⟨_, rfl, d, 2, _, rfl, by decide, by decide, S.ex, S.dr, fun u H u0 u1 g hD => ?_⟩
    have S := S.call g hD
    have htt := g.up t _ upd_same
    obtain ⟨r, hr', r0, r1⟩ := get_int [.int x, .int y] 0 15 (fun v hv => by
      simp only [List.mem_cons, List.mem_nil_iff, or_false] at hv
      rcases hv with rfl | rfl
      · exact ⟨x, rfl, x0, by omega⟩
      · exact ⟨y, rfl, y0, by omega⟩) u u0 u1
    exact ⟨t, _, _, _, rfl, rfl, SqT.of (S.ex _ _ htt), at_of (j := u.toNat) (by omega) hr', q r _ _ r0 r1 S.go S.dr⟩
abbrev s_key : Stmt := topS 20
theorem sc_key : FnScope ["_law_draw"] ["_law_draw"] (defScope s_key) := ⟨rfl, rfl, rfl, by decide +kernel, rfl, by decide +kernel, by decide +kernel⟩
theorem ok_key {f : Addr} {fd : FuncData} (F : Fun K "_law_key" "_law_key" s_key f fd) (D__law_pick : Def P w K mg base "_law_pick" 1 spPick) : FnOk P w K mg base CX0 2 f fd ["_law_draw"] (spInts 0 127) := by
  refine F.ok sc_key (fun vs H Q E h => ?_) (fun cdv A outer s H vs Q E hr h => ?_)
  · obtain ⟨d, H0, rfl, _⟩ := h
    rfl
  · obtain ⟨d, H0, rfl, e0, hD, q⟩ := h
    refine ⟨_, (pss_one (ps_ret (pe_ix ix_tup (pe_tup (pa_cons (pe_op op_add pe_int (pe_d D__law_pick (hr.mono (by decide)) rfl (pa_cons (pv 0) (pa_cons pe_int pa_nil)))) (pa_cons (pe_d D__law_pick (hr.mono (by decide)) rfl (pa_cons (pv 0) (pa_cons pe_int pa_nil))) pa_nil))) (pe_d D__law_pick (hr.mono (by decide)) rfl (pa_cons (pv 0) (pa_cons pe_int pa_nil))) (fun _ _ => rfl)))), ?_⟩
    have S := Sd.here e0 hD
    refine ⟨_, rfl, d, 3, _, rfl, by decide, by decide, S.ex, S.dr, fun x H x0 x1 g hD => ?_⟩
    have S := S.call g hD
    refine ⟨_, _, rfl, rfl, _, rfl, d, 128, _, rfl, by decide, by decide, S.ex, S.dr, fun y H y0 y1 g hD => ?_⟩
    have S := S.call g hD
    refine ⟨(by show 2 ≤ sizeLine; decide), fun t ht => ?_⟩
    have S := S.put (.tup [.int (60 + x), .int y]) ht
    refine ⟨_, rfl, d, 2, _, rfl, by decide, by decide, S.ex, S.dr, fun u H u0 u1 g hD => ?_⟩
    have S := S.call g hD
    have htt := g.up t _ upd_same
    obtain ⟨r, hr', r0, r1⟩ := get_int [.int (60 + x), .int y] 0 127 (fun v hv => by
      simp only [List.mem_cons, List.mem_nil_iff, or_false] at hv
      rcases hv with rfl | rfl
      · exact ⟨60 + x, rfl, by omega, by omega⟩
      · exact ⟨y, rfl, y0, by omega⟩) u u0 u1
    exact ⟨t, _, _, _, rfl, rfl, SqT.of (S.ex _ _ htt), at_of (j := u.toNat) (by omega) hr', q r _ _ r0 r1 S.go S.dr⟩
abbrev s_word : Stmt := topS 22
theorem sc_word : FnScope ["_law_draw", "_law_most", "_law_signs", "_law_k"] ["_law_draw", "_law_most"] (defScope s_word) := ⟨rfl, rfl, rfl, by decide +kernel, rfl, by decide +kernel, by decide +kernel⟩
/-- a text drawn of the signs -/
def spWord : Sp := fun vs H Q _ => ∃ (d : Addr) (m : Nat) (H0 : Hp), vs = [.ref d, .int (m : Int)] ∧ m ≤ 100 ∧ Ex H0 H ∧ Dr H0 H d ∧
  ∀ (s : Str) (G0 H' : Hp), s.length ≤ m → (∀ c ∈ s.cps.toList, c ∈ signsS.cps.toList) → Go (· = d) H0 H G0 H' → Dr G0 H' d → Q (.str s) H'
theorem ok_word {f : Addr} {fd : FuncData} (F : Fun K "_law_word" "_law_word" s_word f fd) (D__law_pick : Def P w K mg base "_law_pick" 1 spPick) (m_range : mg "range" = none) : FnOk P w K mg base CX0 2 f fd ["_law_draw", "_law_most"] spWord := by
  refine F.ok sc_word (fun vs H Q E h => ?_) (fun cdv A outer s B vs Q E hr h => ?_)
  · obtain ⟨d, m, H0, rfl, _⟩ := h
    rfl
  · obtain ⟨d, m, H0, rfl, hm, e0, hD, q⟩ := h
    refine ⟨_, (pss_cons (ps_set (i := 2) sc_word.nd rfl (Or.inr rfl) pe_str)
      (pss_cons (ps_if (pt_cmpR op_eq (pe_d D__law_pick (hr.mono (by decide)) rfl (pa_cons (pv 0) (pa_cons pe_int pa_nil))) pe_int (nomark _)) (pss_one (ps_ret (pe_op op_repS (pe_ix ix_str (pv 2) (pe_d D__law_pick (hr.mono (by decide)) rfl (pa_cons (pv 0) (pa_cons pe_int pa_nil))) (fun _ _ => rfl)) (pe_d D__law_pick (hr.mono (by decide)) rfl (pa_cons (pv 0) (pa_cons (pe_op op_add (pv 1) pe_int) pa_nil)))))) pss_nil)
      (pss_one (ps_ret (pe_join pe_str (pe_lc (own := [("_law_k", 3)]) (g := gName 3) (tt := tYes) rfl sc_word.nd (pi_range1 rfl m_range (pa_cons (pe_d D__law_pick (hr.mono (by decide)) rfl (pa_cons (pv 0) (pa_cons (pe_op op_add (pv 1) pe_int) pa_nil))) pa_nil)) (blkOk_by (N := ["_law_draw", "_law_most", "_law_signs", "_law_k"]) (sc := defScope s_word) (by decide +kernel)) (fun _ _ _ _ _ => pg_name (i := 3) sc_word.nd rfl (Or.inl rfl)) (fun _ _ _ _ _ => pts_nil) (fun _ _ _ _ _ => (pe_ix ix_str (pv 2) (pe_d D__law_pick (hr.mono (by decide)) rfl (pa_cons (pv 0) (pa_cons pe_int pa_nil))) (fun _ _ => rfl))))))))), ?_⟩
    have S := Sd.here e0 hD
    have sgn : ∀ r : Int, 0 ≤ r → r < 37 → ∃ c, signsS.cps.toList[r.toNat]? = some c := fun r r0 r1 => ⟨_, List.getElem?_eq_getElem (by show r.toNat < 37; omega)⟩
    refine ⟨_, rfl, d, 2, _, rfl, by decide, by decide, S.ex, S.dr, fun x H x0 x1 g hD => ?_⟩
    have S := S.call g hD
    refine ⟨rfl, _, rfl, ifD (fun c => ?_) (fun c => ?_)⟩
    · refine ⟨_, rfl, _, rfl, d, 37, _, rfl, by decide, by decide, S.ex, S.dr, fun y H y0 y1 g hD => ?_⟩
      have S := S.call g hD
      obtain ⟨c, hc⟩ := sgn y y0 y1
      refine ⟨signsS, y, c, rfl, rfl, mem_sz (by show 37 ≤ _; decide), at_n (j := y.toNat) (by omega) hc, ?_⟩
      refine ⟨_, rfl, _, rfl, _, _, rfl, rfl, d, _, _, rfl, by omega, by omega, S.ex, S.dr, fun n H n0 n1 g hD => ?_⟩
      have S := S.call g hD
      obtain ⟨n, rfl⟩ : ∃ k : Nat, n = (k : Int) := ⟨n.toNat, by omega⟩
      refine ⟨_, n, rfl, rfl, (by show 1 ≤ 1000; decide), by omega, fun w hw hc2 => q w _ _ ?_ (fun c' h => ?_) S.go S.dr⟩
      · have : w.length = 1 * n := hw
        omega
      · have : c' ∈ [c] := hc2 c' h
        rw [List.mem_singleton.mp this]
        exact List.mem_of_getElem? hc
    · refine ⟨⟨_, rfl⟩, _, rfl, _, rfl, _, _, rfl, rfl, d, _, _, rfl, by omega, by omega, S.ex, S.dr, fun n H n0 n1 g hD => ?_⟩
      have S := S.call g hD
      obtain ⟨n, rfl⟩ : ∃ k : Nat, n = (k : Int) := ⟨n.toNat, by omega⟩
      refine ⟨_, rfl, by omega, by omega, fun D hDn => ?_⟩
      have ndD := S.dr.ne hDn
      have bD := S.go.fresh hDn
      refine lc_range (lo := 0) (n := n) (fun i H' => ∃ (ys : List Str) (G0 : Hp), H' D = some (.lst (ys.map V.str)) ∧ ys.length = i ∧ (∀ y ∈ ys, ∃ c ∈ signsS.cps.toList, y = ⟨#[c]⟩) ∧ Sd d H0 B G0 H' ∧ G0 D = none) ⟨[], _, upd_same, rfl, (fun y h => nomatch h), S.lay _ hDn, S.ex.free hDn⟩ ?_ ?_
      · rintro i H' hi ⟨ys, G0, h1, h2, h3, S1, h4⟩
        refine ⟨rfl, ?_⟩
        refine ⟨_, rfl, _, rfl, d, 37, _, rfl, by decide, by decide, S1.ex, S1.dr, fun r H2 r0 r1 g hD2 => ?_⟩
        have S2 := S1.call g hD2
        obtain ⟨c, hc⟩ := sgn r r0 r1
        have h5 := g.keep D _ h1 (fun z => ndD z.symm)
        refine ⟨signsS, r, c, rfl, rfl, mem_sz (by show 37 ≤ _; decide), at_n (j := r.toNat) (by omega) hc, _, h5, mem_lt (by rw [List.length_map]; omega), ys ++ [⟨#[c]⟩], _, ?_, by rw [List.length_append, h2]; rfl, fun y hy => ?_, S2.turn _ bD ?_ ndD, ?_⟩
        · rw [upd_same, List.map_append]
          rfl
        · rcases List.mem_append.mp hy with h | h
          · exact h3 y h
          · exact ⟨c, List.mem_of_getElem? hc, List.mem_singleton.mp h⟩
        · exact g.new D (by rw [h1]; simp) h4
        · exact g.new D (by rw [h1]; simp) h4
      · rintro H' ⟨ys, G0, h1, h2, h3, S1, h4⟩
        obtain ⟨j1, j2⟩ := join_signs ys _ h3
        refine ⟨_, D, ys, rfl, rfl, .inl (SqL.of h1), ?_, q _ _ _ (by omega) j2 S1.go S1.dr⟩
        rw [sum_signs ys _ h3]
        show ys.length + ys.length * 0 ≤ 16777216
        omega
abbrev s_thing : Stmt := topS 23
theorem sc_thing : FnScope ["_law_draw", "_law_kind", "_law_channel_here"] ["_law_draw"] (defScope s_thing) := ⟨rfl, rfl, rfl, by decide +kernel, rfl, by decide +kernel, by decide +kernel⟩
theorem thing_on {c k f : Int} (hc : 0 ≤ c ∧ c ≤ 15) (hk : 0 ≤ k ∧ k ≤ 127) (hf : 1 ≤ f ∧ f ≤ 127) : thingOk [.str "on", .int c, .int k, .int f] = true := by
  rw [thing_word (by decide)]
  show (withinV (.int c) 0 15 && (withinV (.int k) 0 127 && (withinV (.int f) 1 127 && true))) = true
  rw [win hc, win hk, win hf]
  rfl
theorem thing_off {c k f : Int} (hc : 0 ≤ c ∧ c ≤ 15) (hk : 0 ≤ k ∧ k ≤ 127) (hf : 0 ≤ f ∧ f ≤ 127) : thingOk [.str "off", .int c, .int k, .int f] = true := by
  rw [thing_word (by decide)]
  show (withinV (.int c) 0 15 && (withinV (.int k) 0 127 && (withinV (.int f) 0 127 && true))) = true
  rw [win hc, win hk, win hf]
  rfl
theorem thing_knob {c k f : Int} (hc : 0 ≤ c ∧ c ≤ 15) (hk : 0 ≤ k ∧ k ≤ 127) (hf : 0 ≤ f ∧ f ≤ 127) : thingOk [.str "knob", .int c, .int k, .int f] = true := by
  rw [thing_word (by decide)]
  show (withinV (.int c) 0 15 && (withinV (.int k) 0 127 && (withinV (.int f) 0 127 && true))) = true
  rw [win hc, win hk, win hf]
  rfl
theorem thing_voice {c k : Int} (hc : 0 ≤ c ∧ c ≤ 15) (hk : 0 ≤ k ∧ k ≤ 127) : thingOk [.str "voice", .int c, .int k] = true := by
  rw [thing_word (by decide)]
  show (withinV (.int c) 0 15 && (withinV (.int k) 0 127 && true)) = true
  rw [win hc, win hk]
  rfl
theorem thing_text {s : Str} (h : s.length ≤ 12) (hc : ∀ c ∈ s.cps.toList, c ∈ signsS.cps.toList) : thingOk [.str "mark", .str s] = true := by
  rw [thing_mark]
  show (decide (s.length ≤ 12) && s.cps.toList.all _) = true
  rw [decide_eq_true h, Bool.true_and]
  exact List.all_eq_true.mpr fun c h => decide_eq_true (hc c h)
/-- a good thing drawn: a new tuple -/
def spThing : Sp := fun vs H Q _ => ∃ (d : Addr) (H0 : Hp), vs = [.ref d] ∧ Ex H0 H ∧ Dr H0 H d ∧
  ∀ (t : Addr) (xs : List V) (G0 H' : Hp), thingOk xs = true → (∀ x ∈ xs, Scal x) → xs.length ≤ 4 → Go (· = d) H0 H G0 H' → Dr G0 H' d → H t = none → G0 t = some (.tup xs) → Q (.ref t) H'
theorem ok_thing {f : Addr} {fd : FuncData} (F : Fun K "_law_thing" "_law_thing" s_thing f fd) (D__law_pick : Def P w K mg base "_law_pick" 1 spPick) (D__law_channel : Def P w K mg base "_law_channel" 2 (spInts 0 15)) (D__law_key : Def P w K mg base "_law_key" 2 (spInts 0 127))
    (D__law_word : Def P w K mg base "_law_word" 2 spWord) : FnOk P w K mg base CX0 3 f fd ["_law_draw"] spThing := by
  refine F.ok sc_thing (fun vs H Q E h => ?_) (fun cdv A outer s B vs Q E hr h => ?_)
  · obtain ⟨d, H0, rfl, _⟩ := h
    rfl
  · obtain ⟨d, H0, rfl, e0, hD, q⟩ := h
    refine ⟨_, (pss_cons (ps_set (i := 1) sc_thing.nd rfl (Or.inl rfl) (pe_d D__law_pick (hr.mono (by decide)) rfl (pa_cons (pv 0) (pa_cons pe_int pa_nil))))
      (pss_cons (ps_set (i := 2) sc_thing.nd rfl (Or.inl rfl) (pe_d D__law_channel (hr.mono (by decide)) rfl (pa_cons (pv 0) pa_nil)))
      (pss_cons (ps_if (pt_cmpR op_lt (pv 1) pe_int (nomark _)) (pss_one (ps_ret (pe_tup (pa_cons pe_str (pa_cons (pv 2) (pa_cons (pe_d D__law_key (hr.mono (by decide)) rfl (pa_cons (pv 0) pa_nil)) (pa_cons (pe_op op_add pe_int (pe_d D__law_pick (hr.mono (by decide)) rfl (pa_cons (pv 0) (pa_cons pe_int pa_nil)))) pa_nil))))))) pss_nil)
      (pss_cons (ps_if (pt_cmpR op_lt (pv 1) pe_int (nomark _)) (pss_one (ps_ret (pe_tup (pa_cons pe_str (pa_cons (pv 2) (pa_cons (pe_d D__law_key (hr.mono (by decide)) rfl (pa_cons (pv 0) pa_nil)) (pa_cons (pe_ix ix_tup (pe_tup (pa_cons pe_int (pa_cons (pe_d D__law_pick (hr.mono (by decide)) rfl (pa_cons (pv 0) (pa_cons pe_int pa_nil))) pa_nil))) (pe_d D__law_pick (hr.mono (by decide)) rfl (pa_cons (pv 0) (pa_cons pe_int pa_nil))) (fun _ _ => rfl)) pa_nil))))))) pss_nil)
      (pss_cons (ps_if (pt_cmpR op_lt (pv 1) pe_int (nomark _)) (pss_one (ps_ret (pe_tup (pa_cons pe_str (pa_cons (pv 2) (pa_cons (pe_ix ix_tup (pe_tup (pa_cons (pe_d D__law_pick (hr.mono (by decide)) rfl (pa_cons (pv 0) (pa_cons pe_int pa_nil))) (pa_cons (pe_d D__law_pick (hr.mono (by decide)) rfl (pa_cons (pv 0) (pa_cons pe_int pa_nil))) pa_nil))) (pe_d D__law_pick (hr.mono (by decide)) rfl (pa_cons (pv 0) (pa_cons pe_int pa_nil))) (fun _ _ => rfl)) (pa_cons (pe_d D__law_pick (hr.mono (by decide)) rfl (pa_cons (pv 0) (pa_cons pe_int pa_nil))) pa_nil))))))) pss_nil)
      (pss_cons (ps_if (pt_cmpR op_eq (pv 1) pe_int (nomark _)) (pss_one (ps_ret (pe_tup (pa_cons pe_str (pa_cons (pv 2) (pa_cons (pe_d D__law_pick (hr.mono (by decide)) rfl (pa_cons (pv 0) (pa_cons pe_int pa_nil))) pa_nil)))))) pss_nil)
      (pss_one (ps_ret (pe_tup (pa_cons pe_str (pa_cons (pe_d D__law_word (hr.mono (by decide)) rfl (pa_cons (pv 0) (pa_cons pe_int pa_nil))) pa_nil))))))))))), ?_⟩
    have S := Sd.here e0 hD
    refine ⟨_, rfl, d, 12, _, rfl, by decide, by decide, S.ex, S.dr, fun k H k0 k1 g hD => ?_⟩
    have S := S.call g hD
    refine ⟨_, rfl, d, _, rfl, S.ex, S.dr, fun c G0 H c0 c1 g hD => ?_⟩
    have S := S.call g hD
    have fin : ∀ (G0 H : Hp) (xs : List V), Sd d H0 B G0 H → thingOk xs = true → (∀ x ∈ xs, Scal x) → xs.length ≤ 4 → ∀ t, H t = none → Q (.ref t) (upd H t (.tup xs)) := fun G0 H xs S h1 h2 h3 t ht =>
      q t xs _ _ h1 h2 h3 (S.put _ ht).go (S.put _ ht).dr (S.go.fresh ht) upd_same
    have sI : ∀ z : Int, Scal (.int z) := fun z => .inl ⟨z, rfl⟩
    have sS : ∀ s : Str, s.length ≤ 1000 → Scal (.str s) := fun s h => .inr ⟨s, rfl, h⟩
    refine ⟨_, rfl, _, _, rfl, rfl, _, rfl, ifD (fun h => ?_) (fun h => ?_)⟩
    · refine ⟨_, rfl, _, rfl, d, _, rfl, S.ex, S.dr, fun y G0 H y0 y1 g hD => ?_⟩
      have S := S.call g hD
      refine ⟨_, rfl, d, 127, _, rfl, by decide, by decide, S.ex, S.dr, fun z H z0 z1 g hD => ?_⟩
      have S := S.call g hD
      refine ⟨_, _, rfl, rfl, (by show 4 ≤ sizeLine; decide), fun t ht => ?_⟩
      exact fin _ _ _ S (thing_on ⟨c0, c1⟩ ⟨y0, y1⟩ ⟨by omega, by omega⟩) (by
        intro x hx
        simp only [List.mem_cons, List.mem_nil_iff, or_false] at hx
        rcases hx with rfl | rfl | rfl | rfl
        · exact sS _ (by decide)
        all_goals exact sI _) (by show 4 ≤ 4; decide) t ht
    refine ⟨_, rfl, _, _, rfl, rfl, _, rfl, ifD (fun h => ?_) (fun h => ?_)⟩
    · refine ⟨_, rfl, _, rfl, d, _, rfl, S.ex, S.dr, fun y G0 H y0 y1 g hD => ?_⟩
      have S := S.call g hD
      refine ⟨_, rfl, d, 128, _, rfl, by decide, by decide, S.ex, S.dr, fun z H z0 z1 g hD => ?_⟩
      have S := S.call g hD
      refine ⟨(by show 2 ≤ sizeLine; decide), fun t ht => ?_⟩
      have S := S.put (.tup [.int 64, .int z]) ht
      refine ⟨_, rfl, d, 2, _, rfl, by decide, by decide, S.ex, S.dr, fun u H u0 u1 g hD => ?_⟩
      have S := S.call g hD
      have htt := g.up t _ upd_same
      obtain ⟨r, hr', r0, r1⟩ := get_int [.int 64, .int z] 0 127 (fun v hv => by
        simp only [List.mem_cons, List.mem_nil_iff, or_false] at hv
        rcases hv with rfl | rfl
        · exact ⟨64, rfl, by decide, by decide⟩
        · exact ⟨z, rfl, z0, by omega⟩) u u0 u1
      refine ⟨t, _, _, _, rfl, rfl, SqT.of (S.ex _ _ htt), at_of (j := u.toNat) (by omega) hr', (by show 4 ≤ sizeLine; decide), fun t ht => ?_⟩
      exact fin _ _ _ S (thing_off ⟨c0, c1⟩ ⟨y0, y1⟩ ⟨r0, r1⟩) (by
        intro x hx
        simp only [List.mem_cons, List.mem_nil_iff, or_false] at hx
        rcases hx with rfl | rfl | rfl | rfl
        · exact sS _ (by decide)
        all_goals exact sI _) (by show 4 ≤ 4; decide) t ht
    refine ⟨_, rfl, _, _, rfl, rfl, _, rfl, ifD (fun h => ?_) (fun h => ?_)⟩
    · refine ⟨_, rfl, _, rfl, d, 3, _, rfl, by decide, by decide, S.ex, S.dr, fun y H y0 y1 g hD => ?_⟩
      have S := S.call g hD
      refine ⟨_, rfl, d, 128, _, rfl, by decide, by decide, S.ex, S.dr, fun z H z0 z1 g hD => ?_⟩
      have S := S.call g hD
      refine ⟨(by show 2 ≤ sizeLine; decide), fun t ht => ?_⟩
      have S := S.put (.tup [.int y, .int z]) ht
      refine ⟨_, rfl, d, 2, _, rfl, by decide, by decide, S.ex, S.dr, fun u H u0 u1 g hD => ?_⟩
      have S := S.call g hD
      have htt := g.up t _ upd_same
      obtain ⟨r, hr', r0, r1⟩ := get_int [.int y, .int z] 0 127 (fun v hv => by
        simp only [List.mem_cons, List.mem_nil_iff, or_false] at hv
        rcases hv with rfl | rfl
        · exact ⟨y, rfl, y0, by omega⟩
        · exact ⟨z, rfl, z0, by omega⟩) u u0 u1
      refine ⟨t, _, _, _, rfl, rfl, SqT.of (S.ex _ _ htt), at_of (j := u.toNat) (by omega) hr', _, rfl, d, 128, _, rfl, by decide, by decide, S.ex, S.dr, fun z2 H z20 z21 g hD => ?_⟩
      have S := S.call g hD
      refine ⟨(by show 4 ≤ sizeLine; decide), fun t ht => ?_⟩
      exact fin _ _ _ S (thing_knob ⟨c0, c1⟩ ⟨r0, r1⟩ ⟨z20, by omega⟩) (by
        intro x hx
        simp only [List.mem_cons, List.mem_nil_iff, or_false] at hx
        rcases hx with rfl | rfl | rfl | rfl
        · exact sS _ (by decide)
        all_goals exact sI _) (by show 4 ≤ 4; decide) t ht
    refine ⟨_, rfl, rfl, _, rfl, ifD (fun h => ?_) (fun h => ?_)⟩
    · refine ⟨_, rfl, _, rfl, d, 128, _, rfl, by decide, by decide, S.ex, S.dr, fun z H z0 z1 g hD => ?_⟩
      have S := S.call g hD
      refine ⟨(by show 3 ≤ sizeLine; decide), fun t ht => ?_⟩
      exact fin _ _ _ S (thing_voice ⟨c0, c1⟩ ⟨z0, by omega⟩) (by
        intro x hx
        simp only [List.mem_cons, List.mem_nil_iff, or_false] at hx
        rcases hx with rfl | rfl | rfl
        · exact sS _ (by decide)
        all_goals exact sI _) (by show 3 ≤ 4; decide) t ht
    · refine ⟨_, rfl, d, 12, _, rfl, by decide, S.ex, S.dr, fun s G0 H s1 s2 g hD => ?_⟩
      have S := S.call g hD
      refine ⟨(by show 2 ≤ sizeLine; decide), fun t ht => ?_⟩
      exact fin _ _ _ S (thing_text s1 s2) (by
        intro x hx
        simp only [List.mem_cons, List.mem_nil_iff, or_false] at hx
        rcases hx with rfl | rfl
        · exact sS _ (by decide)
        · exact sS _ (by omega)) (by show 2 ≤ 4; decide) t ht
abbrev s_keen_track : Stmt := topS 24
theorem sc_keen_track : FnScope ["_law_draw", "_law_most", "_law_found", "_law_tick", "_law_some", "_law_k", "_law_channel_here", "_law_key_here", "_law_kind"] ["_law_draw", "_law_most"] (defScope s_keen_track) := ⟨rfl, rfl, rfl, by decide +kernel, rfl, by decide +kernel, by decide +kernel⟩
theorem ok_keen_track {f : Addr} {fd : FuncData} (F : Fun K "_law_keen_track" "_law_keen_track" s_keen_track f fd) (D__law_pick : Def P w K mg base "_law_pick" 1 spPick) (D__law_one : Def P w K mg base "_law_one" 2 spOne) (D__law_channel : Def P w K mg base "_law_channel" 2 (spInts 0 15)) (D__law_key : Def P w K mg base "_law_key" 2 (spInts 0 127)) (D__law_thing : Def P w K mg base "_law_thing" 3 spThing) (m_range : mg "range" = none) (m_min : mg "min" = none) : FnOk P w K mg base CX0 4 f fd ["_law_draw", "_law_most"] spKeen := by
  refine F.ok sc_keen_track (fun vs H Q E h => ?_) (fun cdv A outer s B vs Q E hr h => ?_)
  · obtain ⟨d, m, H0, rfl, _⟩ := h
    rfl
  · obtain ⟨d, m, H0, rfl, hm, e0, hD, q⟩ := h
    refine ⟨_, (pss_cons (ps_set (i := 2) sc_keen_track.nd rfl (Or.inl rfl) (pe_lst pa_nil))
      (pss_cons (ps_set (i := 3) sc_keen_track.nd rfl (Or.inl rfl) pe_int)
      (pss_cons (ps_setLc (i := 4) (own := [("_law_k", 5)]) (g := gName 5) (tt := tYes) rfl sc_keen_track.nd rfl rfl (sw_true rfl rfl rfl (by decide +kernel)) (pi_range1 rfl m_range (pa_cons (pe_op op_add pe_int (pe_d D__law_pick (hr.mono (by decide)) rfl (pa_cons (pv 0) (pa_cons pe_int pa_nil)))) pa_nil)) (blkOk_by (N := ["_law_draw", "_law_most", "_law_found", "_law_tick", "_law_some", "_law_k", "_law_channel_here", "_law_key_here", "_law_kind"]) (sc := defScope s_keen_track) (by decide +kernel)) (fun _ _ _ _ _ => pg_name (i := 5) sc_keen_track.nd rfl (Or.inl rfl)) (fun _ _ _ _ _ => pts_nil) (fun _ _ _ _ _ => (pe_tup (pa_cons (pe_d D__law_channel (hr.mono (by decide)) rfl (pa_cons (pv 0) pa_nil)) (pa_cons (pe_d D__law_key (hr.mono (by decide)) rfl (pa_cons (pv 0) pa_nil)) pa_nil)))))
      (pss_cons (ps_for PassesOwn.never rfl (pi_range1 rfl m_range (pa_cons (pe_d D__law_pick (hr.mono (by decide)) rfl (pa_cons (pv 0) (pa_cons (pe_op op_add (pv 1) pe_int) pa_nil))) pa_nil)) (pg_name (i := 5) sc_keen_track.nd rfl (Or.inl rfl)) (pss_cons (ps_set (i := 3) sc_keen_track.nd rfl (Or.inl rfl) (pe_callB (call_min2 rfl) (by rfl) m_min bt_min (pa_cons pe_int (pa_cons (pe_op op_add (pv 3) (pe_d D__law_pick (hr.mono (by decide)) rfl (pa_cons (pv 0) (pa_cons (pe_ix ix_tup (pe_tup (pa_cons pe_int (pa_cons pe_int (pa_cons pe_int (pa_cons pe_int pa_nil))))) (pe_d D__law_pick (hr.mono (by decide)) rfl (pa_cons (pv 0) (pa_cons pe_int pa_nil))) (fun _ _ => rfl)) pa_nil)))) pa_nil))))
      (pss_cons (ps_asg (pe_d D__law_one (hr.mono (by decide)) rfl (pa_cons (pv 0) (pa_cons (pv 4) pa_nil))) (pg_tup rfl (pgs_cons (pg_name (i := 6) sc_keen_track.nd rfl (Or.inl rfl)) (pgs_cons (pg_name (i := 7) sc_keen_track.nd rfl (Or.inl rfl)) pgs_nil))))
      (pss_cons (ps_set (i := 8) sc_keen_track.nd rfl (Or.inl rfl) (pe_d D__law_pick (hr.mono (by decide)) rfl (pa_cons (pv 0) (pa_cons pe_int pa_nil))))
      (pss_one (ps_if (pt_cmpR op_lt (pv 8) pe_int (nomark _)) (pss_one (ps_expr (pe_bm PySem.F.plainAttrs_list PySem.F.slot_list_append PySem.F.type_list_append mt_append (pv 2) (pa_cons (pe_tup (pa_cons (pv 3) (pa_cons pe_str (pa_cons (pv 6) (pa_cons (pv 7) (pa_cons (pe_op op_add pe_int (pe_d D__law_pick (hr.mono (by decide)) rfl (pa_cons (pv 0) (pa_cons pe_int pa_nil)))) pa_nil)))))) pa_nil)))) (pss_one (ps_if (pt_cmpR op_lt (pv 8) pe_int (nomark _)) (pss_one (ps_expr (pe_bm PySem.F.plainAttrs_list PySem.F.slot_list_append PySem.F.type_list_append mt_append (pv 2) (pa_cons (pe_tup (pa_cons (pv 3) (pa_cons pe_str (pa_cons (pv 6) (pa_cons (pv 7) (pa_cons (pe_ix ix_tup (pe_tup (pa_cons pe_int (pa_cons (pe_d D__law_pick (hr.mono (by decide)) rfl (pa_cons (pv 0) (pa_cons pe_int pa_nil))) pa_nil))) (pe_d D__law_pick (hr.mono (by decide)) rfl (pa_cons (pv 0) (pa_cons pe_int pa_nil))) (fun _ _ => rfl)) pa_nil)))))) pa_nil)))) (pss_one (ps_expr (pe_bm PySem.F.plainAttrs_list PySem.F.slot_list_append PySem.F.type_list_append mt_append (pv 2) (pa_cons (pe_op op_catA (pe_tup (pa_cons (pv 3) pa_nil)) (pe_d D__law_thing (hr.mono (by decide)) rfl (pa_cons (pv 0) pa_nil))) pa_nil))))))))))))
      (pss_one (ps_ret (pv 2))))))), ?_⟩
    have S := Sd.here e0 hD
    -- found = []
    refine ⟨(by show 0 ≤ sizeLine; decide), fun p hp => ?_⟩
    have np := S.dr.ne hp
    have bp := S.go.fresh hp
    have S := S.lay (.lst []) hp
    have h0p : H0 p = none := e0.free hp
    have hpp : upd B p (.lst []) p = some (.lst []) := upd_same
    -- some = [(channel, key) ..]
    refine ⟨_, rfl, d, 3, _, rfl, by decide, by decide, S.ex, S.dr, fun n H n0 n1 g hD => ?_⟩
    have hpp := g.keep p _ hpp (fun z => np z.symm)
    have S := S.call g hD
    refine ⟨_, _, rfl, rfl, _, rfl, by omega, by omega, fun D hDn => ?_⟩
    have ndD := S.dr.ne hDn
    have bD := S.go.fresh hDn
    have pD : p ≠ D := ne_of_none hpp hDn
    refine lc_range (lo := 0) (n := (1 + n).toNat) (fun i H' => ∃ (ys : List V) (G0 : Hp), H' D = some (.lst ys) ∧ ys.length = i ∧ Pairs G0 ys ∧ Sd d H0 B G0 H' ∧ G0 D = none ∧ H' p = some (.lst []) ∧ G0 p = none) ⟨[], _, upd_same, rfl, (fun y h => nomatch h), S.lay _ hDn, S.ex.free hDn, (upd_ne pD).trans hpp, h0p⟩ ?_ ?_
    · rintro i H' hi ⟨ys, G0, h1, h2, h3, S1, h4, h5, h6⟩
      refine ⟨rfl, ?_⟩
      refine ⟨_, rfl, d, _, rfl, S1.ex, S1.dr, fun c G1 H2 c0 c1 g hD2 => ?_⟩
      have h6 := g.new p (by rw [h5]; simp) h6
      have h4 := g.new D (by rw [h1]; simp) h4
      have h5 := g.keep p _ h5 (fun z => np z.symm)
      have h1 := g.keep D _ h1 (fun z => ndD z.symm)
      have h3 := h3.up g.up
      have S1 := S1.call g hD2
      refine ⟨_, rfl, d, _, rfl, S1.ex, S1.dr, fun k G1 H2 k0 k1 g hD2 => ?_⟩
      have h6 := g.new p (by rw [h5]; simp) h6
      have h4 := g.new D (by rw [h1]; simp) h4
      have h5 := g.keep p _ h5 (fun z => np z.symm)
      have h1 := g.keep D _ h1 (fun z => ndD z.symm)
      have h3 := h3.up g.up
      have S1 := S1.call g hD2
      refine ⟨(by show 2 ≤ sizeLine; decide), fun t ht => ?_⟩
      have pt : p ≠ t := ne_of_none h5 ht
      have Dt : D ≠ t := ne_of_none h1 ht
      have h3 := h3.up (Ex.new (o := .tup [.int c, .int k]) (S1.ex.free ht))
      have S2 := S1.put (.tup [.int c, .int k]) ht
      have h1' := (upd_ne (o := .tup [.int c, .int k]) Dt).trans h1
      have h4' : upd G1 t (.tup [.int c, .int k]) D = none := (upd_ne Dt).trans h4
      refine ⟨_, h1', mem_lt (by omega), ys ++ [.ref t], _, upd_same, by rw [List.length_append, h2]; rfl, h3.snoc upd_same ⟨c0, c1⟩ ⟨k0, k1⟩, S2.turn _ bD h4' ndD, h4', ?_, (upd_ne pt).trans h6⟩
      rw [upd_ne pD, upd_ne pt, h5]
    · rintro H' ⟨ys, G0, h1, h2, h3, S1, h4, h5, h6⟩
      -- the pairs' list is settled
      have S1 := S1.set bD h1 h4 ndD
      have h3 := h3.up (Ex.new (o := .lst ys) h4)
      have h1 : upd G0 D (.lst ys) D = some (.lst ys) := upd_same
      have h6 : upd G0 D (.lst ys) p = none := (upd_ne pD).trans h6
      revert h1 h3 h6 S1
      generalize upd G0 D (.lst ys) = G0
      intro S h3 hD0 h0p
      have hys : 0 < ys.length := by omega
      have hys2 : ys.length ≤ 3 := by omega
      clear g hD h4 h2
      have lok : ∀ (i : Nat) (v : V), ys[i]? = some v → ∃ q c k, v = .ref q ∧ G0 q = some (.tup [.int c, .int k]) ∧ (0 ≤ c ∧ c ≤ 15) ∧ (0 ≤ k ∧ k ≤ 127) := fun i v hv => h3 v (List.mem_of_getElem? hv)
      refine ⟨_, rfl, _, rfl, _, _, rfl, rfl, d, _, _, rfl, by omega, by omega, S.ex, S.dr, fun n H n0 n1 g hD => ?_⟩
      have h0p := g.new p (by rw [h5]; simp) h0p
      have hpp := g.keep p _ h5 (fun z => np z.symm)
      have S := S.call g hD
      obtain ⟨n, rfl⟩ : ∃ k : Nat, n = (k : Int) := ⟨n.toNat, by omega⟩
      refine ⟨_, rfl, by omega, by omega, for_range (lo := 0) (n := n) (fun i σ H' => ∃ (v5 v6 v7 v8 : Option V) (t : Int) (ps : List Addr) (es : List Evt) (G1 : Hp), σ = [some (.ref d), some (.int (m : Int)), some (.ref p), some (.int t), some (.ref D), v5, v6, v7, v8] ∧ 0 ≤ t ∧ t ≤ 999999 ∧ TrS d H0 B p ps (es.map Evt.v) G1 H' ∧ Ex G0 G1 ∧ es.length = i ∧ (∀ e ∈ es, e.Ok) ∧ RiseE es ∧ (∀ e ∈ es, e.tick ≤ t))
        ⟨_, _, _, _, 0, [], [], G0, rfl, by decide, by decide, ⟨S, hpp, h0p, Evs.nil _, np⟩, Ex.refl _, rfl, (fun x h => nomatch h), (fun i x y h => by simp at h), (fun x h => nomatch h)⟩ ?_ ?_⟩
      · clear S hpp h0p hD g
        rintro i σ H hi ⟨v5, v6, v7, v8, t, ps, es, G1, rfl, t0, t1, T, xG, hl, hok, hrise, hle⟩
        -- tick = min(999999, tick + pick(draw, (1, 3, 60, 9000)[pick(draw, 4)]))
        refine ⟨_, rfl, _, rfl, (by show 4 ≤ sizeLine; decide), fun w hw => ?_⟩
        obtain ⟨G2, H, eH, T, hww, x⟩ := T.nw (.tup [.int 1, .int 3, .int 60, .int 9000]) hw
        have xG := xG.trans x
        rw [eH]
        refine ⟨_, rfl, d, 4, _, rfl, by decide, by decide, T.S.ex, T.S.dr, fun y H y0 y1 g hD => ?_⟩
        have T := T.call g hD
        obtain ⟨z, hz, z0, z1⟩ := get_int [.int 1, .int 3, .int 60, .int 9000] 1 9000 (fun v hv => by
          simp only [List.mem_cons, List.mem_nil_iff, or_false] at hv
          rcases hv with rfl | rfl | rfl | rfl
          · exact ⟨_, rfl, by decide, by decide⟩
          · exact ⟨_, rfl, by decide, by decide⟩
          · exact ⟨_, rfl, by decide, by decide⟩
          · exact ⟨_, rfl, by decide, by decide⟩) y y0 y1
        refine ⟨w, _, _, _, rfl, rfl, SqT.of (T.S.ex _ _ hww), at_of (j := y.toNat) (by omega) hz, d, z, _, rfl, by omega, by omega, T.S.ex, T.S.dr, fun u H u0 u1 g hD => ?_⟩
        have T := T.call g hD
        refine ⟨_, _, rfl, rfl, _, _, rfl, ?_⟩
        dsimp only
        obtain ⟨t', et, h1, h2, h3⟩ : ∃ t', (if t + u < 999999 then t + u else 999999) = t' ∧ t ≤ t' ∧ 0 ≤ t' ∧ t' ≤ 999999 := by
          refine ⟨_, rfl, ?_⟩
          split <;> omega
        rw [et]
        -- channel, key = one(draw, some)
        refine ⟨_, rfl, _, rfl, d, D, ys, _, rfl, T.S.ex, T.S.dr, xG _ _ hD0, hys, by omega, fun iy v H hv g hD => ?_⟩
        have T := T.call g hD
        obtain ⟨qa, c, k, rfl, hqa, hc, hk⟩ := lok iy v hv
        refine ⟨qa, _, rfl, SqT.of (T.S.ex _ _ (xG _ _ hqa)), rfl, _, _, rfl, _, _, rfl, rfl, ?_⟩
        -- kind
        refine ⟨_, rfl, d, 9, _, rfl, by decide, by decide, T.S.ex, T.S.dr, fun kd H kd0 kd1 g hD => ?_⟩
        have T := T.call g hD
        -- the list grows by one event
        have fin : ∀ (e : Evt) (x : Addr) (G3 H3 : Hp) (v8 : Option V), TrS d H0 B p ps (es.map Evt.v) G3 H3 → Ex G0 G3 → G3 x = some (.tup e.v) → e.Ok → e.tick = t' →
            ∃ (l : Addr) (xs : List V) (y : V), V.ref p = .ref l ∧ [V.ref x] = [y] ∧ H3 l = some (.lst xs) ∧ xs.length < sizeLine ∧ ∃ (v5' v6' v7' v8' : Option V) (tt : Int) (ps' : List Addr) (es' : List Evt) (G' : Hp), [some (.ref d), some (.int (m : Int)), some (.ref p), some (.int t'), some (.ref D), some (V.int (0 + (i : Int))), some (.int c), some (.int k), v8] = [some (.ref d), some (.int (m : Int)), some (.ref p), some (.int tt), some (.ref D), v5', v6', v7', v8'] ∧ 0 ≤ tt ∧ tt ≤ 999999 ∧ TrS d H0 B p ps' (es'.map Evt.v) G' (upd H3 l (.lst (xs ++ [y]))) ∧ Ex G0 G' ∧ es'.length = i + 1 ∧ (∀ e ∈ es', e.Ok) ∧ RiseE es' ∧ (∀ e ∈ es', e.tick ≤ tt) := fun e x G3 H3 v8 T x3 hx ok tk => by
          have S2 := T.S.turn (.lst (ps.map V.ref ++ [.ref x])) hp T.h0 np
          have le : ∀ e2 ∈ es, e2.tick ≤ e.tick := fun e2 h => by rw [tk]; exact Int.le_trans (hle e2 h) h1
          have ln : ps.length = es.length := T.hev.len
          have hv := T.hev.snoc hx
          rw [show es.map Evt.v ++ [e.v] = (es ++ [e]).map Evt.v by rw [List.map_append]; rfl] at hv
          refine ⟨p, _, _, rfl, rfl, T.hp, mem_lt (by rw [List.length_map]; omega), _, _, _, _, t', ps ++ [x], es ++ [e], G3, rfl, h2, h3, ⟨S2, ?_, T.h0, hv, np⟩, x3, by rw [List.length_append, hl]; rfl, fun e2 h => ?_, hrise.snoc le, fun e2 h => ?_⟩
          · rw [upd_same, List.map_append]
            rfl
          · rcases List.mem_append.mp h with h | h
            · exact hok e2 h
            · rw [List.mem_singleton.mp h]; exact ok
          · rcases List.mem_append.mp h with h | h
            · rw [← tk]; exact le e2 h
            · rw [List.mem_singleton.mp h, tk]; exact Int.le_refl _
        refine ⟨_, rfl, _, _, rfl, rfl, _, rfl, ifD (fun c4 => ?_) (fun c4 => ?_)⟩
        · -- an on
          refine ⟨_, rfl, .inl ⟨rfl, _, SqL.of T.hp⟩, _, rfl, _, rfl, _, rfl, _, rfl, d, 127, _, rfl, by decide, by decide, T.S.ex, T.S.dr, fun f H f0 f1 g hD => ?_⟩
          have T := T.call g hD
          refine ⟨_, _, rfl, rfl, (by show 5 ≤ sizeLine; decide), ?_⟩
          dsimp only
          refine fun w5 hw5 => ?_
          obtain ⟨G3, H, eH, T, hx, x3⟩ := T.nw (.tup [.int t', .str "on", .int c, .int k, .int (1 + f)]) hw5
          rw [eH]
          exact fin (.key true t' c k (1 + f)) w5 _ _ _ T (xG.trans x3) hx ⟨⟨h2, h3⟩, hc, hk, by show 1 ≤ 1 + f; omega, by omega⟩ rfl
        · refine ⟨_, rfl, _, _, rfl, rfl, _, rfl, ifD (fun c8 => ?_) (fun c8 => ?_)⟩
          · -- an off
            refine ⟨_, rfl, .inl ⟨rfl, _, SqL.of T.hp⟩, _, rfl, _, rfl, _, rfl, _, rfl, d, 128, _, rfl, by decide, by decide, T.S.ex, T.S.dr, fun f H f0 f1 g hD => ?_⟩
            have T := T.call g hD
            refine ⟨(by show 2 ≤ sizeLine; decide), fun w2 hw2 => ?_⟩
            obtain ⟨G3, H, eH, T, hx2, x3⟩ := T.nw (.tup [.int 64, .int f]) hw2
            have xG := xG.trans x3
            rw [eH]
            refine ⟨_, rfl, d, 2, _, rfl, by decide, by decide, T.S.ex, T.S.dr, fun u H u0 u1 g hD => ?_⟩
            have T := T.call g hD
            obtain ⟨f', hf', f0', f1'⟩ := get_int [.int 64, .int f] 0 127 (fun v hv => by
              simp only [List.mem_cons, List.mem_nil_iff, or_false] at hv
              rcases hv with rfl | rfl
              · exact ⟨_, rfl, by decide, by decide⟩
              · exact ⟨_, rfl, f0, by omega⟩) u u0 u1
            refine ⟨w2, _, _, _, rfl, rfl, SqT.of (T.S.ex _ _ hx2), at_of (j := u.toNat) (by omega) hf', (by show 5 ≤ sizeLine; decide), fun w5 hw5 => ?_⟩
            obtain ⟨G4, H, eH, T, hx, x4⟩ := T.nw (.tup [.int t', .str "off", .int c, .int k, .int f']) hw5
            rw [eH]
            exact fin (.key false t' c k f') w5 _ _ _ T (xG.trans x4) hx ⟨⟨h2, h3⟩, hc, hk, f0', f1'⟩ rfl
          · -- another thing
            refine ⟨_, rfl, .inl ⟨rfl, _, SqL.of T.hp⟩, _, rfl, (by show 1 ≤ sizeLine; decide), fun w1 hw1 => ?_⟩
            obtain ⟨G3, H, eH, T, hx1, x3⟩ := T.nw (.tup [.int t']) hw1
            have xG := xG.trans x3
            rw [eH]
            refine ⟨_, rfl, d, _, rfl, T.S.ex, T.S.dr, fun b ys G4 H ok sc ln g hD _ hb => ?_⟩
            have xG := xG.trans g.up
            have hx1 := g.up _ _ hx1
            have T := T.call g hD
            refine T.cat hx1 hb (by show 1 + _ ≤ 1000; omega) fun c2 G5 H5 T x5 hc2 => ?_
            obtain ⟨e, he, oke, tk⟩ := evt_of h2 h3 ok ln
            refine fin e c2 _ _ _ T (xG.trans x5) ?_ oke tk
            rw [← he]
            exact hc2
      · rintro σ H ⟨v5, v6, v7, v8, t, ps, es, G1, rfl, t0, t1, T, xG, hl, hok, hrise, hle⟩
        exact ⟨_, rfl, q p ps es _ _ T.S.go T.S.dr hp T.hp T.h0 T.hev (by omega) hok hrise⟩
end
end Rt

namespace Rt
open PySem PySem.Spec PyProof.Rows L2 RZ TL LamX
section
variable {P : Program} {w : World} {K : PySem.W.Frag} {mg : Str → Option Value} {base : Heap}
abbrev s_walked : Stmt := topS 14
theorem sc_walked : FnScope ["track", "ends", "lone_ends", "overs", "sounding", "place", "event", "row"] ["track"] (defScope s_walked) := ⟨rfl, rfl, rfl, by decide +kernel, rfl, by decide +kernel, by decide +kernel⟩
theorem ok_walked {f : Addr} {fd : FuncData} (F : Fun K "walked_through" "walked_through" s_walked f fd) (m_enumerate : mg "enumerate" = none) (m_len : mg "len" = none) : FnOk P w K mg base CX0 1 f fd ["track"] spWalk := by
  refine F.ok sc_walked (fun vs H Q E h => ?_) (fun cdv A outer s B vs Q E hr h => ?_)
  · obtain ⟨r, ps, es, H0, rfl, _⟩ := h
    rfl
  · obtain ⟨r, ps, es, H0, rfl, e0, hr0, hev, hl, q⟩ := h
    refine ⟨_, (pss_cons (ps_set (i := 1) sc_walked.nd rfl (Or.inl rfl) pe_dnewK)
      (pss_cons (ps_set (i := 2) sc_walked.nd rfl (Or.inl rfl) (pe_lst pa_nil))
      (pss_cons (ps_set (i := 3) sc_walked.nd rfl (Or.inl rfl) (pe_lst pa_nil))
      (pss_cons (ps_set (i := 4) sc_walked.nd rfl (Or.inl rfl) pe_dnewT)
      (pss_cons (ps_for PassesOwn.never rfl (pi_enum (by rfl) m_enumerate (pa_cons (pv 0) pa_nil)) (pg_tup rfl (pgs_cons (pg_name (i := 5) sc_walked.nd rfl (Or.inl rfl)) (pgs_cons (pg_name (i := 6) sc_walked.nd rfl (Or.inl rfl)) pgs_nil))) (pss_cons (ps_if (pt_cmpR op_notIn_seq (pe_ix ix_tup (pv 6) pe_int (fun _ _ => rfl)) (pe_tup (pa_cons pe_str (pa_cons pe_str pa_nil))) (by with_unfolding_all rfl)) (pss_one ps_continue) pss_nil)
      (pss_cons (ps_set (i := 7) sc_walked.nd rfl (Or.inl rfl) (pe_bm PySem.F.plainAttrs_dict PySem.F.slot_dict_setdefault PySem.F.type_dict_setdefault (mt_setdT (hu_of hr)) (pv 4) (pa_cons (pe_tup (pa_cons (pe_ix ix_tup (pv 6) pe_int (fun _ _ => rfl)) (pa_cons (pe_ix ix_tup (pv 6) pe_int (fun _ _ => rfl)) pa_nil))) (pa_cons (pe_lst pa_nil) pa_nil))))
      (pss_one (ps_if (pt_cmpR op_eq (pe_ix ix_tup (pv 6) pe_int (fun _ _ => rfl)) pe_str (nomark _)) (pss_cons (ps_if (pt_cmpR op_gt (pe_callB call_len_seq (by rfl) m_len PySem.boot_len (pa_cons (pv 7) pa_nil)) pe_int (nomark _)) (pss_one (ps_expr (pe_bm PySem.F.plainAttrs_list PySem.F.slot_list_append PySem.F.type_list_append mt_append (pv 3) (pa_cons (pv 5) pa_nil)))) pss_nil)
      (pss_cons (ps_asg pe_non (pg_sub (pv 1) (pv 5) (set_dict (hu_of hr))))
      (pss_one (ps_expr (pe_bm PySem.F.plainAttrs_list PySem.F.slot_list_append PySem.F.type_list_append mt_append (pv 7) (pa_cons (pv 5) pa_nil)))))) (pss_one (ps_if (pt_cmpR op_gt (pe_callB call_len_seq (by rfl) m_len PySem.boot_len (pa_cons (pv 7) pa_nil)) pe_int (nomark _)) (pss_one (ps_asg (pv 5) (pg_sub (pv 1) (pe_bm PySem.F.plainAttrs_list PySem.F.slot_list_pop PySem.F.type_list_pop mt_popAt (pv 7) (pa_cons pe_int pa_nil)) (set_dict (hu_of hr))))) (pss_one (ps_expr (pe_bm PySem.F.plainAttrs_list PySem.F.slot_list_append PySem.F.type_list_append mt_append (pv 2) (pa_cons (pv 5) pa_nil)))))))))))
      (pss_one (ps_ret (pe_tup (pa_cons (pv 1) (pa_cons (pv 2) (pa_cons (pv 3) pa_nil))))))))))), ?_⟩
    have g := Go.refl (m := fun _ => False) e0
    -- ends, lone_ends, overs, sounding
    refine fun a ha => ?_
    obtain ⟨H1, e1, g, hra, x1, Ba, Za⟩ := g.ly (.dK []) ha
    rw [e1]
    refine ⟨(by show 0 ≤ sizeLine; decide), fun b hb => ?_⟩
    have nab := ne_of_none hra hb
    obtain ⟨H2, e2, g, hrb, x2, Bb, Zb⟩ := g.ly (.lst []) hb
    have hra := x2 _ _ hra
    rw [e2]
    refine ⟨(by show 0 ≤ sizeLine; decide), fun c hc => ?_⟩
    have nac := ne_of_none hra hc
    have nbc := ne_of_none hrb hc
    obtain ⟨H3, e3, g, hrc, x3, Bc, Zc⟩ := g.ly (.lst []) hc
    have hra := x3 _ _ hra
    have hrb := x3 _ _ hrb
    rw [e3]
    refine fun d hd => ?_
    have nad := ne_of_none hra hd
    have nbd := ne_of_none hrb hd
    have ncd := ne_of_none hrc hd
    obtain ⟨H4, e4, g, hrd, x4, Bd, Zd⟩ := g.ly (.dT []) hd
    have hra := x4 _ _ hra
    have hrb := x4 _ _ hrb
    have hrc := x4 _ _ hrc
    rw [e4]
    clear e1 e2 e3 e4 x1 x2 x3 x4 ha hb hc hd
    have lp : (ps.map V.ref).length = es.length := by rw [List.length_map, hev.len]
    refine ⟨_, rfl, r, _, rfl, SqL.of (g.inn _ _ hr0), for_enum (xs := ps.map V.ref) (fun i σ H' => ∃ (v5 v6 v7 : Option V) (kvs : List (List Key × V)), σ = [some (.ref r), some (.ref a), some (.ref b), some (.ref c), some (.ref d), v5, v6, v7] ∧ Go (fun _ => False) H0 B H0 H' ∧
        H' a = some (.dK (rowsK (walkN es i).rows)) ∧ H' b = some (.lst (nums (walkN es i).alone)) ∧ H' c = some (.lst (nums (walkN es i).above)) ∧ H' d = some (.dT kvs) ∧ kvs.length ≤ i ∧ i ≤ es.length ∧ Snd es (walkN es i).rows kvs (fun l => B l = none ∧ l ≠ b ∧ l ≠ c) H')
      ⟨none, none, none, [], rfl, g, hra, hrb, hrc, hrd, Nat.le_refl _, Nat.zero_le _, Snd.nil⟩ (fun i σ H' ⟨_, _, _, _, _, g, _⟩ => SqL.of (g.inn _ _ hr0)) ?_ ?_⟩
    · clear hra hrb hrc hrd g
      rintro i x T σ H' hx ⟨v5, v6, v7, kvs, rfl, g, hra, hrb, hrc, hrd, lk, hi, hs⟩ hT
      obtain ⟨p, e, rfl, hp, he, hpe⟩ := evs_at hev hx
      have naT := ne_of_none hra hT
      have nbT := ne_of_none hrb hT
      have ncT := ne_of_none hrc hT
      have ndT := ne_of_none hrd hT
      obtain ⟨H1, e1, g, hTT, x1, BT, ZT⟩ := g.ly (.tup [.int (i : Nat), .ref p]) hT
      have hs := e1 ▸ hs.lay (.tup [.int (i : Nat), .ref p]) hT
      have hra := x1 _ _ hra
      have hrb := x1 _ _ hrb
      have hrc := x1 _ _ hrc
      have hrd := x1 _ _ hrd
      rw [e1]
      have hpS : ∀ {H2 : Hp}, Go (fun _ => False) H0 B H0 H2 → SqT K H2 p e.v := fun g => SqT.of (g.inn _ _ hpe)
      refine ⟨T, _, rfl, SqT.of hTT, rfl, _, _, rfl, _, _, rfl, rfl, ?_⟩
      -- if event[1] not in ("on", "off")
      refine ⟨_, rfl, p, e.v, _, e.v.getD 1 .non, rfl, rfl, hpS g, by cases e <;> rfl, (by show 2 ≤ sizeLine; decide), fun z hz => ?_⟩
      obtain ⟨H2, e2, g, hzz, x2, _, _⟩ := g.ly (.tup [.str "on", .str "off"]) hz
      have hs := e2 ▸ hs.lay (.tup [.str "on", .str "off"]) hz
      have hra := x2 _ _ hra
      have hrb := x2 _ _ hrb
      have hrc := x2 _ _ hrc
      have hrd := x2 _ _ hrd
      rw [e2]
      clear e1 e2 x1 x2 hTT naT nbT ncT ndT hT hz BT ZT
      refine ⟨z, _, rfl, .inr (SqT.of hzz), by cases e <;> rfl, rfl, ?_⟩
      show ∃ b, _
      rw [if_pos rfl, in_onoff e]
      refine ⟨_, rfl, ?_⟩
      by_cases hk : e.isKey = true
      · rw [hk]
        refine ifF rfl ?_
        obtain ⟨on, t, ch, k, f', rfl⟩ : ∃ on t ch k f', e = .key on t ch k f' := by
          cases e with
          | key on t ch k f' => exact ⟨_, _, _, _, _, rfl⟩
          | _ => cases hk
        have ckI := ck_at he
        refine ⟨_, rfl, .inr (.inr (.inl ⟨rfl, .inr ⟨_, hrd⟩⟩)), _, rfl, p, _, _, _, rfl, rfl, hpS g, at_of (j := 2) rfl rfl, _, rfl, p, _, _, _, rfl, rfl, hpS g, at_of (j := 3) rfl rfl, (by show 2 ≤ sizeLine; decide), fun kp hkp => ?_⟩
        obtain ⟨H3, e3, g, hkk, x3, _, _⟩ := g.ly (.tup [.int ch, .int k]) hkp
        have hs := e3 ▸ hs.lay (.tup [.int ch, .int k]) hkp
        have hra := x3 _ _ hra
        have hrb := x3 _ _ hrb
        have hrc := x3 _ _ hrc
        have hrd := x3 _ _ hrd
        rw [e3]
        refine ⟨(by show 0 ≤ sizeLine; decide), fun l hl => ?_⟩
        have nbl := ne_of_none hrb hl
        have ncl := ne_of_none hrc hl
        have ndl := ne_of_none hrd hl
        have fr : ∀ c' k', valV kvs (keyK c' k') ≠ some (.ref l) := fun c' k' z => by
          rcases hs.1 c' k' with ⟨h1, _⟩ | ⟨m, h1, h2, _⟩
          · rw [z] at h1; cases h1
          · rw [z] at h1
            cases h1
            rw [hl] at h2
            cases h2
        obtain ⟨H4, e4, g, hll, x4, Bl, Zl⟩ := g.ly (.lst []) hl
        have hs := e4 ▸ hs.lay (.lst []) hl
        have hra := x4 _ _ hra
        have hrb := x4 _ _ hrb
        have hrc := x4 _ _ hrc
        have hrd := x4 _ _ hrd
        have hkk := x4 _ _ hkk
        rw [e4]
        refine ⟨d, kvs, keyK ch k, kp, .ref l, rfl, rfl, hrd, hkk, mem_lt (by omega), fun old ho => ?_, fun hn => ?_⟩
        -- the row that is there, or a new one
        obtain ⟨m, h1, _⟩ := (hs.1 ch k).resolve_left (fun z => by rw [z.1] at ho; cases ho)
        rw [ho] at h1
        cases h1
        have hv := ho
        obtain ⟨q1, q2, q3⟩ : (kvs.length ≤ i + 1 ∧ H4 = H4 ∧ kvs = kvs) := ⟨by omega, rfl, rfl⟩
        rotate_left
        have hs := hs.put hn hll ⟨Bl, nbl.symm, ncl.symm⟩ fr
        have hs := hs.other (x := d) (.dT (putK kvs (keyK ch k) (.ref l))) fun m ys h _ z => by rw [z, hrd] at h; cases h
        have g := g.turn (.dT (putK kvs (keyK ch k) (.ref l))) Bd Zd
        have hra := (upd_ne (o := .dT (putK kvs (keyK ch k) (.ref l))) nad).trans hra
        have hrb := (upd_ne (o := .dT (putK kvs (keyK ch k) (.ref l))) nbd).trans hrb
        have hrc := (upd_ne (o := .dT (putK kvs (keyK ch k) (.ref l))) ncd).trans hrc
        have hrd : upd H4 d (.dT (putK kvs (keyK ch k) (.ref l))) d = _ := upd_same
        have hv : valV (putK kvs (keyK ch k) (.ref l)) (keyK ch k) = some (.ref l) := by rw [valV_put, if_pos rfl]
        have q1 : (putK kvs (keyK ch k) (.ref l)).length ≤ i + 1 := by
          have := length_putK kvs (keyK ch k) (.ref l)
          omega
        revert hs g hra hrb hrc hrd hv q1
        generalize putK kvs (keyK ch k) (.ref l) = kvs
        generalize upd H4 d (.dT kvs) = H4
        intro hs g hra hrb hrc hrd hv q1
        obtain ⟨m, em, hv⟩ : ∃ m, l = m ∧ valV kvs (keyK ch k) = some (.ref m) := ⟨l, rfl, hv⟩
        rw [em]
        all_goals
          obtain ⟨m', h1, hm, hX⟩ := (hs.1 ch k).resolve_left (fun z => by rw [z.1] at hv; cases hv)
          rw [hv] at h1
          cases h1
          have hX1 := hX.1
          have hX2 := hX.2.1
          have hX3 := hX.2.2
          have Zm : H0 m = none := e0.free hX1
          have wl := walkN_len es i
          have nma : m ≠ a := fun z => by rw [z, hra] at hm; cases hm
          have nmd : m ≠ d := fun z => by rw [z, hrd] at hm; cases hm
          cases on with
          | true =>
            refine ⟨_, rfl, p, _, _, _, rfl, rfl, hpS g, at_of (j := 1) rfl rfl, rfl, _, rfl, ifT (decide_eq_true rfl) ?_⟩
            refine ⟨_, rfl, m, _, rfl, .inl (SqL.of hm), _, _, rfl, rfl, _, rfl, ?_⟩
            have st := step_on he (walkN es i)
            -- one over another?
            by_cases ho : openAt es (walkN es i).rows (ch, k) = []
            refine ifF (by rw [nums_len, ho]; rfl) ?_
            rw [if_pos ho] at st
            have hrc : H4 c = some (.lst (nums (stepN es i (walkN es i)).above)) := by rw [st]; exact hrc
            rotate_left
            refine ifT (decide_eq_true (by rw [nums_len]; have := List.length_pos_iff.mpr ho; omega)) ?_
            rw [if_neg ho] at st
            refine ⟨_, rfl, .inl ⟨rfl, _, SqL.of hrc⟩, _, rfl, c, _, _, rfl, rfl, hrc, mem_lt (by rw [nums_len]; omega), ?_⟩
            have hs := hs.other (x := c) (.lst (nums (walkN es i).above ++ [.int (i : Nat)])) fun m ys h X z => X.2.2 z
            have g := g.turn (.lst (nums (walkN es i).above ++ [.int (i : Nat)])) Bc Zc
            have hra := (upd_ne (o := .lst (nums (walkN es i).above ++ [.int (i : Nat)])) nac).trans hra
            have hrb := (upd_ne (o := .lst (nums (walkN es i).above ++ [.int (i : Nat)])) nbc).trans hrb
            have hrd := (upd_ne (o := .lst (nums (walkN es i).above ++ [.int (i : Nat)])) ncd.symm).trans hrd
            have hm := (upd_ne (o := .lst (nums (walkN es i).above ++ [.int (i : Nat)])) hX3).trans hm
            have hrc : upd H4 c (.lst (nums (walkN es i).above ++ [.int (i : Nat)])) c = some (.lst (nums (stepN es i (walkN es i)).above)) := by rw [upd_same, st, nums_snoc]
            revert hs g hra hrb hrd hm hrc
            generalize upd H4 c (.lst (nums (walkN es i).above ++ [.int (i : Nat)])) = H4
            intro hs g hra hrb hrd hm hrc
            all_goals
              have st1 : (stepN es i (walkN es i)).rows = (walkN es i).rows ++ [(i, none)] := by rw [st]
              have st2 : (stepN es i (walkN es i)).alone = (walkN es i).alone := by rw [st]
              have op : ∀ c', openAt es ((walkN es i).rows ++ [(i, none)]) c' = if c' = (ch, k) then openAt es (walkN es i).rows (ch, k) ++ [i] else openAt es (walkN es i).rows c' := fun c' => by
                rw [open_snoc, ckI]
                by_cases z : c' = (ch, k)
                · rw [if_pos (by rw [z]), if_pos z, z]
                · rw [if_neg (fun y => z (Option.some.inj y).symm), if_neg z]
              have lop : (openAt es (walkN es i).rows (ch, k)).length ≤ i := by
                unfold openAt
                rw [List.length_map]
                exact Nat.le_trans (List.length_filter_le _ _) wl.1
              refine ⟨_, rfl, _, rfl, a, _, rfl, DPut.k (k := Sum.inl (i : Int)) hra (mem_lt (by rw [rowsK_len]; omega)), ?_⟩
              rw [putK_none (walkN_asc es i).2, ← st1]
              have hs := hs.other (x := a) (.dK (rowsK (stepN es i (walkN es i)).rows)) fun m ys h _ z => by rw [z, hra] at h; cases h
              have g := g.turn (.dK (rowsK (stepN es i (walkN es i)).rows)) Ba Za
              have hrb := (upd_ne (o := .dK (rowsK (stepN es i (walkN es i)).rows)) nab.symm).trans hrb
              have hrc := (upd_ne (o := .dK (rowsK (stepN es i (walkN es i)).rows)) nac.symm).trans hrc
              have hrd := (upd_ne (o := .dK (rowsK (stepN es i (walkN es i)).rows)) nad.symm).trans hrd
              have hm := (upd_ne (o := .dK (rowsK (stepN es i (walkN es i)).rows)) nma).trans hm
              have hra : upd H4 a (.dK (rowsK (stepN es i (walkN es i)).rows)) a = _ := upd_same
              revert hs g hra hrb hrd hm hrc
              generalize upd H4 a (.dK (rowsK (stepN es i (walkN es i)).rows)) = H4
              intro hs g hrb hrc hrd hm hra
              refine ⟨_, rfl, .inl ⟨rfl, _, SqL.of hm⟩, _, rfl, m, _, _, rfl, rfl, hm, mem_lt (by rw [nums_len]; omega), ?_⟩
              rw [← nums_snoc]
              have hs := hs.turn hv op
              rw [← st1] at hs
              refine ⟨_, _, _, kvs, rfl, g.turn _ hX1 Zm, (upd_ne nma.symm).trans hra, ?_, (upd_ne hX3.symm).trans hrc, (upd_ne nmd.symm).trans hrd, q1, (List.getElem?_eq_some_iff.mp he).1, hs⟩
              show upd H4 m _ b = some (.lst (nums (stepN es i (walkN es i)).alone))
              rw [st2, upd_ne hX2.symm]
              exact hrb
          | false =>
            refine ⟨_, rfl, p, _, _, _, rfl, rfl, hpS g, at_of (j := 1) rfl rfl, rfl, _, rfl, ifF (by decide +kernel) ?_⟩
            refine ⟨_, rfl, m, _, rfl, .inl (SqL.of hm), _, _, rfl, rfl, _, rfl, ?_⟩
            cases ho : openAt es (walkN es i).rows (ch, k) with
            | nil =>
              -- a lone end
              refine ifF rfl ?_
              have st := step_off0 he ho
              refine ⟨_, rfl, .inl ⟨rfl, _, SqL.of hrb⟩, _, rfl, b, _, _, rfl, rfl, hrb, mem_lt (by rw [nums_len]; omega), ?_⟩
              rw [← nums_snoc]
              have hs := hs.other (x := b) (.lst (nums ((walkN es i).alone ++ [i]))) fun m ys h X z => X.2.1 z
              have g := g.turn (.lst (nums ((walkN es i).alone ++ [i]))) Bb Zb
              have st' : walkN es (i + 1) = ⟨(walkN es i).rows, (walkN es i).alone ++ [i], (walkN es i).above⟩ := st
              refine ⟨_, _, _, kvs, rfl, g, ?_, ?_, ?_, (upd_ne nbd.symm).trans hrd, q1, (List.getElem?_eq_some_iff.mp he).1, ?_⟩
              · rw [st', upd_ne nab]; exact hra
              · rw [st', upd_same]
              · rw [st', upd_ne nbc.symm]; exact hrc
              · rw [st']; exact hs
            | cons w_ ws =>
              refine ifT (decide_eq_true (by rw [nums_len, List.length_cons]; omega)) ?_
              have st' : walkN es (i + 1) = ⟨setEnd (walkN es i).rows w_ i, (walkN es i).alone, (walkN es i).above⟩ := step_off1 he ho
              have wm := (mem_open (es := es) (rows := (walkN es i).rows) (c := (ch, k)) (b := w_) (by rw [ho]; exact .head _)).1
              rw [ho] at hm
              have sq : seqIndex? 0 (nums (w_ :: ws)).length = some 0 := by
                rw [nums_len, List.length_cons]
                show (if (decide ((0 : Int) ≤ 0) && decide ((0 : Int) < ((ws.length + 1 : Nat) : Int))) = true then some (0 : Int).toNat else none) = some 0
                rw [if_pos (by rw [decide_eq_true (Int.le_refl 0), decide_eq_true (by omega)]; rfl)]
                rfl
              refine ⟨_, rfl, _, rfl, _, rfl, .inl ⟨rfl, _, SqL.of hm⟩, m, _, 0, 0, _, rfl, rfl, hm, by decide, by decide, sq, rfl, ?_⟩
              rw [nums_tail]
              have hs := hs.turn hv (open_end (es := es) (i := i) (asc_nd (walkN_asc es i)) ho)
              have g := g.turn (.lst (nums ws)) hX1 Zm
              have hra := (upd_ne (o := .lst (nums ws)) nma.symm).trans hra
              have hrb := (upd_ne (o := .lst (nums ws)) hX2.symm).trans hrb
              have hrc := (upd_ne (o := .lst (nums ws)) hX3.symm).trans hrc
              have hrd := (upd_ne (o := .lst (nums ws)) nmd.symm).trans hrd
              refine ⟨a, _, rfl, DPut.k (k := Sum.inl (w_ : Int)) hra (mem_lt (by rw [rowsK_len]; omega)), ?_⟩
              rw [putK_end wm]
              have hs := hs.other (x := a) (.dK (rowsK (setEnd (walkN es i).rows w_ i))) fun m ys h _ z => by rw [z, hra] at h; cases h
              have g := g.turn (.dK (rowsK (setEnd (walkN es i).rows w_ i))) Ba Za
              refine ⟨_, _, _, kvs, rfl, g, ?_, ?_, ?_, (upd_ne nad.symm).trans hrd, q1, (List.getElem?_eq_some_iff.mp he).1, ?_⟩
              · rw [st', upd_same]
              · rw [st', upd_ne nab.symm]; exact hrb
              · rw [st', upd_ne nac.symm]; exact hrc
              · rw [st']; exact hs
      · rw [Bool.eq_false_iff.mpr hk]
        refine ifT rfl ?_
        have st : walkN es (i + 1) = walkN es i := step_no he (Bool.eq_false_iff.mpr hk) _
        refine ⟨_, _, _, kvs, rfl, g, ?_, ?_, ?_, hrd, by omega, (List.getElem?_eq_some_iff.mp he).1, ?_⟩ <;> rw [st] <;> assumption
    · rintro σ H' ⟨v5, v6, v7, kvs, rfl, g, hra, hrb, hrc, hrd, lk, hi, hs⟩
      rw [lp] at hra hrb hrc
      refine ⟨_, rfl, _, rfl, _, rfl, (by show 3 ≤ sizeLine; decide), fun t ht => ?_⟩
      obtain ⟨H1, e1, g, hTT, x1, BT, ZT⟩ := g.ly (.tup [.ref a, .ref b, .ref c]) ht
      rw [e1]
      exact q t a b c H1 g Ba Bb Bc nbc hTT (x1 _ _ hra) (x1 _ _ hrb) (x1 _ _ hrc)
abbrev s_notes : Stmt := topS 15
theorem sc_notes : FnScope ["track", "ends", "_"] ["track"] (defScope s_notes) := ⟨rfl, rfl, rfl, by decide +kernel, rfl, by decide +kernel, by decide +kernel⟩
/-- notes: a new list of new pairs -/
def spNotes : Sp := fun vs H Q _ => ∃ (r : Addr) (ps : List Addr) (es : List Evt) (H0 : Hp), vs = [.ref r] ∧ Ex H0 H ∧ H0 r = some (.lst (ps.map V.ref)) ∧ Evs H0 ps (es.map Evt.v) ∧ es.length ≤ 1000 ∧
  ∀ (p : Addr) (ts : List Addr) (H' : Hp), Go (fun _ => False) H0 H H0 H' → H p = none → H' p = some (.lst (ts.map V.ref)) → Paired (fun (t : Addr) (q : Row) => H' t = some (.tup [.int (q.1 : Int), endV q.2])) ts (walkN es es.length).rows → p ∉ ts → (∀ t ∈ ts, H t = none) → Q (.ref p) H'
theorem paired_rows {H : Hp} : ∀ {ts : List Addr} {rows : List Row}, Paired (fun (t : Addr) (q : Key × V) => H t = some (.tup [kV q.1, q.2])) ts (rowsK rows) → Paired (fun (t : Addr) (q : Row) => H t = some (.tup [.int (q.1 : Int), endV q.2])) ts rows
  | [], [], _ => .nil
  | t :: ts, r :: rows, h => by
    cases h with
    | cons h1 h2 => exact .cons h1 (paired_rows h2)
  | [], r :: rows, h => nomatch h
  | t :: ts, [], h => nomatch h
theorem ok_notes {f : Addr} {fd : FuncData} (F : Fun K "notes" "notes" s_notes f fd) (D_walked_through : Def P w K mg base "walked_through" 1 spWalk) (m_list : mg "list" = none) : FnOk P w K mg base CX0 2 f fd ["track"] spNotes := by
  refine F.ok sc_notes (fun vs H Q E h => ?_) (fun cdv A outer s B vs Q E hr h => ?_)
  · obtain ⟨r, ps, es, H0, rfl, _⟩ := h
    rfl
  · obtain ⟨r, ps, es, H0, rfl, e0, hr0, hev, hl, q⟩ := h
    refine ⟨_, (pss_cons (ps_asg (pe_d D_walked_through (hr.mono (by decide)) rfl (pa_cons (pv 0) pa_nil)) (pg_tup rfl (pgs_cons (pg_name (i := 1) sc_notes.nd rfl (Or.inl rfl)) (pgs_cons (pg_name (i := 2) sc_notes.nd rfl (Or.inl rfl)) (pgs_cons (pg_name (i := 2) sc_notes.nd rfl (Or.inl rfl)) pgs_nil)))))
      (pss_one (ps_ret (LiI.pe_listItems rfl (pv 1) (by rfl) m_list bt_list)))), ?_⟩
    refine ⟨_, rfl, r, ps, es, H0, rfl, e0, hr0, hev, hl, fun t a b c H1 g Ba Bb Bc _ ht ha hb hc => ?_⟩
    refine ⟨t, _, rfl, SqT.of ht, rfl, _, _, rfl, _, _, rfl, _, _, rfl, rfl, ?_⟩
    refine ⟨_, rfl, a, _, rfl, ha, fun H2 p ts x np nt hn hp hts => ?_⟩
    refine q p ts H2 ⟨g.up, g.inn.trans x, g.new, fun u o h n => x _ _ (g.keep u o h n), fun u h => ?_⟩ (g.fresh np) hp (paired_rows hts) hn fun t ht => g.fresh (nt t ht)
    cases z : H1 u with
    | none => exact absurd z (g.there u h)
    | some o => rw [x u o z]; simp
abbrev s_law_k33 : Stmt := topS 25
theorem sc_law_k33 : FnScope ["_law_script", "_law_draw", "_law_track", "_law_rows", "_law_event", "_law_tick", "_law_due", "_law_begun", "_law_ended", "_law_found"] ["_law_script"] (defScope s_law_k33) := ⟨rfl, rfl, rfl, by decide +kernel, rfl, by decide +kernel, by decide +kernel⟩
def spLaw (K : PySem.W.Frag) : Sp := fun vs H Q _ => ∃ (a : Addr) (ns : List Int), vs = [.ref a] ∧ SqL K H a (ns.map V.int) ∧ ∀ H', Q (.bl true) H'
theorem ok_law {f C fL : Addr} {fd fdL : FuncData} (F : Fun K "law" "law" s_law_k33 f fd) (D__law_begin : Def P w K mg base "_law_begin" 1 (spBegin K)) (D__law_keen_track : Def P w K mg base "_law_keen_track" 4 spKeen) (D_notes : Def P w K mg base "notes" 2 spNotes) (D_stand_at : Def P w K mg base "stand_at" 5 (spStandAt C))
    (M_Stand_sounds : C8.Met P w K mg base 1 C "sounds" (spTold C Sta.snd) []) (ML : Meth K C "__len__" fL) (FL : FnOk P w K mg base CX0 1 fL fdL ["self"] (spSLen C)) (bL : L2.Binds K fdL ["self"] [])
    (m_sorted : mg "sorted" = none) (m_max : mg "max" = none) (m_len : mg "len" = none) : FnOk P w K mg base CX0 6 f fd ["_law_script"] (spLaw K) := by
  refine F.ok sc_law_k33 (fun vs H Q E h => ?_) (fun cdv A outer s H vs Q E hr h => ?_)
  · obtain ⟨a, ns, rfl, _⟩ := h
    rfl
  · obtain ⟨a, ns, rfl, hS, q⟩ := h
    refine ⟨_, (pss_cons (ps_set (i := 1) sc_law_k33.nd rfl (Or.inl rfl) (pe_d D__law_begin (hr.mono (by decide)) rfl (pa_cons (pv 0) pa_nil)))
      (pss_cons (ps_set (i := 2) sc_law_k33.nd rfl (Or.inl rfl) (pe_d D__law_keen_track (hr.mono (by decide)) rfl (pa_cons (pv 1) (pa_cons pe_int pa_nil))))
      (pss_cons (ps_set (i := 3) sc_law_k33.nd rfl (Or.inl rfl) (pe_d D_notes (hr.mono (by decide)) rfl (pa_cons (pv 2) pa_nil)))
      (pss_cons (ps_for PassesOwn.never rfl (pi_list (pv 2)) (pg_name (i := 4) sc_law_k33.nd rfl (Or.inl rfl)) (pss_one (ps_for PassesOwn.never rfl (pi_list (pe_lst (pa_cons (pe_ix ix_tup (pv 4) pe_int (fun _ _ => rfl)) (pa_cons (pe_callB (call_max2 rfl) (by rfl) m_max bt_max (pa_cons pe_int (pa_cons (pe_op op_sub (pe_ix ix_tup (pv 4) pe_int (fun _ _ => rfl)) pe_int) pa_nil))) pa_nil)))) (pg_name (i := 5) sc_law_k33.nd rfl (Or.inl rfl)) (pss_cons (ps_set (i := 6) sc_law_k33.nd rfl (Or.inl rfl) (pe_lst pa_nil))
      (pss_cons (ps_for PassesOwn.never rfl (pi_list (pv 3)) (pg_tup rfl (pgs_cons (pg_name (i := 7) sc_law_k33.nd rfl (Or.inl rfl)) (pgs_cons (pg_name (i := 8) sc_law_k33.nd rfl (Or.inl rfl)) pgs_nil))) (pss_one (ps_if (PW.pt (pw_and (pt_cmpR op_le (pe_ix ix_tup (pe_ix ix_list (pv 2) (pv 7) (fun _ _ => rfl)) pe_int (fun _ _ => rfl)) (pv 5) (nomark _)) (pw_and1 (PW.pt (pw_or (pt_cmpR op_isN (pv 8) pe_non (nomark _)) (pw_or1 (pt_cmpR op_gt (pe_ix ix_tup (pe_ix ix_list (pv 2) (pv 8) (fun _ _ => rfl)) pe_int (fun _ _ => rfl)) (pv 5) (nomark _)))))))) (pss_one (ps_expr (pe_bm PySem.F.plainAttrs_list PySem.F.slot_list_append PySem.F.type_list_append mt_append (pv 6) (pa_cons (pe_slice sl_tup (pe_ix ix_list (pv 2) (pv 7) (fun _ _ => rfl)) (po_some pe_int) po_none) pa_nil)))) pss_nil)))
      (pss_cons (ps_set (i := 9) sc_law_k33.nd rfl (Or.inl rfl) (pe_d D_stand_at (hr.mono (by decide)) rfl (pa_cons (pv 2) (pa_cons (pv 5) pa_nil))))
      (pss_one (ps_if (PW.pt (pw_or (pt_cmpR (op_neD hr.units) (pe_callB (cr_sortT (d := 3) (B := 128) (by decide)) (by rfl) m_sorted bt_sorted (pa_cons (C8.pe_mt0 M_Stand_sounds hr (by decide) (pv 9)) pa_nil)) (pe_callB (cr_sortT (d := 3) (B := 128) (by decide)) (by rfl) m_sorted bt_sorted (pa_cons (pv 6) pa_nil)) (nomark _)) (pw_or1 (pt_cmpR op_ne (pe_callB (cr_lenO ML FL (k := 1) (hr.mono (by decide)) bL) (by rfl) m_len PySem.boot_len (pa_cons (pv 9) pa_nil)) (pe_callB call_len_seq (by rfl) m_len PySem.boot_len (pa_cons (pv 6) pa_nil)) (nomark _))))) (pss_one (ps_ret pe_bl)) pss_nil))))))))
      (pss_one (ps_ret pe_bl)))))), ?_⟩
    refine ⟨_, rfl, a, ns, fun _ => none, rfl, hS, (fun b o z => by cases z), fun d H0 H1 gA hD _ => ?_⟩
    have S := Sd.here gA.inn hD
    refine ⟨_, rfl, d, 40, _, rfl, by decide, S.ex, S.dr, fun p ps es G H g hD np hp h0 hev hl hok hrise => ?_⟩
    have hev := hev.up g.inn
    clear S gA hS
    have hpp := hp
    have lp : (ps.map V.ref).length = es.length := by rw [List.length_map, hev.len]
    -- rows = notes(track)
    refine ⟨_, rfl, p, ps, es, H, rfl, Ex.refl _, hpp, hev, by omega, fun rp ts A g2 nrp hrp hpr _ _ => ?_⟩
    have xA : Ex H A := go_ex g2
    have hpp := xA _ _ hpp
    have hev := hev.up xA
    have wl := (walkN_len es es.length).1
    have lts := Paired.length hpr
    clear g2 xA g
    -- for event in track
    refine ⟨_, rfl, p, rfl, ⟨_, SqL.of hpp⟩, for_list (K := K) (a := p) (xs := ps.map V.ref) (fun i σ H' => ∃ (v4 v5 v6 v7 v8 v9 : Option V), σ = [some (.ref a), some (.ref d), some (.ref p), some (.ref rp), v4, v5, v6, v7, v8, v9] ∧ Ex A H')
      ⟨_, _, _, _, _, _, rfl, Ex.refl _⟩ (fun i σ H' _ ⟨_, _, _, _, _, _, _, x⟩ => SqL.of (x _ _ hpp)) ?_ ?_⟩
    · rintro i y σ H1 hx ⟨v4, v5, v6, v7, v8, v9, rfl, x1⟩
      obtain ⟨pe, e, rfl, hpe1, he, hpe⟩ := evs_at (hev.up x1) hx
      have etk := (hok e (List.mem_of_getElem? he)).tk
      -- for tick in [event[0], max(0, event[0] - 1)]
      refine ⟨_, rfl, pe, _, _, _, rfl, rfl, SqT.of hpe, at_of (j := 0) rfl (v_tick e), ?_⟩
      refine ⟨_, rfl, pe, _, _, _, rfl, rfl, SqT.of hpe, at_of (j := 0) rfl (v_tick e), _, _, rfl, rfl, _, _, rfl, (by show 2 ≤ sizeLine; decide), ?_⟩
      dsimp (config := { proj := false }) only
      generalize ht2 : (if e.tick - 1 > 0 then e.tick - 1 else 0) = t2
      have b2 : 0 ≤ t2 ∧ t2 ≤ 999999 := by
        rw [← ht2]
        split <;> omega
      clear ht2
      refine fun l2 n2 => ?_
      have hl2 : upd H1 l2 (.lst [.int e.tick, .int t2]) l2 = some (.lst ([e.tick, t2].map V.int)) := upd_same
      have x2 := x1.trans (Ex.new (o := .lst [.int e.tick, .int t2]) n2)
      revert hl2 x2
      generalize upd H1 l2 (.lst [.int e.tick, .int t2]) = A2
      intro hl2 x2
      refine ⟨l2, rfl, ⟨_, SqL.of hl2⟩, ?_⟩
      refine for_list (K := K) (a := l2) (xs := [e.tick, t2].map V.int) (fun k σ H' => ∃ (v5 v6 v7 v8 v9 : Option V), σ = [some (.ref a), some (.ref d), some (.ref p), some (.ref rp), some (.ref pe), v5, v6, v7, v8, v9] ∧ Ex A2 H')
        ⟨v5, v6, v7, v8, v9, rfl, Ex.refl _⟩ (fun k σ H' _ ⟨_, _, _, _, _, _, x⟩ => SqL.of (x _ _ hl2)) ?_ ?_
      · rintro k y σ B2 hy ⟨v5, v6, v7, v8, v9, rfl, x3⟩
        obtain ⟨tk, htk, rfl⟩ := map_int_inv hy
        have btk : 0 ≤ tk ∧ tk ≤ 999999 := by
          have := List.mem_of_getElem? htk
          simp only [List.mem_cons, List.mem_nil_iff, or_false] at this
          rcases this with rfl | rfl
          · exact etk
          · exact b2
        obtain ⟨m, hm, hup, hmt⟩ := upTo_take hrise tk
        have xB := x2.trans x3
        have hpp := xB _ _ hpp
        have hev := hev.up xB
        have hrp := xB _ _ hrp
        have hpr : Paired (fun (t : Addr) (q : Row) => B2 t = some (.tup [.int (q.1 : Int), endV q.2])) ts (walkN es es.length).rows := Paired.mapP hpr fun _ _ h => xB _ _ h
        -- due = []
        refine ⟨(by show 0 ≤ sizeLine; decide), fun D nD => ?_⟩
        have g := Go.refl (m := fun _ => False) (Ex.refl B2)
        obtain ⟨B3, eB, g, hDD, x4, BD, ZD⟩ := g.ly (.lst []) nD
        rw [eB]
        -- for begun, ended in rows
        refine ⟨_, rfl, rp, rfl, ⟨_, SqL.of (x4 _ _ hrp)⟩, for_list (K := K) (a := rp) (xs := ts.map V.ref) (fun j σ H' => ∃ (v7 v8 : Option V) (dq : List Addr) (G : Hp), σ = [some (.ref a), some (.ref d), some (.ref p), some (.ref rp), some (.ref pe), some (.int tk), some (.ref D), v7, v8, v9] ∧ Go (fun _ => False) B2 B2 G H' ∧ G D = none ∧ H' D = some (.lst (dq.map V.ref)) ∧
            Rws G dq (((((walkN es es.length).rows.take j).filter (activeAt m)).map (·.1)).map (rowE es)))
          ⟨v7, v8, [], B2, rfl, g, ZD, hDD, .nil⟩ (fun j σ H' _ ⟨_, _, _, G, _, g, _⟩ => SqL.of (g.inn _ _ (g.up _ _ hrp))) ?_ ?_⟩
        · rintro j z σ H4 hz ⟨v7, v8, dq, G, rfl, g, zD, hDD, hR⟩
          rw [List.getElem?_map] at hz
          obtain ⟨t, ht, rfl⟩ := Option.map_eq_some_iff.mp hz
          obtain ⟨r, hr', htt⟩ := paired_at hpr ht
          have rm := List.mem_of_getElem? hr'
          obtain ⟨tb, cb, kb, fb, heb⟩ := walkN_key es _ r rm
          have sn := due_snoc (es := es) (m := m) hr'
          have up : ∀ {x : Addr} {o : HO}, B2 x = some o → H4 x = some o := fun h => g.inn _ _ (g.up _ _ h)
          have evAt : ∀ (b : Nat) (e : Evt), es[b]? = some e → ∃ q, ps[b]? = some q ∧ B2 q = some (.tup e.v) := fun b e h => by
            have li := (List.getElem?_eq_some_iff.mp h).1
            obtain ⟨q, e', _, h1, h2, h3⟩ := evs_at hev (i := b) (x := V.ref (ps[b]'(by rw [hev.len]; exact li))) (by rw [List.getElem?_map, List.getElem?_eq_getElem (by rw [hev.len]; exact li)]; rfl)
            rw [h] at h2
            cases h2
            exact ⟨q, h1, h3⟩
          obtain ⟨qb, hqb, hqb2⟩ := evAt _ _ heb
          have tkb := hmt _ _ heb
          have hld : dq.length ≤ 1000 := by
            rw [hR.len, List.length_map, List.length_map]
            refine Nat.le_trans (List.length_filter_le _ _) ?_
            rw [List.length_take]
            omega
          refine ⟨t, _, rfl, SqT.of (up htt), rfl, _, _, rfl, _, _, rfl, rfl, ?_⟩
          refine ⟨_, rfl, _, rfl, p, _, _, _, rfl, rfl, SqL.of (up hpp), at_of (j := r.1) rfl (map_ref hqb), qb, _, _, _, rfl, rfl, SqT.of (up hqb2), at_of (j := 0) rfl (v_tick _), _, rfl, _, _, rfl, rfl, _, rfl, ?_⟩
          have stay : activeAt m r = false → ∃ (v7 v8 : Option V) (dq : List Addr) (G : Hp), [some (.ref a), some (.ref d), some (.ref p), some (.ref rp), some (.ref pe), some (.int tk), some (.ref D), some (.int (r.1 : Int)), some (endV r.2), v9] = [some (.ref a), some (.ref d), some (.ref p), some (.ref rp), some (.ref pe), some (.int tk), some (.ref D), v7, v8, v9] ∧ Go (fun _ => False) B2 B2 G H4 ∧ G D = none ∧ H4 D = some (.lst (dq.map V.ref)) ∧
              Rws G dq (((((walkN es es.length).rows.take (j + 1)).filter (activeAt m)).map (·.1)).map (rowE es)) := fun c => by
            rw [if_neg (by rw [c]; exact Bool.false_ne_true)] at sn
            exact ⟨_, _, dq, G, rfl, g, zD, hDD, by rw [sn]; exact hR⟩
          have grow : activeAt m r = true → ∀ t1, H4 t1 = none → ∃ (l : Addr) (xs : List V) (y : V), V.ref D = .ref l ∧ [V.ref t1] = [y] ∧ upd H4 t1 (.tup (cutV (Evt.key true tb cb kb fb).v (some 2) none)) l = some (.lst xs) ∧ xs.length < sizeLine ∧
              ∃ (v7 v8 : Option V) (dq : List Addr) (G : Hp), [some (.ref a), some (.ref d), some (.ref p), some (.ref rp), some (.ref pe), some (.int tk), some (.ref D), some (.int (r.1 : Int)), some (endV r.2), v9] = [some (.ref a), some (.ref d), some (.ref p), some (.ref rp), some (.ref pe), some (.int tk), some (.ref D), v7, v8, v9] ∧ Go (fun _ => False) B2 B2 G (upd (upd H4 t1 (.tup (cutV (Evt.key true tb cb kb fb).v (some 2) none))) l (.lst (xs ++ [y]))) ∧ G D = none ∧ upd (upd H4 t1 (.tup (cutV (Evt.key true tb cb kb fb).v (some 2) none))) l (.lst (xs ++ [y])) D = some (.lst (dq.map V.ref)) ∧
              Rws G dq (((((walkN es es.length).rows.take (j + 1)).filter (activeAt m)).map (·.1)).map (rowE es)) := fun c t1 n1 => by
            rw [if_pos c] at sn
            have nDt := ne_of_none hDD n1
            have xG := Ex.new (o := .tup (cutV (Evt.key true tb cb kb fb).v (some 2) none)) (g.inn.free n1)
            have g := g.put (.tup (cutV (Evt.key true tb cb kb fb).v (some 2) none)) n1
            have hDD := (upd_ne (o := .tup (cutV (Evt.key true tb cb kb fb).v (some 2) none)) nDt).trans hDD
            have zD := (upd_ne (H := G) (o := .tup (cutV (Evt.key true tb cb kb fb).v (some 2) none)) nDt).trans zD
            refine ⟨D, _, _, rfl, rfl, hDD, mem_lt (by rw [List.length_map]; omega), _, _, dq ++ [t1], _, rfl, g.turn _ BD zD, zD, ?_, ?_⟩
            · rw [upd_same, List.map_append]
              rfl
            · rw [sn, rowE_at heb]
              exact pairedApp (hR.up xG) (.cons upd_same .nil)
          by_cases c1 : (Evt.key true tb cb kb fb).tick ≤ tk
          · have hb := tkb.mp c1
            refine ifT (decide_eq_true c1) ?_
            cases hr2 : r.2 with
            | none =>
              have act : activeAt m r = true := by
                unfold activeAt
                rw [hr2, decide_eq_true hb]
                rfl
              refine ⟨_, rfl, rfl, _, rfl, ifT (decide_eq_true rfl) ?_⟩
              refine ifT rfl ?_
              refine ⟨_, rfl, .inl ⟨rfl, _, SqL.of hDD⟩, _, rfl, _, rfl, p, _, _, _, rfl, rfl, SqL.of (up hpp), at_of (j := r.1) rfl (map_ref hqb), _, rfl, qb, _, rfl, SqT.of (up hqb2), fun z => absurd z.1 (by decide : ¬ ((2 : Nat) = 0)), fun t1 n1 => ?_⟩
              rw [hr2] at grow
              exact grow act t1 n1
            | some e2 =>
              refine ⟨_, rfl, rfl, _, rfl, ifF (decide_eq_false fun z => nomatch z) ?_⟩
              have el := ends_lt es es.length r rm e2 hr2
              have he2 : es[e2]? = some es[e2] := List.getElem?_eq_getElem el
              obtain ⟨q2, hq2, hq22⟩ := evAt _ _ he2
              have tk2 := hmt _ _ he2
              refine ⟨_, rfl, _, rfl, p, _, _, _, rfl, rfl, SqL.of (up hpp), at_of (j := e2) rfl (map_ref hq2), q2, _, _, _, rfl, rfl, SqT.of (up hq22), at_of (j := 0) rfl (v_tick _), _, rfl, _, _, rfl, rfl, _, rfl, ?_⟩
              by_cases c2 : tk < es[e2].tick
              · have act : activeAt m r = true := by
                  unfold activeAt
                  rw [hr2, decide_eq_true hb]
                  exact decide_eq_true (by
                    rcases Nat.lt_or_ge e2 m with z | z
                    · have := tk2.mpr z
                      omega
                    · exact z)
                refine ifT (decide_eq_true c2) ?_
                refine ⟨_, rfl, .inl ⟨rfl, _, SqL.of hDD⟩, _, rfl, _, rfl, p, _, _, _, rfl, rfl, SqL.of (up hpp), at_of (j := r.1) rfl (map_ref hqb), _, rfl, qb, _, rfl, SqT.of (up hqb2), fun z => absurd z.1 (by decide : ¬ ((2 : Nat) = 0)), fun t1 n1 => ?_⟩
                rw [hr2] at grow
                exact grow act t1 n1
              · have act : activeAt m r = false := by
                  unfold activeAt
                  rw [hr2, decide_eq_true hb]
                  exact decide_eq_false (by
                    have := tk2.mp (by omega)
                    omega)
                refine ifF (decide_eq_false c2) ?_
                rw [hr2] at stay
                exact stay act
          · refine ifF (decide_eq_false c1) ?_
            refine ifF rfl ?_
            exact stay (by
              unfold activeAt
              rw [decide_eq_false (fun z => c1 (tkb.mpr z)), Bool.false_and])
        · rintro σ H4 ⟨v7, v8, dq, G, rfl, g, zD, hDD, hR⟩
          rw [List.length_map, lts, List.take_length] at hR
          -- what is due, settled with all
          have hdue : Rws H4 dq (dueN es m) := hR.up g.inn
          have x5 : Ex B2 H4 := fun x o h => g.inn _ _ (g.up _ _ h)
          have ldq : dq.length ≤ 40 := by
            rw [hdue.len]
            unfold dueN
            rw [List.length_map, List.length_map]
            exact Nat.le_trans (List.length_filter_le _ _) (Nat.le_trans wl (by omega))
          have dB := dueN_b hok m
          have pm : (staAt es tk).snd.Perm (dueN es m) := by
            unfold staAt
            rw [hup]
            exact due_perm hm
          have ls := pm.length_eq
          clear g hR zD
          -- found
          refine ⟨_, rfl, _, rfl, p, tk, ps, es, H4, rfl, Ex.refl _, x5 _ _ hpp, hev.up x5, by omega, hok, btk.1, btk.2, fun a5 G H5 g5 na5 hst => ?_⟩
          obtain ⟨dxa, l1, l2', l3, q1, q2, q3, hins, hl1, hl2', hl3, r1, r2, r3⟩ := id hst
          have y5 : Ex H4 G := g5.up
          have nol : ∀ {f : Str}, ¬ f = fS → ¬ f = fK → ¬ f = fV → (flds (.ref l1) (.ref l2') (.ref l3)).lookup f = none := fun h1 h2 h3 => look_no _ _ _ h1 h2 h3
          -- sorted(found.sounds())
          refine ⟨_, rfl, a5, dxa, _, rfl, g5.inn _ _ hins, nol (by decide +kernel) (by decide +kernel) (by decide +kernel), a5, _, G, rfl, g5.inn, hst, fun p5 qs5 H6 g6 np5 hp5 R5 => ?_⟩
          have sB : RowsB 3 (staAt es tk).snd := fun r hr => dB r (pm.mem_iff.mp hr)
          have g7 := g5.then g6
          refine ⟨p5, _, rfl, SqL.of hp5, by rw [List.length_map, R5.len]; show (staAt es tk).snd.length < 64; have := hdue.len; omega, fun x hx => ?_, fun ys p6 hperm hsort n6 => ?_⟩
          · obtain ⟨q', ns', rfl, hq, hm'⟩ := rws_mem R5 x hx
            exact ⟨ns', ⟨q', rfl, SqT.of (g6.inn _ _ hq)⟩, (sB ns' hm').1, (sB ns' hm').2⟩
          obtain ⟨k6, rfl, R6⟩ := sorted_rows R5 sB g6.inn hperm hsort
          obtain ⟨G7, H7, e7, g7, hp6, x7⟩ := g7.nw (.lst (k6.map V.ref)) n6
          rw [e7]
          have R6 := R6.up x7
          -- sorted(due)
          have hD7 : H7 D = some (.lst (dq.map V.ref)) := g7.keep _ _ hDD fun z => z
          have hdue7 : Rws G7 dq (dueN es m) := hdue.up g7.up
          refine ⟨_, rfl, D, _, rfl, SqL.of hD7, by rw [List.length_map]; omega, fun x hx => ?_, fun ys p8 hperm hsort n8 => ?_⟩
          · obtain ⟨q', ns', rfl, hq, hm'⟩ := rws_mem hdue7 x hx
            exact ⟨ns', ⟨q', rfl, SqT.of (g7.inn _ _ hq)⟩, (dB ns' hm').1, (dB ns' hm').2⟩
          obtain ⟨k8, rfl, R8⟩ := sorted_rows hdue7 dB g7.inn hperm hsort
          obtain ⟨G8, H8, e8, g8, hp8, x8⟩ := g7.nw (.lst (k8.map V.ref)) n8
          rw [e8]
          have R8 := R8.up x8
          have R6 := R6.up x8
          have hp6 := x8 _ _ hp6
          have es8 : srt (staAt es tk).snd = srt (dueN es m) := srt_perm dB pm
          refine ⟨rowsDD (srt (staAt es tk).snd), rowsDD (srt (dueN es m)), dp_rowsDD (g8.inn _ _ hp6) (R6.up g8.inn), dp_rowsDD (g8.inn _ _ hp8) (R8.up g8.inn), rowsDD_shaped _, rowsDD_shaped _, ?_⟩
          rw [es8, rowsDD_eq]
          refine ⟨_, rfl, ifF rfl ?_⟩
          -- len(found) != len(due)
          have y8 : Ex G G8 := fun x o h => x8 _ _ (x7 _ _ (g6.up _ _ h))
          have hD8 : H8 D = some (.lst (dq.map V.ref)) := g8.keep _ _ hDD fun z => z
          have lens : (staAt es tk).snd.length = (dq.map V.ref).length := by rw [List.length_map, hdue.len, ls]
          have h63 : (((staAt es tk).snd.length : Nat) : Int) < 2 ^ 63 := by
            have h1 := hdue.len
            have h2 : (2 : Int) ^ 63 = 9223372036854775808 := by decide
            omega
          refine ⟨_, rfl, a5, dxa, _, rfl, g8.inn _ _ (y8 _ _ hins), a5, _, G8, rfl, g8.inn, hst.up y8, _, rfl, by omega, h63, _, rfl, D, _, rfl, .inl (SqL.of hD8), rfl, _, rfl, ifF ?_ ?_⟩
          · rw [lens, decide_eq_true rfl]
            rfl
          · exact ⟨_, _, _, _, _, rfl, fun x o h => g8.inn _ _ (g8.up _ _ (x5 _ _ (x3 _ _ h)))⟩
      · rintro σ H4 ⟨v5, v6, v7, v8, v9, rfl, x3⟩
        exact ⟨_, _, _, _, _, _, rfl, x2.trans x3⟩
    · rintro σ H1 ⟨v4, v5, v6, v7, v8, v9, rfl, x1⟩
      exact q _
end
end Rt

namespace Rt
open PySem PySem.Spec PyProof.Rows L2
section
variable {P : Program} {w : World} {K : PySem.W.Frag} {mg : Str → Option Value} {base : Heap}
end
theorem all_mk {l : PySem.W.OpenLaw} {w : World} {K : PySem.W.Frag} {h : Heap} {mg : Str → Option Value} {fa : Addr} (X : K.In h) (G : h.Ns mainGlobals mg) (hfa : mg "law" = some (.ref fa))
    {C_Stand : Addr} (aC_Stand : PySem.W.nsIn K mainGlobals "Stand" = some (some (.ref C_Stand))) (pg_Stand : PySem.W.plainGet K C_Stand Str.empty = true) (hd_Stand : PySem.W.hasDictIn K C_Stand = true) (po_Stand : PySem.W.plainOver K C_Stand = true)
    (sa_Stand : PySem.W.findIn K (.ref C_Stand) "__setattr__" = some (some (.builtin "object.__setattr__"))) (mk_Stand : PySem.W.makesIn K C_Stand = true) (kc_Stand : PySem.W.keepIn K (.ref C_Stand) = true)
    (nA_Stand_sounds : PySem.W.findIn K (.ref C_Stand) "_sounds" = some none)
    (nA_Stand_knobs : PySem.W.findIn K (.ref C_Stand) "_knobs" = some none)
    (nA_Stand_voices : PySem.W.findIn K (.ref C_Stand) "_voices" = some none)
    {f1 : Addr} {od1 an1 : Option Addr} {sl1 : Array (Option Value)} {oc1 kV1 dc1 pm1 cd1 ct1 : Value}
    (a1 : PySem.W.nsIn K mainGlobals "_law_begin" = some (some (.ref f1)))
    (l1 : K.lookup f1 = some ⟨oc1, od1, .func (PySem.W.fnOf "_law_begin" "_law_begin" (defArgs s_begin) (defBody s_begin) (defScope s_begin) .none kV1 dc1 pm1 an1 cd1 ct1), sl1⟩)
    (c1 : PySem.W.codeIn K cd1 "_law_begin" = true) (k1 : PySem.W.keepIn K (.ref f1) = true)
    {f2 : Addr} {od2 an2 : Option Addr} {sl2 : Array (Option Value)} {oc2 kV2 dc2 pm2 cd2 ct2 : Value}
    (a2 : PySem.W.nsIn K mainGlobals "_law_pick" = some (some (.ref f2)))
    (l2 : K.lookup f2 = some ⟨oc2, od2, .func (PySem.W.fnOf "_law_pick" "_law_pick" (defArgs s_pick) (defBody s_pick) (defScope s_pick) .none kV2 dc2 pm2 an2 cd2 ct2), sl2⟩)
    (c2 : PySem.W.codeIn K cd2 "_law_pick" = true) (k2 : PySem.W.keepIn K (.ref f2) = true)
    {f3 : Addr} {od3 an3 : Option Addr} {sl3 : Array (Option Value)} {oc3 kV3 dc3 pm3 cd3 ct3 : Value}
    (a3 : PySem.W.nsIn K mainGlobals "_law_one" = some (some (.ref f3)))
    (l3 : K.lookup f3 = some ⟨oc3, od3, .func (PySem.W.fnOf "_law_one" "_law_one" (defArgs s_one) (defBody s_one) (defScope s_one) .none kV3 dc3 pm3 an3 cd3 ct3), sl3⟩)
    (c3 : PySem.W.codeIn K cd3 "_law_one" = true) (k3 : PySem.W.keepIn K (.ref f3) = true)
    {f4 : Addr} {od4 an4 : Option Addr} {sl4 : Array (Option Value)} {oc4 kV4 dc4 pm4 cd4 ct4 : Value}
    (a4 : PySem.W.nsIn K mainGlobals "_law_channel" = some (some (.ref f4)))
    (l4 : K.lookup f4 = some ⟨oc4, od4, .func (PySem.W.fnOf "_law_channel" "_law_channel" (defArgs s_channel) (defBody s_channel) (defScope s_channel) .none kV4 dc4 pm4 an4 cd4 ct4), sl4⟩)
    (c4 : PySem.W.codeIn K cd4 "_law_channel" = true) (k4 : PySem.W.keepIn K (.ref f4) = true)
    {f5 : Addr} {od5 an5 : Option Addr} {sl5 : Array (Option Value)} {oc5 kV5 dc5 pm5 cd5 ct5 : Value}
    (a5 : PySem.W.nsIn K mainGlobals "_law_key" = some (some (.ref f5)))
    (l5 : K.lookup f5 = some ⟨oc5, od5, .func (PySem.W.fnOf "_law_key" "_law_key" (defArgs s_key) (defBody s_key) (defScope s_key) .none kV5 dc5 pm5 an5 cd5 ct5), sl5⟩)
    (c5 : PySem.W.codeIn K cd5 "_law_key" = true) (k5 : PySem.W.keepIn K (.ref f5) = true)
    {f6 : Addr} {od6 an6 : Option Addr} {sl6 : Array (Option Value)} {oc6 kV6 dc6 pm6 cd6 ct6 : Value}
    (a6 : PySem.W.nsIn K mainGlobals "_law_word" = some (some (.ref f6)))
    (l6 : K.lookup f6 = some ⟨oc6, od6, .func (PySem.W.fnOf "_law_word" "_law_word" (defArgs s_word) (defBody s_word) (defScope s_word) .none kV6 dc6 pm6 an6 cd6 ct6), sl6⟩)
    (c6 : PySem.W.codeIn K cd6 "_law_word" = true) (k6 : PySem.W.keepIn K (.ref f6) = true)
    {f7 : Addr} {od7 an7 : Option Addr} {sl7 : Array (Option Value)} {oc7 kV7 dc7 pm7 cd7 ct7 : Value}
    (a7 : PySem.W.nsIn K mainGlobals "_law_thing" = some (some (.ref f7)))
    (l7 : K.lookup f7 = some ⟨oc7, od7, .func (PySem.W.fnOf "_law_thing" "_law_thing" (defArgs s_thing) (defBody s_thing) (defScope s_thing) .none kV7 dc7 pm7 an7 cd7 ct7), sl7⟩)
    (c7 : PySem.W.codeIn K cd7 "_law_thing" = true) (k7 : PySem.W.keepIn K (.ref f7) = true)
    {f8 : Addr} {od8 an8 : Option Addr} {sl8 : Array (Option Value)} {oc8 kV8 dc8 pm8 cd8 ct8 : Value}
    (a8 : PySem.W.nsIn K mainGlobals "_law_keen_track" = some (some (.ref f8)))
    (l8 : K.lookup f8 = some ⟨oc8, od8, .func (PySem.W.fnOf "_law_keen_track" "_law_keen_track" (defArgs s_keen_track) (defBody s_keen_track) (defScope s_keen_track) .none kV8 dc8 pm8 an8 cd8 ct8), sl8⟩)
    (c8 : PySem.W.codeIn K cd8 "_law_keen_track" = true) (k8 : PySem.W.keepIn K (.ref f8) = true)
    {f9 : Addr} {od9 an9 : Option Addr} {sl9 : Array (Option Value)} {oc9 kV9 dc9 pm9 cd9 ct9 : Value}
    (a9 : PySem.W.nsIn K mainGlobals "walked_through" = some (some (.ref f9)))
    (l9 : K.lookup f9 = some ⟨oc9, od9, .func (PySem.W.fnOf "walked_through" "walked_through" (defArgs s_walked) (defBody s_walked) (defScope s_walked) .none kV9 dc9 pm9 an9 cd9 ct9), sl9⟩)
    (c9 : PySem.W.codeIn K cd9 "walked_through" = true) (k9 : PySem.W.keepIn K (.ref f9) = true)
    {f10 : Addr} {od10 an10 : Option Addr} {sl10 : Array (Option Value)} {oc10 kV10 dc10 pm10 cd10 ct10 : Value}
    (a10 : PySem.W.nsIn K mainGlobals "notes" = some (some (.ref f10)))
    (l10 : K.lookup f10 = some ⟨oc10, od10, .func (PySem.W.fnOf "notes" "notes" (defArgs s_notes) (defBody s_notes) (defScope s_notes) .none kV10 dc10 pm10 an10 cd10 ct10), sl10⟩)
    (c10 : PySem.W.codeIn K cd10 "notes" = true) (k10 : PySem.W.keepIn K (.ref f10) = true)
    {f11 : Addr} {od11 an11 : Option Addr} {sl11 : Array (Option Value)} {oc11 kV11 dc11 pm11 cd11 ct11 : Value}
    (a11 : PySem.W.findIn K (.ref C_Stand) "__init__" = some (some (.ref f11))) (i11 : PySem.W.isFn K (.ref f11) = true)
    (l11 : K.lookup f11 = some ⟨oc11, od11, .func (PySem.W.fnOf "__init__" "Stand.__init__" (defArgs s_sta_init) (defBody s_sta_init) (defScope s_sta_init) .none kV11 dc11 pm11 an11 cd11 ct11), sl11⟩)
    (c11 : PySem.W.codeIn K cd11 "Stand.__init__" = true) (k11 : PySem.W.keepIn K (.ref f11) = true)
    {f12 : Addr} {od12 an12 : Option Addr} {sl12 : Array (Option Value)} {oc12 kV12 dc12 pm12 cd12 ct12 : Value}
    (a12 : PySem.W.nsIn K mainGlobals "sounds_after" = some (some (.ref f12)))
    (l12 : K.lookup f12 = some ⟨oc12, od12, .func (PySem.W.fnOf "sounds_after" "sounds_after" (defArgs s_sounds_after) (defBody s_sounds_after) (defScope s_sounds_after) .none kV12 dc12 pm12 an12 cd12 ct12), sl12⟩)
    (c12 : PySem.W.codeIn K cd12 "sounds_after" = true) (k12 : PySem.W.keepIn K (.ref f12) = true)
    {f13 : Addr} {od13 an13 : Option Addr} {sl13 : Array (Option Value)} {oc13 kV13 dc13 pm13 cd13 ct13 : Value}
    (a13 : PySem.W.nsIn K mainGlobals "set_after" = some (some (.ref f13)))
    (l13 : K.lookup f13 = some ⟨oc13, od13, .func (PySem.W.fnOf "set_after" "set_after" (defArgs s_set_after) (defBody s_set_after) (defScope s_set_after) .none kV13 dc13 pm13 an13 cd13 ct13), sl13⟩)
    (c13 : PySem.W.codeIn K cd13 "set_after" = true) (k13 : PySem.W.keepIn K (.ref f13) = true)
    {f14 : Addr} {od14 an14 : Option Addr} {sl14 : Array (Option Value)} {oc14 kV14 dc14 pm14 cd14 ct14 : Value}
    (a14 : PySem.W.findIn K (.ref C_Stand) "after" = some (some (.ref f14))) (i14 : PySem.W.isFn K (.ref f14) = true)
    (l14 : K.lookup f14 = some ⟨oc14, od14, .func (PySem.W.fnOf "after" "Stand.after" (defArgs s_sta_after) (defBody s_sta_after) (defScope s_sta_after) .none kV14 dc14 pm14 an14 cd14 ct14), sl14⟩)
    (c14 : PySem.W.codeIn K cd14 "Stand.after" = true) (k14 : PySem.W.keepIn K (.ref f14) = true)
    {f15 : Addr} {od15 an15 : Option Addr} {sl15 : Array (Option Value)} {oc15 kV15 dc15 pm15 cd15 ct15 : Value}
    (a15 : PySem.W.findIn K (.ref C_Stand) "sounds" = some (some (.ref f15))) (i15 : PySem.W.isFn K (.ref f15) = true)
    (l15 : K.lookup f15 = some ⟨oc15, od15, .func (PySem.W.fnOf "sounds" "Stand.sounds" (defArgs s_sta_sounds) (defBody s_sta_sounds) (defScope s_sta_sounds) .none kV15 dc15 pm15 an15 cd15 ct15), sl15⟩)
    (c15 : PySem.W.codeIn K cd15 "Stand.sounds" = true) (k15 : PySem.W.keepIn K (.ref f15) = true)
    {f16 : Addr} {od16 an16 : Option Addr} {sl16 : Array (Option Value)} {oc16 kV16 dc16 pm16 cd16 ct16 : Value}
    (a16 : PySem.W.findIn K (.ref C_Stand) "__len__" = some (some (.ref f16))) (i16 : PySem.W.isFn K (.ref f16) = true)
    (l16 : K.lookup f16 = some ⟨oc16, od16, .func (PySem.W.fnOf "__len__" "Stand.__len__" (defArgs s_sta_len) (defBody s_sta_len) (defScope s_sta_len) .none kV16 dc16 pm16 an16 cd16 ct16), sl16⟩)
    (c16 : PySem.W.codeIn K cd16 "Stand.__len__" = true) (k16 : PySem.W.keepIn K (.ref f16) = true)
    {f17 : Addr} {od17 an17 : Option Addr} {sl17 : Array (Option Value)} {oc17 kV17 dc17 pm17 cd17 ct17 : Value}
    (a17 : PySem.W.nsIn K mainGlobals "is_within" = some (some (.ref f17)))
    (l17 : K.lookup f17 = some ⟨oc17, od17, .func (PySem.W.fnOf "is_within" "is_within" (defArgs s_is_within) (defBody s_is_within) (defScope s_is_within) .none kV17 dc17 pm17 an17 cd17 ct17), sl17⟩)
    (c17 : PySem.W.codeIn K cd17 "is_within" = true) (k17 : PySem.W.keepIn K (.ref f17) = true)
    {f18 : Addr} {od18 an18 : Option Addr} {sl18 : Array (Option Value)} {oc18 kV18 dc18 pm18 cd18 ct18 : Value}
    (a18 : PySem.W.nsIn K mainGlobals "need_tick" = some (some (.ref f18)))
    (l18 : K.lookup f18 = some ⟨oc18, od18, .func (PySem.W.fnOf "need_tick" "need_tick" (defArgs s_need_tick0) (defBody s_need_tick0) (defScope s_need_tick0) .none kV18 dc18 pm18 an18 cd18 ct18), sl18⟩)
    (c18 : PySem.W.codeIn K cd18 "need_tick" = true) (k18 : PySem.W.keepIn K (.ref f18) = true)
    {f19 : Addr} {od19 an19 : Option Addr} {sl19 : Array (Option Value)} {oc19 kV19 dc19 pm19 cd19 ct19 : Value}
    (a19 : PySem.W.nsIn K mainGlobals "stand_behind" = some (some (.ref f19)))
    (l19 : K.lookup f19 = some ⟨oc19, od19, .func (PySem.W.fnOf "stand_behind" "stand_behind" (defArgs s_stand_behind) (defBody s_stand_behind) (defScope s_stand_behind) .none kV19 dc19 pm19 an19 cd19 ct19), sl19⟩)
    (c19 : PySem.W.codeIn K cd19 "stand_behind" = true) (k19 : PySem.W.keepIn K (.ref f19) = true)
    {f20 : Addr} {od20 an20 : Option Addr} {sl20 : Array (Option Value)} {oc20 kV20 dc20 pm20 cd20 ct20 : Value}
    (a20 : PySem.W.nsIn K mainGlobals "stand_at" = some (some (.ref f20)))
    (l20 : K.lookup f20 = some ⟨oc20, od20, .func (PySem.W.fnOf "stand_at" "stand_at" (defArgs s_stand_at) (defBody s_stand_at) (defScope s_stand_at) .none kV20 dc20 pm20 an20 cd20 ct20), sl20⟩)
    (c20 : PySem.W.codeIn K cd20 "stand_at" = true) (k20 : PySem.W.keepIn K (.ref f20) = true)
    {f21 : Addr} {od21 an21 : Option Addr} {sl21 : Array (Option Value)} {oc21 kV21 dc21 pm21 cd21 ct21 : Value}
    (a21 : PySem.W.nsIn K mainGlobals "law" = some (some (.ref f21)))
    (l21 : K.lookup f21 = some ⟨oc21, od21, .func (PySem.W.fnOf "law" "law" (defArgs s_law_k33) (defBody s_law_k33) (defScope s_law_k33) .none kV21 dc21 pm21 an21 cd21 ct21), sl21⟩)
    (c21 : PySem.W.codeIn K cd21 "law" = true) (k21 : PySem.W.keepIn K (.ref f21) = true)
    (z_list : PySem.W.nsIn K mainGlobals "list" = some none)
    (z_len : PySem.W.nsIn K mainGlobals "len" = some none)
    (z_range : PySem.W.nsIn K mainGlobals "range" = some none)
    (z_isinstance : PySem.W.nsIn K mainGlobals "isinstance" = some none)
    (z_bool : PySem.W.nsIn K mainGlobals "bool" = some none)
    (z_int : PySem.W.nsIn K mainGlobals "int" = some none)
    (z_min : PySem.W.nsIn K mainGlobals "min" = some none)
    (z_max : PySem.W.nsIn K mainGlobals "max" = some none)
    (z_enumerate : PySem.W.nsIn K mainGlobals "enumerate" = some none)
    (z_sorted : PySem.W.nsIn K mainGlobals "sorted" = some none)
    {q1 : Tok}
    (g_MOST_TICK : PySem.W.nsIn K mainGlobals "MOST_TICK" = some (some (.int 999999 q1)))
    : LamX.LawAtS l w K CX0 6 63 "_law_script" mg fa h := by
  have e := hfa.symm.trans (PySem.W.mg_of X G a21)
  cases e
  have m_list := PySem.W.mg_none_of X G z_list
  have m_len := PySem.W.mg_none_of X G z_len
  have m_range := PySem.W.mg_none_of X G z_range
  have m_isinstance := PySem.W.mg_none_of X G z_isinstance
  have m_bool := PySem.W.mg_none_of X G z_bool
  have m_int := PySem.W.mg_none_of X G z_int
  have m_min := PySem.W.mg_none_of X G z_min
  have m_max := PySem.W.mg_none_of X G z_max
  have m_enumerate := PySem.W.mg_none_of X G z_enumerate
  have m_sorted := PySem.W.mg_none_of X G z_sorted
  have c_MOST_TICK : ∃ u, mg "MOST_TICK" = some u ∧ L2.RelV (.int 999999) u := ⟨_, PySem.W.mg_of X G g_MOST_TICK, ⟨_, rfl⟩⟩
  have F1 := fun_mk (st := s_begin) l1 c1 k1
  have g1 := PySem.W.mg_of X G a1
  have b1 := F1.binds (ps := ["_law_script"]) fun _ _ _ _ _ _ us hl => match us, hl with | [_], _ => rfl
  have F2 := fun_mk (st := s_pick) l2 c2 k2
  have g2 := PySem.W.mg_of X G a2
  have b2 := F2.binds (ps := ["_law_draw", "_law_many"]) fun _ _ _ _ _ _ us hl => match us, hl with | [_, _], _ => rfl
  have F3 := fun_mk (st := s_one) l3 c3 k3
  have g3 := PySem.W.mg_of X G a3
  have b3 := F3.binds (ps := ["_law_draw", "_law_some"]) fun _ _ _ _ _ _ us hl => match us, hl with | [_, _], _ => rfl
  have F4 := fun_mk (st := s_channel) l4 c4 k4
  have g4 := PySem.W.mg_of X G a4
  have b4 := F4.binds (ps := ["_law_draw"]) fun _ _ _ _ _ _ us hl => match us, hl with | [_], _ => rfl
  have F5 := fun_mk (st := s_key) l5 c5 k5
  have g5 := PySem.W.mg_of X G a5
  have b5 := F5.binds (ps := ["_law_draw"]) fun _ _ _ _ _ _ us hl => match us, hl with | [_], _ => rfl
  have F6 := fun_mk (st := s_word) l6 c6 k6
  have g6 := PySem.W.mg_of X G a6
  have b6 := F6.binds (ps := ["_law_draw", "_law_most"]) fun _ _ _ _ _ _ us hl => match us, hl with | [_, _], _ => rfl
  have F7 := fun_mk (st := s_thing) l7 c7 k7
  have g7 := PySem.W.mg_of X G a7
  have b7 := F7.binds (ps := ["_law_draw"]) fun _ _ _ _ _ _ us hl => match us, hl with | [_], _ => rfl
  have F8 := fun_mk (st := s_keen_track) l8 c8 k8
  have g8 := PySem.W.mg_of X G a8
  have b8 := F8.binds (ps := ["_law_draw", "_law_most"]) fun _ _ _ _ _ _ us hl => match us, hl with | [_, _], _ => rfl
  have F9 := fun_mk (st := s_walked) l9 c9 k9
  have g9 := PySem.W.mg_of X G a9
  have b9 := F9.binds (ps := ["track"]) fun _ _ _ _ _ _ us hl => match us, hl with | [_], _ => rfl
  have F10 := fun_mk (st := s_notes) l10 c10 k10
  have g10 := PySem.W.mg_of X G a10
  have b10 := F10.binds (ps := ["track"]) fun _ _ _ _ _ _ us hl => match us, hl with | [_], _ => rfl
  have F11 := fun_mk (st := s_sta_init) l11 c11 k11
  have b11 := F11.binds (ps := ["self"]) fun _ _ _ _ _ _ us hl => match us, hl with | [_], _ => rfl
  have F12 := fun_mk (st := s_sounds_after) l12 c12 k12
  have g12 := PySem.W.mg_of X G a12
  have b12 := F12.binds (ps := ["sounds", "thing"]) fun _ _ _ _ _ _ us hl => match us, hl with | [_, _], _ => rfl
  have F13 := fun_mk (st := s_set_after) l13 c13 k13
  have g13 := PySem.W.mg_of X G a13
  have b13 := F13.binds (ps := ["rows", "thing"]) fun _ _ _ _ _ _ us hl => match us, hl with | [_, _], _ => rfl
  have F14 := fun_mk (st := s_sta_after) l14 c14 k14
  have b14 := F14.binds (ps := ["self", "thing"]) fun _ _ _ _ _ _ us hl => match us, hl with | [_, _], _ => rfl
  have F15 := fun_mk (st := s_sta_sounds) l15 c15 k15
  have b15 := F15.binds (ps := ["self"]) fun _ _ _ _ _ _ us hl => match us, hl with | [_], _ => rfl
  have F16 := fun_mk (st := s_sta_len) l16 c16 k16
  have b16 := F16.binds (ps := ["self"]) fun _ _ _ _ _ _ us hl => match us, hl with | [_], _ => rfl
  have F17 := fun_mk (st := s_is_within) l17 c17 k17
  have g17 := PySem.W.mg_of X G a17
  have b17 := F17.binds (ps := ["thing", "low", "high"]) fun _ _ _ _ _ _ us hl => match us, hl with | [_, _, _], _ => rfl
  have F18 := fun_mk (st := s_need_tick0) l18 c18 k18
  have g18 := PySem.W.mg_of X G a18
  have b18 := F18.binds (ps := ["tick"]) fun _ _ _ _ _ _ us hl => match us, hl with | [_], _ => rfl
  have F19 := fun_mk (st := s_stand_behind) l19 c19 k19
  have g19 := PySem.W.mg_of X G a19
  have b19 := F19.binds (ps := ["stand", "events"]) fun _ _ _ _ _ _ us hl => match us, hl with | [_, _], _ => rfl
  have F20 := fun_mk (st := s_stand_at) l20 c20 k20
  have g20 := PySem.W.mg_of X G a20
  have b20 := F20.binds (ps := ["track", "tick"]) fun _ _ _ _ _ _ us hl => match us, hl with | [_, _], _ => rfl
  have F21 := fun_mk (st := s_law_k33) l21 c21 k21
  have g21 := PySem.W.mg_of X G a21
  refine ⟨PySem.W.fnOf "law" "law" (defArgs s_law_k33) (defBody s_law_k33) (defScope s_law_k33) .none kV21 dc21 pm21 an21 cd21 ct21, [], spLaw K, (fun _ h => nomatch h), (fun _ h => nomatch h), (fun _ h => nomatch h), fun s v => .of_eq rfl, fun H a ns hl hbits hT hS => ?hsp, fun base Kb Gb TB => ?_⟩
  case hsp =>
    exact ⟨a, ns, rfl, hS, fun _ => rfl⟩
  have cl_Stand : Cls K C_Stand := ⟨pg_Stand, hd_Stand, po_Stand, sa_Stand⟩
  have mgC_Stand := PySem.W.mg_of X G aC_Stand
  have TS : StandT K C_Stand := ⟨cl_Stand, nA_Stand_sounds, nA_Stand_knobs, nA_Stand_voices⟩
  have D__law_begin : Def l.prog w K mg base "_law_begin" 1 (spBegin K) := ⟨_, _, _, _, g1, ok_begin (P := l.prog) (w := w) (base := base) F1 m_list, k1, b1, .nil⟩
  have D__law_pick : Def l.prog w K mg base "_law_pick" 1 spPick := ⟨_, _, _, _, g2, ok_pick (P := l.prog) (w := w) (base := base) F2 m_len, k2, b2, .nil⟩
  have D__law_one : Def l.prog w K mg base "_law_one" 2 spOne := ⟨_, _, _, _, g3, ok_one (P := l.prog) (w := w) (base := base) F3 D__law_pick m_len, k3, b3, .nil⟩
  have D__law_channel : Def l.prog w K mg base "_law_channel" 2 (spInts 0 15) := ⟨_, _, _, _, g4, ok_channel (P := l.prog) (w := w) (base := base) F4 D__law_pick, k4, b4, .nil⟩
  have D__law_key : Def l.prog w K mg base "_law_key" 2 (spInts 0 127) := ⟨_, _, _, _, g5, ok_key (P := l.prog) (w := w) (base := base) F5 D__law_pick, k5, b5, .nil⟩
  have D__law_word : Def l.prog w K mg base "_law_word" 2 spWord := ⟨_, _, _, _, g6, ok_word (P := l.prog) (w := w) (base := base) F6 D__law_pick m_range, k6, b6, .nil⟩
  have D__law_thing : Def l.prog w K mg base "_law_thing" 3 spThing := ⟨_, _, _, _, g7, ok_thing (P := l.prog) (w := w) (base := base) F7 D__law_pick D__law_channel D__law_key D__law_word, k7, b7, .nil⟩
  have D__law_keen_track : Def l.prog w K mg base "_law_keen_track" 4 spKeen := ⟨_, _, _, _, g8, ok_keen_track (P := l.prog) (w := w) (base := base) F8 D__law_pick D__law_one D__law_channel D__law_key D__law_thing m_range m_min, k8, b8, .nil⟩
  have D_walked_through : Def l.prog w K mg base "walked_through" 1 spWalk := ⟨_, _, _, _, g9, ok_walked (P := l.prog) (w := w) (base := base) F9 m_enumerate m_len, k9, b9, .nil⟩
  have D_notes : Def l.prog w K mg base "notes" 2 spNotes := ⟨_, _, _, _, g10, ok_notes (P := l.prog) (w := w) (base := base) F10 D_walked_through m_list, k10, b10, .nil⟩
  have MK_Stand : C8.Mak l.prog w K mg base 1 "Stand" C_Stand (spNew C_Stand) [] := ⟨_, _, _, _, ⟨mk_Stand, a11, i11, kc_Stand⟩, ok_sta_init (P := l.prog) (w := w) (base := base) F11 TS, mgC_Stand, b11, .nil⟩
  have D_sounds_after : Def l.prog w K mg base "sounds_after" 1 spSnd := ⟨_, _, _, _, g12, ok_sounds_after (P := l.prog) (w := w) (base := base) F12 m_len m_enumerate, k12, b12, .nil⟩
  have D_set_after_k : Def l.prog w K mg base "set_after" 1 (spSet 3 fun e => ∃ t c k v, e = .knob t c k v) := ⟨_, _, _, _, g13, ok_set_after (P := l.prog) (w := w) (base := base) (d := 3) (ok := fun e => ∃ t c k v, e = .knob t c k v) (by decide) F13 m_sorted, k13, b13, .nil⟩
  have D_set_after_v : Def l.prog w K mg base "set_after" 1 (spSet 2 fun e => ∃ t c v, e = .voice t c v) := ⟨_, _, _, _, g13, ok_set_after (P := l.prog) (w := w) (base := base) (d := 2) (ok := fun e => ∃ t c v, e = .voice t c v) (by decide) F13 m_sorted, k13, b13, .nil⟩
  have O_Stand_after := ok_sta_after (P := l.prog) (w := w) (base := base) F14 TS MK_Stand D_sounds_after D_set_after_k D_set_after_v
  have mt_Stand_after : Meth K C_Stand "after" f14 := ⟨a14, i14, k14⟩
  have M_Stand_after : C8.Met l.prog w K mg base 3 C_Stand "after" (spAfter C_Stand) [] := ⟨_, _, _, _, cl_Stand, mt_Stand_after, O_Stand_after, b14, .nil⟩
  have O_Stand_sounds := ok_sta_sounds (P := l.prog) (w := w) (base := base) F15 TS m_list
  have mt_Stand_sounds : Meth K C_Stand "sounds" f15 := ⟨a15, i15, k15⟩
  have M_Stand_sounds : C8.Met l.prog w K mg base 1 C_Stand "sounds" (spTold C_Stand Sta.snd) [] := ⟨_, _, _, _, cl_Stand, mt_Stand_sounds, O_Stand_sounds, b15, .nil⟩
  have O_Stand_len := ok_sta_len (P := l.prog) (w := w) (base := base) F16 TS m_len
  have mt_Stand_len : Meth K C_Stand "__len__" f16 := ⟨a16, i16, k16⟩
  have M_Stand_len : C8.Met l.prog w K mg base 1 C_Stand "__len__" (spSLen C_Stand) [] := ⟨_, _, _, _, cl_Stand, mt_Stand_len, O_Stand_len, b16, .nil⟩
  have D_is_within : Def l.prog w K mg base "is_within" 1 spWithin := ⟨_, _, _, _, g17, ok_is_within (P := l.prog) (w := w) (base := base) F17 m_isinstance m_int m_bool, k17, b17, .nil⟩
  have D_need_tick : Def l.prog w K mg base "need_tick" 2 spTick := ⟨_, _, _, _, g18, ok_need_tick0 (P := l.prog) (w := w) (base := base) F18 D_is_within c_MOST_TICK, k18, b18, .nil⟩
  have D_stand_behind : Def l.prog w K mg base "stand_behind" 4 (spStandBehind C_Stand) := ⟨_, _, _, _, g19, ok_stand_behind (P := l.prog) (w := w) (base := base) F19 M_Stand_after, k19, b19, .nil⟩
  have D_stand_at : Def l.prog w K mg base "stand_at" 5 (spStandAt C_Stand) := ⟨_, _, _, _, g20, ok_stand_at (P := l.prog) (w := w) (base := base) F20 MK_Stand D_stand_behind D_need_tick, k20, b20, .nil⟩
  exact ok_law (P := l.prog) (w := w) (base := base) F21 D__law_begin D__law_keen_track D_notes D_stand_at M_Stand_sounds mt_Stand_len O_Stand_len b16 m_sorted m_max m_len
end Rt
open PySem PySem.W PyProof.Rows
set_option maxRecDepth 100000 in
set_option maxHeartbeats 0 in
theorem PySem.Challenge.cw_reedtapes_k33_whole_stands_are_their_not_holds : PySem.Challenge.rw_reedtapes_k33_whole_stands_are_their_not.Holds := by
  w_on; o_law; k_head; (case hw => w_witness2)
  k_fill
  refine Rt.walkT (l := PySem.Challenge.rw_reedtapes_k33_whole_stands_are_their_not) (n := 63) (k := 6) (x := "_law_script") (CX := fun _ => L2.CX0) rfl (by decide) rfl ⟨rfl, by decide, by decide⟩ (fun w h Y => PySem.W.kIn_of Y) ?F (fun _ _ _ _ _ h => h)
  case F =>
    intro w mg fa h KX G hmg tabs
    refine' Rt.all_mk KX G hmg ?aC_Stand ?pg_Stand ?hd_Stand ?po_Stand ?sa_Stand ?mk_Stand ?kc_Stand ?nA_Stand_sounds ?nA_Stand_knobs ?nA_Stand_voices ?a1 ?l1 ?c1 ?k1 ?a2 ?l2 ?c2 ?k2 ?a3 ?l3 ?c3 ?k3 ?a4 ?l4 ?c4 ?k4 ?a5 ?l5 ?c5 ?k5 ?a6 ?l6 ?c6 ?k6 ?a7 ?l7 ?c7 ?k7 ?a8 ?l8 ?c8 ?k8 ?a9 ?l9 ?c9 ?k9 ?a10 ?l10 ?c10 ?k10 ?a11 ?i11 ?l11 ?c11 ?k11 ?a12 ?l12 ?c12 ?k12 ?a13 ?l13 ?c13 ?k13 ?a14 ?i14 ?l14 ?c14 ?k14 ?a15 ?i15 ?l15 ?c15 ?k15 ?a16 ?i16 ?l16 ?c16 ?k16 ?a17 ?l17 ?c17 ?k17 ?a18 ?l18 ?c18 ?k18 ?a19 ?l19 ?c19 ?k19 ?a20 ?l20 ?c20 ?k20 ?a21 ?l21 ?c21 ?k21 ?z_list ?z_len ?z_range ?z_isinstance ?z_bool ?z_int ?z_min ?z_max ?z_enumerate ?z_sorted ?g_MOST_TICK
    (case aC_Stand => k_is)
    (case pg_Stand => k_is)
    (case hd_Stand => k_is)
    (case po_Stand => k_is)
    (case sa_Stand => k_is)
    (case mk_Stand => k_is)
    (case kc_Stand => k_is)
    (case nA_Stand_sounds => k_is)
    (case nA_Stand_knobs => k_is)
    (case nA_Stand_voices => k_is)
    (case a1 => k_is)
    (case l1 => k_is)
    (case c1 => k_is)
    (case k1 => k_is)
    (case a2 => k_is)
    (case l2 => k_is)
    (case c2 => k_is)
    (case k2 => k_is)
    (case a3 => k_is)
    (case l3 => k_is)
    (case c3 => k_is)
    (case k3 => k_is)
    (case a4 => k_is)
    (case l4 => k_is)
    (case c4 => k_is)
    (case k4 => k_is)
    (case a5 => k_is)
    (case l5 => k_is)
    (case c5 => k_is)
    (case k5 => k_is)
    (case a6 => k_is)
    (case l6 => k_is)
    (case c6 => k_is)
    (case k6 => k_is)
    (case a7 => k_is)
    (case l7 => k_is)
    (case c7 => k_is)
    (case k7 => k_is)
    (case a8 => k_is)
    (case l8 => k_is)
    (case c8 => k_is)
    (case k8 => k_is)
    (case a9 => k_is)
    (case l9 => k_is)
    (case c9 => k_is)
    (case k9 => k_is)
    (case a10 => k_is)
    (case l10 => k_is)
    (case c10 => k_is)
    (case k10 => k_is)
    (case a11 => k_is)
    (case i11 => k_is)
    (case l11 => k_is)
    (case c11 => k_is)
    (case k11 => k_is)
    (case a12 => k_is)
    (case l12 => k_is)
    (case c12 => k_is)
    (case k12 => k_is)
    (case a13 => k_is)
    (case l13 => k_is)
    (case c13 => k_is)
    (case k13 => k_is)
    (case a14 => k_is)
    (case i14 => k_is)
    (case l14 => k_is)
    (case c14 => k_is)
    (case k14 => k_is)
    (case a15 => k_is)
    (case i15 => k_is)
    (case l15 => k_is)
    (case c15 => k_is)
    (case k15 => k_is)
    (case a16 => k_is)
    (case i16 => k_is)
    (case l16 => k_is)
    (case c16 => k_is)
    (case k16 => k_is)
    (case a17 => k_is)
    (case l17 => k_is)
    (case c17 => k_is)
    (case k17 => k_is)
    (case a18 => k_is)
    (case l18 => k_is)
    (case c18 => k_is)
    (case k18 => k_is)
    (case a19 => k_is)
    (case l19 => k_is)
    (case c19 => k_is)
    (case k19 => k_is)
    (case a20 => k_is)
    (case l20 => k_is)
    (case c20 => k_is)
    (case k20 => k_is)
    (case a21 => k_is)
    (case l21 => k_is)
    (case c21 => k_is)
    (case k21 => k_is)
    (case z_list => k_is)
    (case z_len => k_is)
    (case z_range => k_is)
    (case z_isinstance => k_is)
    (case z_bool => k_is)
    (case z_int => k_is)
    (case z_min => k_is)
    (case z_max => k_is)
    (case z_enumerate => k_is)
    (case z_sorted => k_is)
    (case g_MOST_TICK => k_is)
