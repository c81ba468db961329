import PyProof.Rows.All
import Wide.All
import OpenK.AllK
import Wide.FinOn
import HandS.Base
import HandS.Call
import HandS.List
import HandS.Comp
import HandS.Conv
import HandS.Text
import HandS.Words
import HandS.WordsList
import HandS.Ends
import HandS.SortInts
import HandS.Wide
import HandS.IsInst
import HandS.More
import HandS.Evl
import HandS.Defaults
import HandS.Zip
import HandS.ExcOwn
import HandS.Iter
import HandS.Style
import KE.KDictZip
import PyProof.Rows.RegZipMeets
import PyProof.ReprRoads
import HandS.Set
import HandS.Walk
import HandS.Dict
import PyProof.StrLawsIn
import PyProof.Rows.StrInSeq
import PyProof.EqAt
import PyProof.EqKinds
import PyProof.Rows.SetFrom
import PyProof.Rows.SortShellAny
import HandS.SetBool
import KE.SortData
import HandS.SetFor
import HandS.Deep
import HandS.TryOnly
import KE.KRevSl
import KE.GoesMore
import KE.GoesZip
import PyProof.CollectStr
import HandS.ExcValue
import HandS.Rev
import KE.DatumOrd
import HandS.SortKw
import HandS.Flow
import KE.DataMinMax
import KE.KDictKeyed
import KE.KDictDisplayH
import HandS.Exc
import HandS.ExcIs
import HandS.ExcInit
import HandS.CallSlots
import HandS.WordsExc
import KE.KExcIs
import KE.KDictPairs
import KE.KItemsList
import HandS.DictTup
import KE.KExcSuper
import KE.KSuper
import HandS.ExcSuper
import HandS.Codes
import HandS.TupLen
import PyProof.CallFns
import PyProof.StrLawsRepr
import HandS.StrMore
import PySem.Challenge.RW_lastother_k84_farthest_reachable_lineups
set_option Elab.async false
set_option linter.all false
set_option maxRecDepth 100000
set_option maxHeartbeats 4000000
/-! Lineups over the hand layer: what stands where, and rules of my own. -/
namespace LX
open PySem L2

/-! ### own operator rules -/
def CPowW (i j : Int) : Prop := 0 ≤ j ∧ j ≤ 1000 ∧ i.natAbs < 2 ^ 1000
theorem op_powW {X : Cx} : OpR X (binaryOp .Pow) (rI CPowW fun i j => .int (i ^ j.toNat)) := opI fun i j _ _ _ _ _ hc q => by
  refine PyProof.Rows.pow_int hc.1 ?_ q
  have h1 : Builtin.Int.intBits i ≤ 1000 := PyProof.Rows.intBits_le hc.2.2
  have h2 : (Builtin.Int.intBits i : Int) ≤ 1000 := by omega
  have h3 := Int.mul_le_mul h2 hc.2.1 hc.1 (by decide : (0:Int) ≤ 1000)
  exact Int.le_trans h3 (by decide)

/-! ### the rules that speak of the written part, with its name -/
section
variable {X : Cx} {K : PySem.W.Frag} {e o : Expr} {es : List Expr} {te to : TE} {t : TA} {pos apos cpos : Pos}
theorem kix_list (h : X.K = K := by rfl) : IxR X (rIxL K) := h ▸ ix_list
theorem kix_tup (h : X.K = K := by rfl) : IxR X (rIxT K) := h ▸ ix_tup
theorem ksl_list (h : X.K = K := by rfl) : SlR X (rSlL K) := h ▸ sl_list
def qLen (K : PySem.W.Frag) : List V → Hp → VK → Prop := fun xs H Q => ∃ p ys, xs = [.ref p] ∧ (SqL K H p ys ∨ SqT K H p ys) ∧ Q (.int ys.length) H
theorem klen (h : X.K = K := by rfl) : CallR X (.builtin "len") (qLen K) := h ▸ call_len_seq
def qList (K : PySem.W.Frag) : List V → Hp → VK → Prop := fun xs H Q => ∃ p ys, xs = [.ref p] ∧ (SqL K H p ys ∨ SqT K H p ys) ∧ ∀ l, H l = none → Q (.ref l) (upd H l (.lst ys))
theorem klist (h : X.K = K := by rfl) : CallR X (.type "list") (qList K) := h ▸ call_list_of
theorem ksorted (h : X.K = K := by rfl) : CallR X (.builtin "sorted") (rSortedI K) := h ▸ cr_sortedI
theorem kall (hc : X.calm = true) (h : X.K = K := by rfl) : CallR X (.builtin "all") (rAll K) := h ▸ cr_all hc
theorem kany (hc : X.calm = true) (h : X.K = K := by rfl) : CallR X (.builtin "any") (rAny K) := h ▸ cr_any hc
theorem ksum (hc : X.calm = true) (h : X.K = K := by rfl) : CallR X (.builtin "sum") (rSum K) := h ▸ cr_sum hc
theorem kisi (h : X.K = K := by rfl) : CallR X (.builtin "isinstance") (rIsi K) := h ▸ call_isi
theorem kisiT (h : X.K = K := by rfl) : CallR X (.builtin "isinstance") (rIsiT K) := h ▸ call_isiT
theorem kin (h : X.K = K := by rfl) : OpR X (compareOp .In) (rIn K false) := h ▸ op_in_seq
theorem knotIn (h : X.K = K := by rfl) : OpR X (compareOp .NotIn) (rIn K true) := h ▸ op_notIn_seq
theorem keqD (hu : X.A.units + 64 < cLine) (h : X.K = K := by rfl) : OpR X (compareOp .Eq) (rEqD K) := h ▸ op_eqD hu
theorem kneD (hu : X.A.units + 64 < cLine) (h : X.K = K := by rfl) : OpR X (compareOp .NotEq) (rNeD K) := h ▸ op_neD hu
theorem kpi_list {tg : Expr} (he : PE X e te) (h : X.K = K := by rfl) : PI X tg e (iList K te) := h ▸ pi_list he
theorem kbm {T id : String} {name : Str} {r : V → List V → Hp → VK → Prop} (p1 : PySem.PlainAttrs T) (p2 : PySem.Slot T name id) (p3 : typeOf (.builtin id) = pure (.type "method_descriptor")) (m : MtR X id r) (ho : PE X o to) (ha : PA X (e :: es) t)
    (q1 : attributeBase o name X.env (eval o X.env) = eval o X.env := by rfl)
    (q2 : ((backTo cpos (starEach (e :: es) X.env)).all (fun y => !y.1) && (backToKw cpos (keywordEach [] X.env)).all (fun y => y.1.isSome) && decide ((e :: es).length + ([] : List Keyword).length + (if ([] : List Keyword).isEmpty then 0 else 1) < 30)) = true := by rfl)
    (q3 : (apos.endLine == cpos.line) = true := by rfl) (q4 : starEach (e :: es) X.env = (false, eval e X.env) :: starEach es X.env := by rfl) (q5 : (backTo cpos (starEach es X.env)).any (·.1) = false := by rfl) (h : X.K = K := by rfl) :
    PE X (.Call (.Attribute o name apos) (e :: es) [] cpos) (tBM K T r to t) := h ▸ pe_bm p1 p2 p3 m ho ha q1 q2 q3 q4 q5
theorem kbm0 {T id : String} {name : Str} {r : V → List V → Hp → VK → Prop} (p1 : PySem.PlainAttrs T) (p2 : PySem.Slot T name id) (p3 : typeOf (.builtin id) = pure (.type "method_descriptor")) (m : MtR X id r) (ho : PE X o to)
    (q1 : attributeBase o name X.env (eval o X.env) = eval o X.env := by rfl) (q3 : (apos.endLine == cpos.line) = true := by rfl) (h : X.K = K := by rfl) :
    PE X (.Call (.Attribute o name apos) [] [] cpos) (tBM0 K T r to) := h ▸ pe_bm0 p1 p2 p3 m ho q1 q3
def qTru (K : PySem.W.Frag) (ta : TE) : TT := fun σ H Q => ta σ H fun x H' => ∃ k, TruV K x H' k ∧ Q k H'
theorem kpt_truth {b : Expr} {tb : TE} (hb : PE X b tb) (g : ∀ whole, isTrue b X.env whole = (do let v ← whole; standAt b.pos; holding [v] (truthy v))) (h : X.K = K := by rfl) : PT X b (qTru K tb) := h ▸ pt_truth hb g
theorem kpg_tup {k n : Nat} {u : TGs} (hc : X.calm = true) (hp : PGs X es u) (hn : (assignEach es X.env).length = n := by rfl) (hst : (assignEach es X.env).findIdx? (·.1) = none := by rfl) (h : X.K = K := by rfl) :
    PG X (.Tuple es k pos) (gTup K n u) := h ▸ pg_tup hc hp hn hst
end

/-! ### heaps -/
def Same' (p : Addr) (H H' : Hp) : Prop := ∀ b o, H b = some o → b ≠ p → H' b = some o
theorem Same'.refl (p : Addr) (H : Hp) : Same' p H H := fun _ _ h _ => h
theorem Same'.trans {p : Addr} {H H1 H2 : Hp} (a : Same' p H H1) (b : Same' p H1 H2) : Same' p H H2 := fun c o h n => b c o (a c o h n) n
theorem Same'.upd {p : Addr} {H : Hp} {o : HO} : Same' p H (upd H p o) := fun b u h n => by
  rw [upd_ne n]
  exact h
/-- a row of people: person, color (a code) -/
abbrev Row := List (Nat × Nat)
abbrev sg (c : Nat) : V := .str ⟨#[c]⟩
def oV : Option Nat → V
  | some c => sg c
  | none => .non
abbrev pr (e : Nat × Nat) : List V := [.int (e.1 : Int), sg e.2]
def TupsAt (H : Hp) : List Addr → Row → Prop
  | [], [] => True
  | t :: ts, e :: r => H t = some (.tup (pr e)) ∧ TupsAt H ts r
  | _, _ => False
theorem TupsAt.len {H : Hp} : ∀ {ts : List Addr} {r : Row}, TupsAt H ts r → ts.length = r.length
  | [], [], _ => rfl
  | _ :: ts, _ :: r, h => congrArg (· + 1) (TupsAt.len (ts := ts) (r := r) h.2)
  | [], _ :: _, h => h.elim
  | _ :: _, [], h => h.elim
theorem TupsAt.mono {H H' : Hp} : ∀ {ts : List Addr} {r : Row}, TupsAt H ts r → (∀ b xs, H b = some (.tup xs) → H' b = some (.tup xs)) → TupsAt H' ts r
  | [], [], _, _ => True.intro
  | _ :: ts, _ :: r, h, k => ⟨k _ _ h.1, TupsAt.mono (ts := ts) (r := r) h.2 k⟩
  | [], _ :: _, h, _ => h.elim
  | _ :: _, [], h, _ => h.elim
theorem TupsAt.get {H : Hp} : ∀ {ts : List Addr} {r : Row} {i : Nat} {t : Addr}, TupsAt H ts r → ts[i]? = some t → ∃ e, r[i]? = some e ∧ H t = some (.tup (pr e))
  | [], [], i, t, _, h => by simp at h
  | _ :: ts, e :: r, 0, t, h, q => by
    simp at q
    subst q
    exact ⟨e, rfl, h.1⟩
  | _ :: ts, _ :: r, i + 1, t, h, q => by
    simp at q
    obtain ⟨e, h1, h2⟩ := TupsAt.get (ts := ts) (r := r) h.2 q
    exact ⟨e, by simpa using h1, h2⟩
  | [], _ :: _, _, _, h, _ => h.elim
  | _ :: _, [], _, _, h, _ => h.elim
theorem TupsAt.app {H : Hp} : ∀ {ts us : List Addr} {r q : Row}, TupsAt H ts r → TupsAt H us q → TupsAt H (ts ++ us) (r ++ q)
  | [], _, [], _, _, h => h
  | _ :: ts, us, _ :: r, q, h, k => ⟨h.1, TupsAt.app (ts := ts) (r := r) h.2 k⟩
  | [], _, _ :: _, _, h, _ => h.elim
  | _ :: _, _, [], _, h, _ => h.elim
theorem TupsAt.take {H : Hp} : ∀ {ts : List Addr} {r : Row} (n : Nat), TupsAt H ts r → TupsAt H (ts.take n) (r.take n)
  | _, _, 0, _ => True.intro
  | [], [], _ + 1, _ => True.intro
  | _ :: ts, _ :: r, n + 1, h => ⟨h.1, TupsAt.take (ts := ts) (r := r) n h.2⟩
  | [], _ :: _, _ + 1, h => h.elim
  | _ :: _, [], _ + 1, h => h.elim
theorem TupsAt.drop {H : Hp} : ∀ {ts : List Addr} {r : Row} (n : Nat), TupsAt H ts r → TupsAt H (ts.drop n) (r.drop n)
  | _, _, 0, h => h
  | [], [], _ + 1, _ => True.intro
  | _ :: ts, _ :: r, n + 1, h => TupsAt.drop (ts := ts) (r := r) n h.2
  | [], _ :: _, _ + 1, h => h.elim
  | _ :: _, [], _ + 1, h => h.elim
theorem TupsAt.one {H : Hp} {t : Addr} {e : Nat × Nat} (h : H t = some (.tup (pr e))) : TupsAt H [t] [e] := ⟨h, True.intro⟩
def RowAt (H : Hp) (a : Addr) (r : Row) : Prop := ∃ ts : List Addr, H a = some (.lst (ts.map V.ref)) ∧ TupsAt H ts r
theorem sTups {H H' : Hp} (s : Same H H') : ∀ b xs, H b = some (.tup xs) → H' b = some (.tup xs) := fun b xs h => s b _ h
theorem RowAt.same {H H' : Hp} {a : Addr} {r : Row} (h : RowAt H a r) (s : Same H H') : RowAt H' a r :=
  let ⟨ts, h1, h2⟩ := h
  ⟨ts, s _ _ h1, h2.mono (sTups s)⟩
/-- a list at p is not the tuples' -/
theorem RowAt.same' {H H' : Hp} {a p : Addr} {r : Row} {xs : List V} (h : RowAt H a r) (s : Same' p H H') (hp : H p = some (.lst xs)) (n : a ≠ p) : RowAt H' a r :=
  let ⟨ts, h1, h2⟩ := h
  ⟨ts, s _ _ h1 n, h2.mono fun b ys e => s b _ e fun q => by
    rw [q, hp] at e
    cases e⟩
theorem sNew {H : Hp} {p : Addr} {o : HO} (h : H p = none) : Same H (upd H p o) := fun a u e => by
  rw [upd_ne (ne_of_none e h)]
  exact e
/-- a change of an object that H does not know -/
theorem sUpd {H H' : Hp} {p : Addr} {o : HO} (s : Same H H') (h : H p = none) : Same H (upd H' p o) := fun a u e => by
  rw [upd_ne (ne_of_none e h)]
  exact s a u e
theorem sTo {H H' : Hp} (p : Addr) (s : Same H H') : Same' p H H' := fun b o h _ => s b o h

/-! ### the draws' bag -/
structure Src (H : Hp) (p : Addr) : Prop where
  ex : ∃ s0 s1 s2 : Int, H p = some (.lst [.int s0, .int s1, .int s2]) ∧ s1.natAbs < 2 ^ 400
theorem Src.same {H H' : Hp} {p : Addr} (h : Src H p) (s : Same H H') : Src H' p :=
  let ⟨s0, s1, s2, h1, h2⟩ := h.ex
  ⟨s0, s1, s2, s _ _ h1, h2⟩
theorem Src.lst {H : Hp} {p : Addr} (h : Src H p) : ∃ xs, H p = some (.lst xs) :=
  let ⟨s0, s1, s2, h1, _⟩ := h.ex
  ⟨_, h1⟩

/-! ### readings, step by step -/
section
variable {σ : St} {H : Hp} {Q : VK} {v x y : V} {ta tb tc te : TE} {r r' : R2} {i : Nat} {K : PySem.W.Frag} {t u : TT} {t1 t2 : TS} {D : Ends} {g : TG} {QB : Bool → Hp → Prop} {QA : List V → Hp → Prop} {tr : TA}
theorem rd_var (e : σ[i]? = some (some v)) (q : Q v H) : tVar i σ H Q := ⟨v, e, q⟩
theorem rd_c (q : Q v H) : tC v σ H Q := q
theorem rd_op (q : ta σ H fun x H1 => tb σ H1 fun y H2 => r x y H2 Q) : tOp r ta tb σ H Q := q
theorem rd_un {r : V → Hp → VK → Prop} (q : ta σ H fun x H1 => r x H1 Q) : tUn r ta σ H Q := q
theorem rd_I0 {f : Int → Int → V} {a b : Int} (q : Q (f a b) H) : rI0 f (.int a) (.int b) H Q := ⟨a, b, rfl, rfl, q⟩
theorem rd_I {C : Int → Int → Prop} {f : Int → Int → V} {a b : Int} (c : C a b) (q : Q (f a b) H) : rI C f (.int a) (.int b) H Q := ⟨a, b, rfl, rfl, c, q⟩
theorem rd_U {f : Int → V} {a : Int} (q : Q (f a) H) : rU f (.int a) H Q := ⟨a, rfl, q⟩
theorem rd_eq (s : scal x y = true) (q : Q (.bl (decide (x = y))) H) : rEq x y H Q := ⟨s, q⟩
theorem rd_ne (s : scal x y = true) (q : Q (.bl (!decide (x = y))) H) : rNe x y H Q := ⟨s, q⟩
theorem rd_test (q : te σ H fun x H' => ∃ k, x = .bl k ∧ QB k H') : tTest te σ H QB := q
theorem rd_tB (q : te σ H fun x H' => ∃ k, x = .bl k ∧ QB k H') : tB te σ H QB := q
theorem rd_bl {b : Bool} {R : Bool → Prop} (q : R b) : ∃ k, V.bl b = .bl k ∧ R k := ⟨b, rfl, q⟩
theorem rd_dec {p A B : Prop} [Decidable p] (h1 : p → A) (h2 : ¬ p → B) : if decide p = true then A else B := by
  by_cases h : p
  · rw [decide_eq_true h]
    exact iteT (h1 h)
  · rw [decide_eq_false h]
    exact iteF (h2 h)
theorem rd_ndec {p A B : Prop} [Decidable p] (h1 : ¬ p → A) (h2 : p → B) : if (!decide p) = true then A else B := by
  by_cases h : p
  · rw [decide_eq_true h]
    exact iteF (h2 h)
  · rw [decide_eq_false h]
    exact iteT (h1 h)
theorem rd_nt {A B : Prop} (h : B) : if (!true) = true then A else B := iteF h
theorem rd_nf {A B : Prop} (h : A) : if (!false) = true then A else B := iteT h
theorem rd_yes {p A B : Prop} [Decidable p] (h : p) (q : A) : if decide p = true then A else B := rd_dec (fun _ => q) fun n => absurd h n
theorem rd_no {p A B : Prop} [Decidable p] (h : ¬ p) (q : B) : if decide p = true then A else B := rd_dec (fun n => absurd n h) fun _ => q
theorem rd_2i {a b : Int} {R : Int → Int → Prop} (q : R a b) : ∃ i j, [V.int a, V.int b] = [V.int i, V.int j] ∧ R i j := ⟨a, b, rfl, q⟩
theorem rd_chain (q : ta σ H fun x H1 => tb σ H1 fun y H2 => r x y H2 fun z H3 => ∃ k, z = .bl k ∧ (if k = true then tc σ H3 fun w' H4 => r' y w' H4 Q else Q (.bl false) H3)) : tChain r r' ta tb tc σ H Q := q
theorem rd_and (q : t σ H fun c H1 => if c = true then u σ H1 QB else QB false H1) : tAnd t u σ H QB := q
theorem rd_or (q : t σ H fun c H1 => if c = true then QB true H1 else u σ H1 QB) : tOr t u σ H QB := q
theorem rd_not (q : t σ H fun c H1 => QB (!c) H1) : tNot t σ H QB := q
theorem rd_andV (q : ta σ H fun x H1 => ∃ c, x = .bl c ∧ if c = true then tb σ H1 Q else Q (.bl false) H1) : tAndV ta tb σ H Q := q
theorem rd_orV (q : ta σ H fun x H1 => ∃ c, x = .bl c ∧ if c = true then Q (.bl true) H1 else tb σ H1 Q) : tOrV ta tb σ H Q := q
theorem rd_notV (q : ta σ H fun x H1 => ∃ c, x = .bl c ∧ Q (.bl (!c)) H1) : tNotV ta σ H Q := q
theorem rd_ifE (q : t σ H fun c H1 => if c = true then ta σ H1 Q else tb σ H1 Q) : tIf t ta tb σ H Q := q
theorem rd_next (q : D.nx σ H) : tNext D σ H := q
theorem rd_seq (q : t1 { D with nx := t2 D } σ H) : tSeq t1 t2 D σ H := q
theorem rd_drop (q : te σ H fun _ H1 => D.nx σ H1) : tDrop te D σ H := q
theorem rd_ret (q : te σ H D.rt) : tRet te D σ H := q
theorem rd_ifS (q : t σ H fun b H1 => if b = true then t1 D σ H1 else t2 D σ H1) : tIfS t t1 t2 D σ H := q
theorem rd_asg (q : te σ H fun x H1 => g x σ H1 D.nx) : tAsg te g D σ H := q
theorem rd_name {R : St → Hp → Prop} (q : R (σ.set i (some v)) H) : gName i v σ H R := q
theorem rd_par {j : Nat} (q : tr σ H fun vs H1 => ∃ v w, vs = [v, w] ∧ D.nx ((σ.set i (some v)).set j (some w)) H1) : tPar i j tr D σ H := q
theorem rd_two {v w : V} {R : V → V → Prop} (q : R v w) : ∃ a b, [v, w] = [a, b] ∧ R a b := ⟨v, w, rfl, q⟩
theorem rd_nil (q : QA [] H) : tNil σ H QA := q
theorem rd_cons (q : ta σ H fun x H1 => tr σ H1 fun xs H2 => QA (x :: xs) H2) : tCons ta tr σ H QA := q
theorem rd_tup (q : tr σ H fun xs H1 => xs.length ≤ sizeLine ∧ ∀ p, H1 p = none → Q (.ref p) (upd H1 p (.tup xs))) : tTup tr σ H Q := q
theorem rd_lst (q : tr σ H fun xs H1 => xs.length ≤ sizeLine ∧ ∀ p, H1 p = none → Q (.ref p) (upd H1 p (.lst xs))) : tLst tr σ H Q := q
theorem rd_cb {r : List V → Hp → VK → Prop} (q : tr σ H fun vs H1 => r vs H1 Q) : tCB r tr σ H Q := q
theorem rd_call {sp : Sp} {dvs : List V} {E : XK} (q : tr σ H fun vs H1 => sp (vs ++ dvs) H1 Q E) : tCall sp dvs E tr σ H Q := q
theorem rd_ixL {p : Addr} {xs : List V} {j : Int} (h : H p = some (.lst xs)) (a : atI xs j = some v) (q : Q v H) : rIxL K (.ref p) (.int j) H Q := ⟨p, xs, j, v, rfl, rfl, SqL.of h, a, q⟩
theorem rd_ixT {p : Addr} {xs : List V} {j : Int} (h : H p = some (.tup xs)) (a : atI xs j = some v) (q : Q v H) : rIxT K (.ref p) (.int j) H Q := ⟨p, xs, j, v, rfl, rfl, SqT.of h, a, q⟩
theorem rd_sub {to ti : TE} {s : TSet} {R : St → Hp → Prop} (q : to σ H fun o H1 => ti σ H1 fun i H2 => s o i v H2 fun H3 => R σ H3) : gSub to ti s v σ H R := q
theorem rd_setL {p : Addr} {xs : List V} {k : Int} {j : Nat} {R : Hp → Prop} (h : H p = some (.lst xs)) (e : ixN xs.length k = some j) (q : R (upd H p (.lst (xs.set j v)))) : rSetL (.ref p) (.int k) v H R := ⟨p, xs, k, j, rfl, rfl, h, e, q⟩
theorem rd_len {p : Addr} {xs : List V} (h : H p = some (.lst xs)) (q : Q (.int xs.length) H) : qLen K [.ref p] H Q := ⟨p, xs, rfl, Or.inl (SqL.of h), q⟩
theorem rd_sl {tl th : TO} {r : V → Option Int → Option Int → Hp → VK → Prop} (q : te σ H fun x H1 => tl σ H1 fun l H2 => th σ H2 fun u H3 => r x l u H3 Q) : tSl r te tl th σ H Q := q
theorem rd_nopart {R : Option Int → Hp → Prop} (q : R none H) : tNoPart σ H R := q
theorem rd_part {R : Option Int → Hp → Prop} (q : te σ H fun x H1 => ∃ i, x = .int i ∧ R (some i) H1) : tPart te σ H R := q
theorem rd_int {j : Int} {R : Int → Prop} (q : R j) : ∃ i, V.int j = .int i ∧ R i := ⟨j, rfl, q⟩
theorem rd_slL {p : Addr} {xs : List V} {l u : Option Int} (h : H p = some (.lst xs)) (q : ∀ b, H b = none → Q (.ref b) (upd H b (.lst (cutV xs l u)))) : rSlL K (.ref p) l u H Q := ⟨p, xs, rfl, SqL.of h, q⟩
theorem rd_cat {p b : Addr} {xs ys : List V} (h : H p = some (.lst xs)) (h2 : H b = some (.lst ys)) (z : xs.length + ys.length ≤ sizeLine) (q : ∀ c, H c = none → Q (.ref c) (upd H c (.lst (xs ++ ys)))) : rCat (.ref p) (.ref b) H Q := ⟨p, b, xs, ys, rfl, rfl, h, h2, z, q⟩
theorem rd_isN (q : Q (.bl (decide (x = .non))) H) : (fun x y H Q => y = V.non ∧ Q (.bl (decide (x = .non))) H : R2) x .non H Q := ⟨rfl, q⟩
theorem rd_bm {T : String} {r : V → List V → Hp → VK → Prop} (q : te σ H fun x H1 => tyV K T x H1 ∧ tr σ H1 fun xs H2 => r x xs H2 Q) : tBM K T r te tr σ H Q := q
theorem rd_bm0 {T : String} {r : V → List V → Hp → VK → Prop} (q : te σ H fun x H1 => tyV K T x H1 ∧ r x [] H1 Q) : tBM0 K T r te σ H Q := q
theorem rd_for {wi : TI} (q : wi σ H fun J H1 => ∃ W : Nat → Nat → St → Hp → Prop, (∃ m, W 0 m σ H1) ∧ ∀ i m σ H, W i m σ H →
  (J.stop i H ∧ D.nx σ H) ∨ (J.go i H ∧ ∃ N : St → Hp → Prop, (∀ σ' H', N σ' H' → ∃ m', m' < m ∧ W (i + 1) m' σ' H') ∧ ∀ x H', J.yld i H x H' → g x σ H' fun σ2 H2 => t1 { D with nx := N, ct := N, bk := D.nx } σ2 H2)) : tFor wi g t1 D σ H := q
theorem rd_iList {tl : TE} {R : It → Hp → Prop} (q : tl σ H fun x H1 => ∃ a, x = .ref a ∧ (∃ xs, SqL K H1 a xs) ∧ R (Itl K a) H1) : iList K tl σ H R := q
theorem rd_gtup {n : Nat} {s : TGs} {p : Addr} {xs : List V} {R : St → Hp → Prop} (h : H p = some (.tup xs)) (z : xs.length = n) (q : s xs σ H R) : gTup K n s (.ref p) σ H R := ⟨p, xs, rfl, SqT.of h, z, q⟩
theorem rd_gcons {s : TG} {w : TGs} {vs : List V} {R : St → Hp → Prop} (q : s v σ H fun σ' H' => w vs σ' H' R) : gCons s w (v :: vs) σ H R := ⟨v, vs, rfl, q⟩
theorem rd_gnil {R : St → Hp → Prop} (q : R σ H) : gNil [] σ H R := ⟨rfl, q⟩
theorem rd_sl_len {n : Nat} (h : n ≤ 1000) : n ≤ sizeLine := Nat.le_of_lt (small1000 h)
end

section
variable {σ : St} {H : Hp} {Q : VK} {v x y : V} {K : PySem.W.Frag} {ta te : TE} {D : Ends} {g : TG} {tb : TS}
theorem rd_typ {n : String} (h : zTyV v H = some n) (q : Q (.ty n) H) : r1 kTyp [v] H Q := ⟨n, h, q⟩
theorem rd_2ty {m n : String} {R : String → String → Prop} (q : R m n) : ∃ a b, V.ty m = V.ty a ∧ V.ty n = V.ty b ∧ R a b := ⟨m, n, rfl, rfl, q⟩
theorem rd_NT {m n : String} (q : Q (.bl (!decide (m = n))) H) : rNT (.ty m) (.ty n) H Q := ⟨m, n, rfl, rfl, q⟩
theorem rd_2s {m n : Str} {R : Str → Str → Prop} (q : R m n) : ∃ a b, V.str m = V.str a ∧ V.str n = V.str b ∧ R a b := ⟨m, n, rfl, rfl, q⟩
theorem rd_lenS {m : Str} {R : Str → Prop} (q : R m) : ∃ a, [V.str m] = [V.str a] ∧ R a := ⟨m, rfl, q⟩
theorem rd_lenT {p : Addr} {xs : List V} (h : H p = some (.tup xs)) (q : Q (.int xs.length) H) : qLen K [.ref p] H Q := ⟨p, xs, rfl, Or.inr (SqT.of h), q⟩
theorem rd_isi {t u : Value} {c : V} {b : Bool} (h1 : ClsV c u) (h2 : TyX K H v t) (h3 : PySem.W.kitOne K t u = some b) (q : Q (.bl b) H) : rIsi K [v, c] H Q := ⟨v, c, t, u, b, rfl, h1, h2, h3, q⟩
theorem rd_listOf {p : Addr} {xs : List V} (h : H p = some (.lst xs)) (q : ∀ l, H l = none → Q (.ref l) (upd H l (.lst xs))) : qList K [.ref p] H Q := ⟨p, xs, rfl, Or.inl (SqL.of h), q⟩
theorem rd_rep {p : Addr} {xs : List V} {k : Int} (h : H p = some (.lst xs)) (h1 : 0 ≤ k) (h2 : k < 2 ^ 62) (z : xs.length * k.toNat ≤ sizeLine) (q : rRep (.ref p) (.int k) H Q) : rRep (.ref p) (.int k) H Q := q
/-- for i, x in enumerate(xs): every turn has a new tuple -/
theorem for_enum {a : Addr} {xs : List V} {σ : St} {H : Hp} (Pv : Nat → St → Hp → Prop) (h0 : Pv 0 σ H) (hl : ∀ i σ H, i ≤ xs.length → Pv i σ H → SqL K H a xs)
    (hs : ∀ i x (T : Addr) σ H, xs[i]? = some x → Pv i σ H → H T = none → g (.ref T) σ (upd H T (.tup [.int (i : Nat), x])) fun σ2 H2 => tb { D with nx := Pv (i + 1), ct := Pv (i + 1), bk := D.nx } σ2 H2) (hd : ∀ σ H, Pv xs.length σ H → D.nx σ H) :
    ∃ W : Nat → Nat → St → Hp → Prop, (∃ m, W 0 m σ H) ∧ ∀ i m σ H, W i m σ H →
      ((Ite K a).stop i H ∧ D.nx σ H) ∨ ((Ite K a).go i H ∧ ∃ N : St → Hp → Prop, (∀ σ' H', N σ' H' → ∃ m', m' < m ∧ W (i + 1) m' σ' H') ∧ ∀ x H', (Ite K a).yld i H x H' → g x σ H' fun σ2 H2 => tb { D with nx := N, ct := N, bk := D.nx } σ2 H2) := by
  refine ⟨fun i m σ H => m = xs.length - i ∧ i ≤ xs.length ∧ Pv i σ H, ⟨_, rfl, Nat.zero_le _, h0⟩, fun i m σ H hw => ?_⟩
  obtain ⟨rfl, hi, p⟩ := hw
  have q := hl i σ H hi p
  by_cases hlt : i < xs.length
  · have hx : xs[i]? = some xs[i] := List.getElem?_eq_getElem hlt
    refine Or.inr ⟨⟨xs, xs[i], q, hx⟩, Pv (i + 1), fun σ' H' p' => ⟨xs.length - (i + 1), by omega, rfl, hlt, p'⟩, fun x H' ⟨T, z, e1, e2, e3, e4⟩ => ?_⟩
    subst e1 e3
    have ez : z = xs[i] := Option.some.inj ((e4 xs q).symm.trans hx)
    subst ez
    exact hs i _ T σ H hx p e2
  · have e : i = xs.length := by omega
    subst e
    exact Or.inl ⟨⟨xs, q, Nat.le_refl _⟩, hd σ H p⟩
end

/-! ### rows: the first other color, the colors by person, a call -/
def fo (r : Row) (c : Nat) : Option Nat := (r.find? fun e => e.2 != c).map (·.2)
def colOf (r : Row) (q : Nat) : Nat := ((r.find? fun e => e.1 == q).map (·.2)).getD 0
theorem fo_nil (c : Nat) : fo [] c = none := rfl
theorem fo_yes {e : Nat × Nat} {r : Row} {c : Nat} (h : e.2 ≠ c) : fo (e :: r) c = some e.2 := by
  unfold fo
  rw [List.find?_cons_of_pos (by simpa using h)]
  rfl
theorem fo_no {e : Nat × Nat} {r : Row} {c : Nat} (h : e.2 = c) : fo (e :: r) c = fo r c := by
  unfold fo
  rw [List.find?_cons_of_neg (by simpa using h)]
theorem drop_of {α : Type} {l : List α} {i : Nat} {x : α} (h : l[i]? = some x) : l.drop i = x :: l.drop (i + 1) := by
  obtain ⟨h1, h2⟩ := List.getElem?_eq_some_iff.mp h
  rw [← h2]
  exact List.drop_eq_getElem_cons h1
structure Vr (r : Row) : Prop where
  n1 : 1 ≤ r.length
  n2 : r.length ≤ 60
  col : ∀ e ∈ r, 97 ≤ e.2 ∧ e.2 ≤ 122
  perm : (r.map (·.1)).Perm (List.range r.length)
theorem Vr.lt {r : Row} (h : Vr r) {e : Nat × Nat} (he : e ∈ r) : e.1 < r.length := by
  have := h.perm.mem_iff.mp (List.mem_map_of_mem (f := (·.1)) he)
  exact List.mem_range.mp this
theorem Vr.nodup {r : Row} (h : Vr r) : (r.map (·.1)).Nodup := h.perm.nodup_iff.mpr List.nodup_range
theorem Vr.has {r : Row} (h : Vr r) {q : Nat} (hq : q < r.length) : ∃ e ∈ r, e.1 = q := by
  have := h.perm.mem_iff.mpr (List.mem_range.mpr hq)
  obtain ⟨e, h1, h2⟩ := List.mem_map.mp this
  exact ⟨e, h1, h2⟩
/-- the list that colors_by_person fills -/
def fillC (l : List V) (r : Row) : List V := r.foldl (fun l e => l.set e.1 (sg e.2)) l
theorem fillC_len (r : Row) : ∀ l : List V, (fillC l r).length = l.length := by
  induction r with
  | nil => intro l; rfl
  | cons e r ih =>
    intro l
    show (fillC (l.set e.1 (sg e.2)) r).length = _
    rw [ih, List.length_set]
theorem fillC_no {q : Nat} : ∀ (r : Row) (l : List V), (∀ e ∈ r, e.1 ≠ q) → (fillC l r)[q]? = l[q]? := by
  intro r
  induction r with
  | nil => intro l _; rfl
  | cons e r ih =>
    intro l h
    show (fillC (l.set e.1 (sg e.2)) r)[q]? = _
    rw [ih _ fun x hx => h x (List.mem_cons_of_mem _ hx), List.getElem?_set_ne (h e List.mem_cons_self)]
theorem fillC_at {q : Nat} : ∀ (r : Row) (l : List V), (r.map (·.1)).Nodup → q < l.length → (∃ e ∈ r, e.1 = q) → (fillC l r)[q]? = some (sg (colOf r q)) := by
  intro r
  induction r with
  | nil =>
    intro l _ _ h
    obtain ⟨e, he, _⟩ := h
    cases he
  | cons e r ih =>
    intro l nd hl h
    have nd' := List.nodup_cons.mp (show (e.1 :: r.map (·.1)).Nodup from nd)
    show (fillC (l.set e.1 (sg e.2)) r)[q]? = _
    by_cases c : e.1 = q
    · rw [fillC_no r _ fun x hx z => nd'.1 (by rw [c, ← z]; exact List.mem_map_of_mem (f := (·.1)) hx), c, List.getElem?_set_self hl]
      unfold colOf
      rw [List.find?_cons_of_pos (by simpa using c)]
      rfl
    · rw [ih _ nd'.2 (by rw [List.length_set]; exact hl) ?_]
      · unfold colOf
        rw [List.find?_cons_of_neg (by simpa using c)]
      · obtain ⟨x, hx, hq⟩ := h
        rcases List.mem_cons.mp hx with z | z
        · exact absurd (z ▸ hq) c
        · exact ⟨x, z, hq⟩
def byPerson (r : Row) : List V := (List.range r.length).map fun q => sg (colOf r q)
theorem fillC_is {r : Row} (h : Vr r) {x : V} : fillC (List.replicate r.length x) r = byPerson r := by
  apply List.ext_getElem?
  intro q
  unfold byPerson
  rw [List.getElem?_map]
  by_cases c : q < r.length
  · rw [fillC_at r _ h.nodup (by rw [List.length_replicate]; exact c) (h.has c), List.getElem?_range c]
    rfl
  · rw [List.getElem?_eq_none (by rw [fillC_len, List.length_replicate]; omega), List.getElem?_eq_none (by rw [List.length_range]; omega)]
    rfl
def app (r : Row) (p : Nat) : Row := (p, (fo r (colOf r p)).getD (colOf r p)) :: r.filter fun e => e.1 != p
theorem flat_rep {α : Type} (x : α) : ∀ n : Nat, (List.replicate n [x]).flatten = List.replicate n x
  | 0 => rfl
  | n + 1 => by
    rw [List.replicate_succ, List.flatten_cons, flat_rep x n]
    rfl
theorem fillC_snoc (l : List V) (r : Row) (e : Nat × Nat) : fillC l (r ++ [e]) = (fillC l r).set e.1 (sg e.2) := by
  unfold fillC
  rw [List.foldl_append]
  rfl
theorem take_of {α : Type} {l : List α} {i : Nat} {x : α} (h : l[i]? = some x) : l.take (i + 1) = l.take i ++ [x] := by
  rw [List.take_add_one, h]
  rfl
theorem ixN_nat {n j : Nat} (h : j < n) : ixN n (j : Int) = some j := by
  unfold ixN
  rw [if_pos (by omega), if_pos (by omega)]
  simp
theorem sz60 {n : Nat} (h : n ≤ 60) : n ≤ sizeLine := Nat.le_trans h (by decide)
theorem getElem?_mem {α : Type} {l : List α} {i : Nat} {x : α} (h : l[i]? = some x) : x ∈ l := List.mem_of_getElem? h
/-! ### data -/
theorem dp_ints {K : PySem.W.Frag} {H : Hp} : ∀ ns : List Int, DpAll K H (ns.map V.int) (ns.map PyData.int)
  | [] => .nil
  | n :: ns => .cons (.int n) (dp_ints ns)
theorem lay_ints : ∀ ns : List Int, PyData.canLayAll0 (ns.map PyData.int) = true
  | [] => by simp only [List.map_nil, PyData.canLayAll0]
  | n :: ns => by
    simp only [List.map_cons, PyData.canLayAll0, PyData.canLay0, Bool.true_and]
    exact lay_ints ns
theorem dep_ints : ∀ ns : List Int, PyData.depthAll (ns.map PyData.int) = 0
  | [] => by simp only [List.map_nil, PyData.depthAll]
  | n :: ns => by
    simp only [List.map_cons, PyData.depthAll, PyData.depth]
    rw [dep_ints ns]
    rfl
abbrev dI (ns : List Int) : PyData := .list (ns.map PyData.int)
theorem shp_ints (ns : List Int) : SeqAt.shaped (dI ns) = true := by
  refine Bool.and_eq_true_iff.mpr ⟨?_, decide_eq_true ?_⟩
  · simp only [PyData.canLay0]
    exact lay_ints ns
  · simp only [PyData.depth]
    rw [dep_ints]
    decide
/-- a row as data -/
abbrev dE (e : Nat × Nat) : PyData := .tuple [.int (e.1 : Int), .str ⟨#[e.2]⟩]
abbrev dR (r : Row) : PyData := .list (r.map dE)
theorem dp_tups {K : PySem.W.Frag} {H : Hp} : ∀ {ts : List Addr} {r : Row}, TupsAt H ts r → DpAll K H (ts.map V.ref) (r.map dE)
  | [], [], _ => .nil
  | _ :: ts, e :: r, h => .cons (.tup (SqT.of h.1) (.cons (.int _) (.cons (.str _) .nil))) (dp_tups (ts := ts) (r := r) h.2)
  | [], _ :: _, h => h.elim
  | _ :: _, [], h => h.elim
theorem RowAt.dp {K : PySem.W.Frag} {H : Hp} {a : Addr} {r : Row} (h : RowAt H a r) : Dp K H (.ref a) (dR r) :=
  let ⟨_, h1, h2⟩ := h
  .lst (SqL.of h1) (dp_tups h2)
def Cok (r : Row) : Prop := ∀ e ∈ r, 97 ≤ e.2 ∧ e.2 ≤ 122
theorem str_ok {c : Nat} (h : c ≤ 122) : PyData.strOk ⟨#[c]⟩ = true := by
  show (#[c] : Array Nat).all (· < 0x110000) = true
  simp
  omega
theorem lay_row : ∀ r : Row, Cok r → PyData.canLayAll0 (r.map dE) = true ∧ PyData.depthAll (r.map dE) ≤ 1
  | [], _ => by
    simp only [List.map_nil, PyData.canLayAll0, PyData.depthAll]
    exact ⟨trivial, Nat.zero_le _⟩
  | e :: r, h => by
    obtain ⟨h1, h2⟩ := lay_row r fun x hx => h x (List.mem_cons_of_mem _ hx)
    simp only [List.map_cons, PyData.canLayAll0, PyData.canLay0, PyData.depthAll, PyData.depth, Bool.true_and, Bool.and_true]
    rw [h1, str_ok (h e List.mem_cons_self).2]
    refine ⟨rfl, ?_⟩
    omega
theorem shp_row (r : Row) (h : Cok r) : SeqAt.shaped (dR r) = true := by
  obtain ⟨h1, h2⟩ := lay_row r h
  refine Bool.and_eq_true_iff.mpr ⟨?_, decide_eq_true ?_⟩
  · simp only [PyData.canLay0]
    exact h1
  · simp only [PyData.depth]
    omega
theorem shp_ent (e : Nat × Nat) (h : e.2 ≤ 122) : SeqAt.shaped (dE e) = true := by
  refine Bool.and_eq_true_iff.mpr ⟨?_, decide_eq_true ?_⟩
  · simp only [PyData.canLay0, PyData.canLayAll0, Bool.true_and, Bool.and_true]
    exact str_ok h
  · simp only [PyData.depth, PyData.depthAll]
    decide
section
variable {σ : St} {H : Hp} {Q : VK} {v x y : V} {K : PySem.W.Frag} {ta te : TE} {D : Ends} {g : TG} {tb : TS}
theorem rd_eqD {d : PyData} (h1 : Dp K H x d) (h2 : Dp K H y d) (s : SeqAt.shaped d = true) (q : Q (.bl true) H) : rEqD K x y H Q :=
  ⟨d, d, h1, h2, s, s, by rw [SeqAt.eqv_refl d (SeqAt.canLay_of_shaped s)]; exact q⟩
theorem rd_neD {d : PyData} (h1 : Dp K H x d) (h2 : Dp K H y d) (s : SeqAt.shaped d = true) (q : Q (.bl false) H) : rNeD K x y H Q :=
  ⟨d, d, h1, h2, s, s, by rw [SeqAt.eqv_refl d (SeqAt.canLay_of_shaped s)]; exact q⟩
theorem rd_eqD2 {d e : PyData} (h1 : Dp K H x d) (h2 : Dp K H y e) (s : SeqAt.shaped d = true) (s2 : SeqAt.shaped e = true) {b : Bool} (hb : PyData.eqv d e = b) (q : Q (.bl b) H) : rEqD K x y H Q :=
  ⟨d, e, h1, h2, s, s2, by rw [hb]; exact q⟩
theorem rd_neD2 {d e : PyData} (h1 : Dp K H x d) (h2 : Dp K H y e) (s : SeqAt.shaped d = true) (s2 : SeqAt.shaped e = true) {b : Bool} (hb : PyData.eqv d e = b) (q : Q (.bl (!b)) H) : rNeD K x y H Q :=
  ⟨d, e, h1, h2, s, s2, by rw [hb]; exact q⟩
theorem rd_tyes {R : Bool → Hp → Prop} (q : R true H) : tYes σ H R := q
theorem rd_lstRg {tr : St → Hp → (Int → Int → Hp → Prop) → Prop} (q : tr σ H fun a b H1 => RgOk a b ∧ ∀ q, H1 q = none → Q (.ref q) (upd H1 q (.lst (rgV a b)))) : tLstRg tr σ H Q := q
theorem rd_rg1 {R : Int → Int → Hp → Prop} (q : ta σ H fun x H1 => ∃ n, x = .int n ∧ R 0 n H1) : tRg1 ta σ H R := q
theorem rd_tyL {p : Addr} {xs : List V} (h : H p = some (.lst xs)) (q : Q (.ty "list") H) : r1 kTyp [.ref p] H Q :=
  ⟨"list", by show (match H p with | some (.lst _) => _ | some (.tup _) => _ | _ => _) = _; rw [h], q⟩
theorem rd_tyT {p : Addr} {xs : List V} (h : H p = some (.tup xs)) (q : Q (.ty "tuple") H) : r1 kTyp [.ref p] H Q :=
  ⟨"tuple", by show (match H p with | some (.lst _) => _ | some (.tup _) => _ | _ => _) = _; rw [h], q⟩
end
abbrev pI (r : Row) : List Int := r.map fun e => (e.1 : Int)
theorem pI_map (r : Row) : (pI r).map V.int = r.map fun e => V.int (e.1 : Int) := by
  show (r.map _).map _ = _
  rw [List.map_map]
  rfl
abbrev rI' (n : Nat) : List Int := (List.range n).map fun i : Nat => (i : Int)
theorem rgV_is (n : Nat) : rgV 0 (n : Int) = (rI' n).map V.int := by
  unfold rgV
  rw [List.map_map, show ((n : Int) - 0).toNat = n by omega]
  apply List.map_congr_left
  intro i _
  show V.int (0 + (i : Int)) = V.int (i : Int)
  rw [Int.zero_add]
theorem sorted_is {r : Row} (h : Vr r) {ns : List Int} (hp : ns.Perm (pI r)) (hs : ns.Pairwise (· ≤ ·)) : ns = rI' r.length := by
  have h1 : (pI r).Perm (rI' r.length) := by
    have q := h.perm.map fun i : Nat => (i : Int)
    rw [List.map_map] at q
    exact q
  have h2 : (rI' r.length).Pairwise (· ≤ ·) := by
    refine List.pairwise_map.mpr (List.pairwise_lt_range.imp fun {a b} k => ?_)
    omega
  exact List.Perm.eq_of_pairwise (fun a b _ _ x y => Int.le_antisymm x y) hs h2 (hp.trans h1)
theorem lt60 {n : Nat} (h : n ≤ 60) : n < sizeLine := Nat.lt_of_le_of_lt h (by decide)
abbrev vN (p : Nat) : V := .int (p : Int)
/-! ### a call keeps a row a row -/
theorem byPerson_at {r : Row} {p : Nat} (h : p < r.length) : (byPerson r)[p]? = some (sg (colOf r p)) := by
  unfold byPerson
  rw [List.getElem?_map, List.getElem?_range h]
  rfl
def takenEach (r : Row) : List V := (List.range r.length).map fun q => oV (fo r (colOf r q))
theorem takenEach_at {r : Row} {p : Nat} (h : p < r.length) : (takenEach r)[p]? = some (oV (fo r (colOf r p))) := by
  unfold takenEach
  rw [List.getElem?_map, List.getElem?_range h]
  rfl
theorem fo_mem {r : Row} {c d : Nat} (h : fo r c = some d) : ∃ e ∈ r, e.2 = d ∧ d ≠ c := by
  unfold fo at h
  obtain ⟨e, h1, h2⟩ := Option.map_eq_some_iff.mp h
  have h3 := List.find?_some h1
  refine ⟨e, List.mem_of_find?_eq_some h1, h2, ?_⟩
  rw [← h2]
  simpa using h3
theorem colOf_mem {r : Row} {p : Nat} (h : ∃ e ∈ r, e.1 = p) : (p, colOf r p) ∈ r := by
  unfold colOf
  cases q : r.find? fun e => e.1 == p with
  | none =>
    obtain ⟨e, h1, h2⟩ := h
    have := List.find?_eq_none.mp q e h1
    exact absurd (by simpa using h2) this
  | some e =>
    have h1 := List.mem_of_find?_eq_some q
    have h2 : e.1 = p := by simpa using List.find?_some q
    show (p, e.2) ∈ r
    rw [← h2]
    exact h1
theorem perm_out {p : Nat} : ∀ {r : Row}, (r.map (·.1)).Nodup → (∃ e ∈ r, e.1 = p) → (p :: (r.filter fun e => e.1 != p).map (·.1)).Perm (r.map (·.1))
  | [], _, h => by
    obtain ⟨e, he, _⟩ := h
    cases he
  | e :: r, nd, h => by
    have nd' := List.nodup_cons.mp (show (e.1 :: r.map (·.1)).Nodup from nd)
    by_cases c : e.1 = p
    · rw [List.filter_cons_of_neg (by simpa using c)]
      have e2 : (r.filter fun e => e.1 != p) = r := by
        apply List.filter_eq_self.mpr
        intro x hx
        simp only [bne_iff_ne, ne_eq]
        intro z
        exact nd'.1 (by rw [c, ← z]; exact List.mem_map_of_mem (f := (·.1)) hx)
      rw [e2, List.map_cons, c]
    · rw [List.filter_cons_of_pos (by simpa using c), List.map_cons, List.map_cons]
      have h' : ∃ e ∈ r, e.1 = p := by
        obtain ⟨x, hx, hq⟩ := h
        rcases List.mem_cons.mp hx with z | z
        · exact absurd (z ▸ hq) c
        · exact ⟨x, z, hq⟩
      exact (List.Perm.swap _ _ _).trans ((perm_out nd'.2 h').cons _)
theorem app_perm {r : Row} (h : Vr r) {p : Nat} (hp : p < r.length) : ((app r p).map (·.1)).Perm (r.map (·.1)) := perm_out h.nodup (h.has hp)
theorem app_len {r : Row} (h : Vr r) {p : Nat} (hp : p < r.length) : (app r p).length = r.length := by
  have := (app_perm h hp).length_eq
  rw [List.length_map, List.length_map] at this
  exact this
theorem Vr.colOf {r : Row} (h : Vr r) {p : Nat} (hp : p < r.length) : 97 ≤ LX.colOf r p ∧ LX.colOf r p ≤ 122 := h.col _ (colOf_mem (h.has hp))
theorem Vr.fo {r : Row} (h : Vr r) {c d : Nat} (e : LX.fo r c = some d) : 97 ≤ d ∧ d ≤ 122 := by
  obtain ⟨x, h1, h2, _⟩ := fo_mem e
  rw [← h2]
  exact h.col x h1
theorem Vr.app {r : Row} (h : Vr r) {p : Nat} (hp : p < r.length) : Vr (LX.app r p) where
  n1 := by rw [app_len h hp]; exact h.n1
  n2 := by rw [app_len h hp]; exact h.n2
  col := by
    intro e he
    rcases List.mem_cons.mp he with z | z
    · rw [z]
      show 97 ≤ (LX.fo r (LX.colOf r p)).getD (LX.colOf r p) ∧ (LX.fo r (LX.colOf r p)).getD (LX.colOf r p) ≤ 122
      cases q : LX.fo r (LX.colOf r p) with
      | none => exact h.colOf hp
      | some d => exact h.fo q
    · exact h.col e (List.mem_filter.mp z).1
  perm := by rw [app_len h hp]; exact (app_perm h hp).trans h.perm
/-- calls one after the other -/
def apps (r : Row) (cs : List Nat) : Row := cs.foldl app r
theorem apps_snoc (r : Row) (cs : List Nat) (p : Nat) : apps r (cs ++ [p]) = app (apps r cs) p := by
  unfold apps
  rw [List.foldl_append]
  rfl
theorem apps_len {r : Row} (h : Vr r) : ∀ (cs : List Nat), (∀ p ∈ cs, p < r.length) → Vr (apps r cs) ∧ (apps r cs).length = r.length := by
  intro cs
  induction cs generalizing r with
  | nil => intro _; exact ⟨h, rfl⟩
  | cons p cs ih =>
    intro hc
    have hp := hc p List.mem_cons_self
    have := ih (h.app hp) fun q hq => by
      rw [app_len h hp]
      exact hc q (List.mem_cons_of_mem _ hq)
    exact ⟨this.1, this.2.trans (app_len h hp)⟩
theorem oV_none {o : Option Nat} : decide (oV o = V.non) = o.isNone := by
  cases o with
  | none => rfl
  | some c => rfl
theorem sz60' {n : Nat} (h : n ≤ 100) : n ≤ sizeLine := Nat.le_trans h (by decide)
/-! ### the script and its cells -/
theorem cut_ints (ns : List Int) (lo hi : Option Int) : ∃ ms : List Int, cutV (ns.map V.int) lo hi = ms.map V.int ∧ ms.length ≤ ns.length := by
  unfold cutV
  rw [← List.map_drop, ← List.map_take]
  refine ⟨_, rfl, ?_⟩
  rw [List.length_take, List.length_drop]
  omega
theorem eqv_nil (ns : List Int) : PyData.eqv (dI ns) (dI []) = decide (ns = []) := by
  cases ns with
  | nil => rfl
  | cons n ns => simp [PyData.eqv, PyData.eqvAll]
theorem rd_cut {t u : TS} {D : Ends} {σ : St} {H : Hp} (M : St → Hp → Prop) (h : t { D with nx := M } σ H) (k : ∀ σ' H', M σ' H' → u D σ' H') : Evl.tCut t u D σ H := ⟨M, h, k⟩
theorem rd_bool {H : Hp} {b : Bool} {R : Int → Prop} {Q : VK} (q : Q (.int (if b then 1 else 0)) H) : (∃ i, [V.bl b] = [V.int i] ∧ Q (.int i) H) ∨ ∃ k, [V.bl b] = [V.bl k] ∧ Q (.int (if k then 1 else 0)) H := Or.inr ⟨b, rfl, q⟩
theorem Same'.of {p : Addr} {H H' : Hp} (h : ∀ b, b ≠ p → H' b = H b) : Same' p H H' := fun b o e n => by rw [h b n]; exact e
theorem Same'.free {p q : Addr} {H H' : Hp} (s : Same' p H H') (h : H' q = none) (n : q ≠ p) : H q = none := by
  cases e : H q with
  | none => rfl
  | some o =>
    rw [s q o e n] at h
    cases h
theorem Src.not_none {H : Hp} {p q : Addr} (h : Src H p) (hq : H q = none) : q ≠ p := fun e => by
  obtain ⟨xs, h1⟩ := h.lst
  rw [e, h1] at hq
  cases hq
/-- the script: locked, or an object of the module -/
def Scr (K : PySem.W.Frag) (H : Hp) (l : Addr) (ns : List Int) : Prop := (∃ o, H l = some (.frz o (.lst (ns.map V.int)))) ∨ ∀ H', SqL K H' l (ns.map V.int)
theorem Scr.of {K : PySem.W.Frag} {H : Hp} {l : Addr} {ns : List Int} (hO : Only H) (h : SqL K H l (ns.map V.int)) : Scr K H l ns := by
  rcases h with (h | ⟨o, h⟩) | h
  · rcases hO l with z | ⟨o, xs, z⟩
    · rw [h] at z
      cases z
    · rw [h] at z
      cases z
  · exact Or.inl ⟨o, h⟩
  · exact Or.inr fun H' => Or.inr h
theorem Scr.seq {K : PySem.W.Frag} {H : Hp} {l : Addr} {ns : List Int} (h : Scr K H l ns) : SqL K H l (ns.map V.int) := by
  rcases h with ⟨o, h⟩ | h
  · exact Or.inl (Or.inr ⟨o, h⟩)
  · exact h H
theorem Scr.same {K : PySem.W.Frag} {H H' : Hp} {l : Addr} {ns : List Int} (h : Scr K H l ns) (s : Same H H') : Scr K H' l ns := by
  rcases h with ⟨o, h⟩ | h
  · exact Or.inl ⟨o, s _ _ h⟩
  · exact Or.inr h
theorem Scr.same' {K : PySem.W.Frag} {H H' : Hp} {l p : Addr} {ns : List Int} (h : Scr K H l ns) (s : Same' p H H') (hp : ∃ xs, H p = some (.lst xs)) : Scr K H' l ns := by
  rcases h with ⟨o, h⟩ | h
  · refine Or.inl ⟨o, s _ _ h fun e => ?_⟩
    obtain ⟨xs, hx⟩ := hp
    rw [e, hx] at h
    cases h
  · exact Or.inr h
theorem seqIx {n j : Nat} (h : j < n) : PySem.seqIndex? (j : Int) n = some j := by
  show (if (decide (0 ≤ if (j : Int) < 0 then (j : Int) + n else j) && decide ((if (j : Int) < 0 then (j : Int) + n else j) < (n : Int))) = true then some (if (j : Int) < 0 then (j : Int) + n else j).toNat else none) = some j
  have e : (if (j : Int) < 0 then (j : Int) + n else (j : Int)) = (j : Int) := if_neg (by omega)
  rw [e, if_pos (by rw [decide_eq_true (show (0 : Int) ≤ j by omega), decide_eq_true (show (j : Int) < n by omega)]; rfl)]
  simp
theorem erase_map {α β : Type} (f : α → β) : ∀ (l : List α) (j : Nat), (l.map f).eraseIdx j = (l.eraseIdx j).map f
  | [], _ => rfl
  | x :: l, 0 => rfl
  | x :: l, j + 1 => by
    show f x :: (l.map f).eraseIdx j = f x :: (l.eraseIdx j).map f
    rw [erase_map f l j]
theorem erase_perm {α : Type} : ∀ {l : List α} {j : Nat} {x : α}, l[j]? = some x → (x :: l.eraseIdx j).Perm l
  | [], j, x, h => by simp at h
  | y :: l, 0, x, h => by
    have e : y = x := Option.some.inj h
    rw [e]
    exact List.Perm.refl _
  | y :: l, j + 1, x, h => by
    have ih := erase_perm (l := l) (j := j) (x := x) (by simpa using h)
    exact (List.Perm.swap _ _ _).trans (ih.cons _)
theorem abc_at : ∀ m : Nat, m < 26 → atI (Str.ofString "abcdefghijklmnopqrstuvwxyz").cps.toList (m : Int) = some (97 + m) := by
  decide +kernel
theorem abc_len : (Str.ofString "abcdefghijklmnopqrstuvwxyz").length ≤ sizeLine := by
  have e : (Str.ofString "abcdefghijklmnopqrstuvwxyz").length = 26 := by decide +kernel
  rw [e]
  decide
theorem Same'.tups {p : Addr} {H H' : Hp} (s : Same' p H H') {xs : List V} (hp : H p = some (.lst xs)) : ∀ b ys, H b = some (.tup ys) → H' b = some (.tup ys) := fun b ys e => s b _ e fun q => by
  rw [q, hp] at e
  cases e
/-- a row that is being drawn -/
structure Drw (H : Hp) (D q p : Addr) (n i : Nat) (H0 : Hp) : Prop where
  ex : ∃ (us : List Addr) (rr : Row) (ls : List Nat), H D = some (.lst (us.map V.ref)) ∧ H q = some (.lst (ls.map vN)) ∧ TupsAt H us rr ∧ rr.length = i ∧ (rr.map (·.1) ++ ls).Perm (List.range n) ∧ Cok rr
  src : Src H p
  same : Same' p H0 H
theorem drw_end {H H0 : Hp} {D q p : Addr} {n : Nat} (h : Drw H D q p n n H0) (n1 : 1 ≤ n) (n2 : n ≤ 60) : ∃ r, RowAt H D r ∧ Vr r := by
  obtain ⟨us, rr, ls, h1, h2, h3, h4, h5, h6⟩ := h.ex
  have e := h5.length_eq
  rw [List.length_append, List.length_map, List.length_range] at e
  have : ls = [] := List.length_eq_zero_iff.mp (by omega)
  rw [this, List.append_nil] at h5
  exact ⟨rr, ⟨us, h1, h3⟩, ⟨by omega, by omega, h6, by rw [h4]; exact h5⟩⟩
theorem pick4 (a b c d : Int) {j : Int} (h0 : 0 ≤ j) (h1 : j < 4) : ∃ x : Int, atI [V.int a, V.int b, V.int c, V.int d] j = some (.int x) ∧ (x = a ∨ x = b ∨ x = c ∨ x = d) := by
  have : j = 0 ∨ j = 1 ∨ j = 2 ∨ j = 3 := by omega
  rcases this with e | e | e | e
  · subst e
    exact ⟨a, rfl, Or.inl rfl⟩
  · subst e
    exact ⟨b, rfl, Or.inr (Or.inl rfl)⟩
  · subst e
    exact ⟨c, rfl, Or.inr (Or.inr (Or.inl rfl))⟩
  · subst e
    exact ⟨d, rfl, Or.inr (Or.inr (Or.inr rfl))⟩
theorem rgV_nat {z : Int} (h : 0 ≤ z) : rgV 0 z = (List.range z.toNat).map vN := by
  have e : z = (z.toNat : Int) := by omega
  rw [e, rgV_is, List.map_map]
  rfl
theorem rd_ifV {σ : St} {H : Hp} {Q : VK} {v : V} {t : TT} {ta tb : TE} (b : Bool) (ht : ∀ R : Bool → Hp → Prop, R b H → t σ H R) (ha : b = true → ∀ R : VK, R v H → ta σ H R) (hb : b = false → ∀ R : VK, R v H → tb σ H R) (q : Q v H) : tIf t ta tb σ H Q := by
  refine ht _ ?_
  cases b with
  | true => exact ha rfl _ q
  | false => exact hb rfl _ q
theorem scal_oV (x y : Option Nat) : scal (oV x) (oV y) = true := by
  cases x <;> cases y <;> rfl
theorem oV_inj {x y : Option Nat} (h : oV x = oV y) : x = y := by
  cases x with
  | none =>
    cases y with
    | none => rfl
    | some b => cases h
  | some a =>
    cases y with
    | none => cases h
    | some b =>
      injection h with h
      injection h with h
      injection h with h
      injection h with h
      rw [h]
theorem sg_inj {x y : Nat} (h : sg x = sg y) : x = y := by
  have := oV_inj (x := some x) (y := some y) h
  exact Option.some.inj this
theorem sIx_nat (n d : Nat) (k : Nat) (h : k ≤ n) : HT.sIx n d (some (k : Int)) = k := by
  rw [HT.sIx_nat]
  omega
theorem cut_take (xs : List V) (k : Nat) (h : k ≤ xs.length) : cutV xs none (some (k : Int)) = xs.take k := by
  unfold cutV
  rw [sIx_nat _ _ _ h]
  have e : HT.sIx xs.length 0 none = 0 := rfl
  rw [e]
  rfl
theorem cut_drop (xs : List V) (k : Nat) (h : k ≤ xs.length) : cutV xs (some (k : Int)) none = xs.drop k := by
  unfold cutV
  rw [sIx_nat _ _ _ h]
  have e : HT.sIx xs.length xs.length none = xs.length := rfl
  rw [e]
  apply List.take_of_length_le
  rw [List.length_drop]
  omega
theorem at_last {α : Type} {l : List α} (h : 0 < l.length) : ∃ x ∈ l, atI l (-1) = some x := by
  have h2 : l.length - 1 < l.length := by omega
  refine ⟨l[l.length - 1], List.getElem_mem h2, ?_⟩
  unfold atI ixN
  rw [if_neg (by omega), if_pos (by omega)]
  show l[((-1 : Int) + l.length).toNat]? = _
  rw [show ((-1 : Int) + l.length).toNat = l.length - 1 by omega]
  exact List.getElem?_eq_getElem h2
theorem pick3 (a b c : Nat) {j : Int} (h0 : 0 ≤ j) (h1 : j < 3) : ∃ x : Nat, atI [sg a, sg b, sg c] j = some (sg x) ∧ (x = a ∨ x = b ∨ x = c) := by
  have : j = 0 ∨ j = 1 ∨ j = 2 := by omega
  rcases this with e | e | e
  · subst e
    exact ⟨a, rfl, Or.inl rfl⟩
  · subst e
    exact ⟨b, rfl, Or.inr (Or.inl rfl)⟩
  · subst e
    exact ⟨c, rfl, Or.inr (Or.inr rfl)⟩
theorem rd_forL {K : PySem.W.Frag} {σ : St} {H : Hp} {tl : TE} {g : TG} {tb : TS} {D : Ends} (M : Addr → Hp → Prop) (h1 : ∀ R : VK, (∀ b H1, M b H1 → R (.ref b) H1) → tl σ H R)
    (h2 : ∀ b H1, M b H1 → (∃ xs, SqL K H1 b xs) ∧ ∃ W : Nat → Nat → St → Hp → Prop, (∃ m, W 0 m σ H1) ∧ ∀ i m σ H, W i m σ H →
      ((Itl K b).stop i H ∧ D.nx σ H) ∨ ((Itl K b).go i H ∧ ∃ N : St → Hp → Prop, (∀ σ' H', N σ' H' → ∃ m', m' < m ∧ W (i + 1) m' σ' H') ∧ ∀ x H', (Itl K b).yld i H x H' → g x σ H' fun σ2 H2 => tb { D with nx := N, ct := N, bk := D.nx } σ2 H2)) :
    tFor (iList K tl) g tb D σ H := h1 _ fun b H1 m => ⟨b, rfl, (h2 b H1 m).1, (h2 b H1 m).2⟩
theorem cut_tail (xs : List V) : cutV xs (some 1) none = xs.drop 1 := by
  by_cases h : 1 ≤ xs.length
  · exact cut_drop xs 1 h
  · have e : xs = [] := List.length_eq_zero_iff.mp (by omega)
    rw [e]
    rfl
theorem rd_in {neg : Bool} {K : PySem.W.Frag} {H : Hp} {Q : VK} {x : V} {p : Addr} {xs : List V} {b : Bool} (h : H p = some (.lst xs)) (f : flatV x = true) (fs : xs.all flatV = true) (hb : inV x xs = b) (q : Q (.bl (if neg then !b else b)) H) : rIn K neg x (.ref p) H Q :=
  ⟨p, xs, rfl, Or.inl (SqL.of h), f, fs, by rw [hb]; exact q⟩
theorem rd_notin {K : PySem.W.Frag} {H : Hp} {Q : VK} {x : V} {p : Addr} {xs : List V} {b : Bool} (h : H p = some (.lst xs)) (f : flatV x = true) (fs : xs.all flatV = true) (hb : inV x xs = b) (q : Q (.bl (!b)) H) : rIn K true x (.ref p) H Q :=
  rd_in h f fs hb q
theorem rd_isin {K : PySem.W.Frag} {H : Hp} {Q : VK} {x : V} {p : Addr} {xs : List V} {b : Bool} (h : H p = some (.lst xs)) (f : flatV x = true) (fs : xs.all flatV = true) (hb : inV x xs = b) (q : Q (.bl b) H) : rIn K false x (.ref p) H Q :=
  rd_in h f fs hb q
theorem rd_forR {σ : St} {H : Hp} {ta : TA} {n : Int} {g : TG} {tb : TS} {D : Ends} (M : Hp → Prop) (h1 : ∀ R : List V → Hp → Prop, (∀ H1, M H1 → R [.int n] H1) → ta σ H R) (n0 : 0 ≤ n) (n1 : n ≤ 100000)
    (h2 : ∀ H1, M H1 → ∃ W : Nat → Nat → St → Hp → Prop, (∃ m, W 0 m σ H1) ∧ ∀ i m σ H, W i m σ H →
      ((Itr 0 n.toNat).stop i H ∧ D.nx σ H) ∨ ((Itr 0 n.toNat).go i H ∧ ∃ N : St → Hp → Prop, (∀ σ' H', N σ' H' → ∃ m', m' < m ∧ W (i + 1) m' σ' H') ∧ ∀ x H', (Itr 0 n.toNat).yld i H x H' → g x σ H' fun σ2 H2 => tb { D with nx := N, ct := N, bk := D.nx } σ2 H2)) :
    tFor (iRng1 ta) g tb D σ H := h1 _ fun H1 m => ⟨n, rfl, by omega, by omega, h2 H1 m⟩
theorem rd_forRn {σ : St} {H : Hp} {ta : TA} {g : TG} {tb : TS} {D : Ends} (M : Int → Hp → Prop) (h1 : ∀ R : List V → Hp → Prop, (∀ n H1, M n H1 → R [.int n] H1) → ta σ H R)
    (h2 : ∀ n H1, M n H1 → 0 ≤ n ∧ n ≤ 100000 ∧ ∃ W : Nat → Nat → St → Hp → Prop, (∃ m, W 0 m σ H1) ∧ ∀ i m σ H, W i m σ H →
      ((Itr 0 n.toNat).stop i H ∧ D.nx σ H) ∨ ((Itr 0 n.toNat).go i H ∧ ∃ N : St → Hp → Prop, (∀ σ' H', N σ' H' → ∃ m', m' < m ∧ W (i + 1) m' σ' H') ∧ ∀ x H', (Itr 0 n.toNat).yld i H x H' → g x σ H' fun σ2 H2 => tb { D with nx := N, ct := N, bk := D.nx } σ2 H2)) :
    tFor (iRng1 ta) g tb D σ H := h1 _ fun n H1 m => ⟨n, rfl, by have := (h2 n H1 m).1; omega, by have := (h2 n H1 m).2.1; omega, (h2 n H1 m).2.2⟩
/-! ### what calls take, runs -/
def takens : Row → List Nat → List (Option Nat)
  | _, [] => []
  | r, p :: cs => fo r (colOf r p) :: takens (app r p) cs
theorem takens_snoc : ∀ (r : Row) (cs : List Nat) (p : Nat), takens r (cs ++ [p]) = takens r cs ++ [fo (apps r cs) (colOf (apps r cs) p)]
  | _, [], _ => rfl
  | r, q :: cs, p => by
    show fo r (colOf r q) :: takens (app r q) (cs ++ [p]) = fo r (colOf r q) :: (takens (app r q) cs ++ [_])
    rw [takens_snoc (app r q) cs p]
    rfl
theorem takens_len : ∀ (r : Row) (cs : List Nat), (takens r cs).length = cs.length
  | _, [] => rfl
  | r, p :: cs => congrArg (· + 1) (takens_len (app r p) cs)
/-- the last run grows, or a new one begins -/
def rsnoc (acc : List (Int × Nat)) (x : Int) : List (Int × Nat) :=
  match acc.getLast? with
  | some (y, k) => if y = x then acc.set (acc.length - 1) (x, k + 1) else acc ++ [(x, 1)]
  | none => acc ++ [(x, 1)]
def runsI (cs : List Int) : List (Int × Nat) := cs.foldl rsnoc []
theorem runsI_snoc (cs : List Int) (x : Int) : runsI (cs ++ [x]) = rsnoc (runsI cs) x := by
  unfold runsI
  rw [List.foldl_append]
  rfl
theorem rsnoc_len (acc : List (Int × Nat)) (x : Int) : (rsnoc acc x).length ≤ acc.length + 1 := by
  unfold rsnoc
  split
  · split
    · rw [List.length_set]
      omega
    · rw [List.length_append]
      simp
  · rw [List.length_append]
    simp
theorem runs_fold_len : ∀ (cs : List Int) (acc : List (Int × Nat)), (cs.foldl rsnoc acc).length ≤ acc.length + cs.length
  | [], acc => Nat.le_refl _
  | x :: cs, acc => by
    have h1 := runs_fold_len cs (rsnoc acc x)
    have h2 := rsnoc_len acc x
    show (cs.foldl rsnoc (rsnoc acc x)).length ≤ acc.length + (cs.length + 1)
    omega
theorem runsI_len (cs : List Int) : (runsI cs).length ≤ cs.length := by
  have := runs_fold_len cs []
  have e : ([] : List (Int × Nat)).length = 0 := rfl
  rw [e] at this
  unfold runsI
  omega
def shortR (rs : List (Int × Nat)) : List Int := rs.flatMap fun e => List.replicate (if e.2 % 2 = 1 then 1 else 2) e.1
def short (cs : List Int) : List Int := shortR (runsI cs)
theorem shortR_snoc (rs : List (Int × Nat)) (e : Int × Nat) : shortR (rs ++ [e]) = shortR rs ++ List.replicate (if e.2 % 2 = 1 then 1 else 2) e.1 := by
  unfold shortR
  rw [List.flatMap_append, List.flatMap_cons, List.flatMap_nil, List.append_nil]
theorem shortR_len (rs : List (Int × Nat)) : (shortR rs).length ≤ 2 * rs.length := by
  induction rs with
  | nil => exact Nat.le_refl _
  | cons e rs ih =>
    unfold shortR at ih ⊢
    rw [List.flatMap_cons, List.length_append, List.length_replicate, List.length_cons]
    split <;> omega
abbrev prI (e : Int × Nat) : List V := [.int e.1, .int (e.2 : Int)]
/-- tuples of two ints -/
def PairsAt (H : Hp) : List Addr → List (Int × Nat) → Prop
  | [], [] => True
  | t :: ts, e :: r => H t = some (.tup (prI e)) ∧ PairsAt H ts r
  | _, _ => False
theorem PairsAt.len {H : Hp} : ∀ {ts : List Addr} {r : List (Int × Nat)}, PairsAt H ts r → ts.length = r.length
  | [], [], _ => rfl
  | _ :: ts, _ :: r, h => congrArg (· + 1) (PairsAt.len (ts := ts) (r := r) h.2)
  | [], _ :: _, h => h.elim
  | _ :: _, [], h => h.elim
theorem PairsAt.mono {H H' : Hp} : ∀ {ts : List Addr} {r : List (Int × Nat)}, PairsAt H ts r → (∀ b xs, H b = some (.tup xs) → H' b = some (.tup xs)) → PairsAt H' ts r
  | [], [], _, _ => True.intro
  | _ :: ts, _ :: r, h, k => ⟨k _ _ h.1, PairsAt.mono (ts := ts) (r := r) h.2 k⟩
  | [], _ :: _, h, _ => h.elim
  | _ :: _, [], h, _ => h.elim
theorem PairsAt.get {H : Hp} : ∀ {ts : List Addr} {r : List (Int × Nat)} {i : Nat} {t : Addr}, PairsAt H ts r → ts[i]? = some t → ∃ e, r[i]? = some e ∧ H t = some (.tup (prI e))
  | [], [], i, t, _, h => by simp at h
  | _ :: ts, e :: r, 0, t, h, q => by
    simp at q
    subst q
    exact ⟨e, rfl, h.1⟩
  | _ :: ts, _ :: r, i + 1, t, h, q => by
    simp at q
    obtain ⟨e, h1, h2⟩ := PairsAt.get (ts := ts) (r := r) h.2 q
    exact ⟨e, by simpa using h1, h2⟩
  | [], _ :: _, _, _, h, _ => h.elim
  | _ :: _, [], _, _, h, _ => h.elim
theorem PairsAt.snoc {H : Hp} {t : Addr} {e : Int × Nat} (ht : H t = some (.tup (prI e))) : ∀ {ts : List Addr} {r : List (Int × Nat)}, PairsAt H ts r → PairsAt H (ts ++ [t]) (r ++ [e])
  | [], [], _ => ⟨ht, True.intro⟩
  | _ :: ts, _ :: r, h => ⟨h.1, PairsAt.snoc ht (ts := ts) (r := r) h.2⟩
  | [], _ :: _, h => h.elim
  | _ :: _, [], h => h.elim
theorem PairsAt.set {H : Hp} {t : Addr} {e : Int × Nat} (ht : H t = some (.tup (prI e))) : ∀ {ts : List Addr} {r : List (Int × Nat)} (j : Nat), PairsAt H ts r → PairsAt H (ts.set j t) (r.set j e)
  | [], [], _, _ => True.intro
  | _ :: ts, _ :: r, 0, h => ⟨ht, h.2⟩
  | _ :: ts, _ :: r, j + 1, h => ⟨h.1, PairsAt.set ht (ts := ts) (r := r) j h.2⟩
  | [], _ :: _, _, h => h.elim
  | _ :: _, [], _, h => h.elim
theorem PairsAt.last {H : Hp} {ts : List Addr} {r : List (Int × Nat)} (h : PairsAt H ts r) {e : Int × Nat} (he : r.getLast? = some e) : ∃ t, ts[ts.length - 1]? = some t ∧ H t = some (.tup (prI e)) := by
  have hl := h.len
  rw [List.getLast?_eq_getElem?] at he
  have h1 : r.length - 1 < r.length := (List.getElem?_eq_some_iff.mp he).1
  have h2 : ts.length - 1 < ts.length := by omega
  have h3 := List.getElem?_eq_getElem h2
  obtain ⟨e', h4, h5⟩ := h.get h3
  rw [show ts.length - 1 = r.length - 1 by omega, he] at h4
  cases h4
  exact ⟨_, h3, h5⟩
theorem at_neg1 {α : Type} {l : List α} {x : α} (h : l[l.length - 1]? = some x) : atI l (-1) = some x := by
  have h1 := (List.getElem?_eq_some_iff.mp h).1
  unfold atI ixN
  rw [if_neg (by omega), if_pos (by omega)]
  show l[((-1 : Int) + l.length).toNat]? = _
  rw [show ((-1 : Int) + l.length).toNat = l.length - 1 by omega]
  exact h
theorem ix_neg1 {n : Nat} (h : 0 < n) : ixN n (-1) = some (n - 1) := by
  unfold ixN
  rw [if_neg (by omega), if_pos (by omega)]
  congr 1
  omega
theorem rd_truL {K : PySem.W.Frag} {H : Hp} {p : Addr} {xs : List V} {R : Bool → Prop} (h : H p = some (.lst xs)) (q : R (!xs.isEmpty)) : ∃ k, TruV K (.ref p) H k ∧ R k := ⟨_, Or.inl ⟨xs, SqL.of h, rfl⟩, q⟩
theorem rd_qtru {K : PySem.W.Frag} {σ : St} {H : Hp} {ta : TE} {Q : Bool → Hp → Prop} (q : ta σ H fun x H' => ∃ k, TruV K x H' k ∧ Q k H') : qTru K ta σ H Q := q
theorem sz1000 {n : Nat} (h : n ≤ 100000) : n < sizeLine := Nat.lt_of_le_of_lt h (by decide)
/-- a row that is filtered, its entries as they stand -/
theorem filt_turn {H : Hp} {us : List Addr} {r : Row} {i : Nat} {p : Nat × Nat → Bool} {t : Addr} {e : Nat × Nat} (h : TupsAt H us ((r.take i).filter p)) (he : r[i]? = some e) (ht : H t = some (.tup (pr e))) :
    TupsAt H (if p e = true then us ++ [t] else us) ((r.take (i + 1)).filter p) := by
  rw [take_of he, List.filter_append]
  by_cases c : p e = true
  · rw [if_pos c, List.filter_cons_of_pos c]
    exact h.app (TupsAt.one ht)
  · rw [if_neg c, List.filter_cons_of_neg c]
    show TupsAt H us (_ ++ [])
    rw [List.append_nil]
    exact h
/-- what happens to the runs, by the last one -/
theorem rsnoc_grow {acc : List (Int × Nat)} {x : Int} {k : Nat} (h : acc.getLast? = some (x, k)) : rsnoc acc x = acc.set (acc.length - 1) (x, k + 1) := by
  unfold rsnoc
  rw [h]
  show (if x = x then _ else _) = _
  rw [if_pos rfl]
theorem rsnoc_new {acc : List (Int × Nat)} {x y : Int} {k : Nat} (h : acc.getLast? = some (y, k)) (n : y ≠ x) : rsnoc acc x = acc ++ [(x, 1)] := by
  unfold rsnoc
  rw [h]
  show (if y = x then _ else _) = _
  rw [if_neg n]
theorem rsnoc_nil (x : Int) : rsnoc [] x = [(x, 1)] := rfl
theorem last_of_ne {acc : List (Int × Nat)} (h : acc ≠ []) : ∃ e, acc.getLast? = some e := ⟨_, List.getLast?_eq_some_getLast h⟩
theorem rd_iteJ {b : Bool} {σ : St} {H : Hp} {ta tb : TE} {Q : VK} (v : V) (h1 : b = true → ∀ R : VK, R v H → ta σ H R) (h2 : b = false → ∀ R : VK, R v H → tb σ H R) (q : Q v H) : if b = true then ta σ H Q else tb σ H Q := by
  cases b with
  | true => exact iteT (h1 rfl _ q)
  | false => exact iteF (h2 rfl _ q)
end LX

/-! ### comprehensions that add only new objects: the list they make -/
namespace LX
open PySem L2
theorem range_fm {α β : Type} (f : α → Option β) : ∀ l : List α, (List.range l.length).filterMap (fun i => (l[i]?).bind f) = l.filterMap f
  | [] => rfl
  | x :: l => by
    rw [List.length_cons, List.range_succ_eq_map, List.filterMap_cons, List.filterMap_map]
    have ih := range_fm f l
    show (match f x with | none => _ | some b => b :: _) = _
    have e : ((fun i => ((x :: l)[i]?).bind f) ∘ Nat.succ) = fun i => (l[i]?).bind f := rfl
    rw [e, ih]
    cases q : f x with
    | none => rw [List.filterMap_cons_none q]
    | some y => rw [List.filterMap_cons_some q]
section
variable {K : PySem.W.Frag} {a D : Addr} {xs : List V} {g : TG} {tt : TT} {te : TE} {vs : List Nat} {σ : L2.St} {H1 : Hp} {Qd : Hp → Prop}
theorem lc_ix (f : Nat → Option V) (hD : H1 D = none) (ha : ∀ H, Same H1 H → SqL K H a xs) (hz : xs.length ≤ 1000)
    (hs : ∀ i x, xs[i]? = some x → ∀ H, Same H1 H → ∀ (T : V → Hp → Prop) (F : Hp → Prop), (∀ y H', f i = some y → Same H H' → T y H') → (∀ H', f i = none → Same H H' → F H') →
      g x (wipe σ vs) H fun σ2 H2 => wipe σ2 vs = wipe σ vs ∧ tt σ2 H2 fun b H3 => if b = true then te σ2 H3 T else F H3)
    (hd : ∀ H', Same H1 H' → H' D = some (.lst ((List.range xs.length).filterMap f)) → Qd H') :
    ∃ W : Nat → Nat → Hp → Prop, (∃ m, W 0 m (upd H1 D (.lst []))) ∧ ∀ i m H, W i m H →
      ((Itl K a).stop i H ∧ Qd H) ∨ ((Itl K a).go i H ∧ ∃ Nx : Hp → Prop, (∀ H', Nx H' → ∃ m', m' < m ∧ W (i + 1) m' H') ∧ ∀ x H', (Itl K a).yld i H x H' → g x (wipe σ vs) H' fun σ2 H2 => wipe σ2 vs = wipe σ vs ∧ tt σ2 H2 fun b H3 =>
        if b = true then te σ2 H3 fun y H4 => ∃ acc, H4 D = some (.lst acc) ∧ acc.length < sizeLine ∧ Nx (upd H4 D (.lst (acc ++ [y]))) else Nx H3) := by
  refine lc_list (K := K) (a := a) (xs := xs) (fun i H => Same H1 H ∧ H D = some (.lst ((List.range i).filterMap f)) ∧ i ≤ 1000) ⟨sNew hD, upd_same, Nat.zero_le _⟩ (fun i H _ h => ha H h.1) ?_ ?_
  · rintro i x H hi ⟨s, e, hi2⟩
    have hil : i < xs.length := (List.getElem?_eq_some_iff.mp hi).1
    have ln : ((List.range i).filterMap f).length ≤ i := by
      have := List.length_filterMap_le f (List.range i)
      rw [List.length_range] at this
      exact this
    refine hs i x hi H s _ _ (fun y H' hy s2 => ⟨_, s2 _ _ e, small1000 (Nat.le_trans ln hi2), sUpd (s.trans s2) hD, ?_, by omega⟩) fun H' hn s2 => ⟨s.trans s2, ?_, by omega⟩
    · rw [upd_same, List.range_succ, List.filterMap_append, List.filterMap_cons_some hy]
      rfl
    · rw [s2 _ _ e, List.range_succ, List.filterMap_append, List.filterMap_cons_none hn]
      show _ = some (HO.lst (_ ++ []))
      rw [List.append_nil]
  · rintro H ⟨s, e, _⟩
    exact hd H s e
theorem lc_rng {n : Nat} (f : Nat → Option V) (hD : H1 D = none) (hz : n ≤ 1000)
    (hs : ∀ i, i < n → ∀ H, Same H1 H → ∀ (T : V → Hp → Prop) (F : Hp → Prop), (∀ y H', f i = some y → Same H H' → T y H') → (∀ H', f i = none → Same H H' → F H') →
      g (.int (i : Int)) (wipe σ vs) H fun σ2 H2 => wipe σ2 vs = wipe σ vs ∧ tt σ2 H2 fun b H3 => if b = true then te σ2 H3 T else F H3)
    (hd : ∀ H', Same H1 H' → H' D = some (.lst ((List.range n).filterMap f)) → Qd H') :
    ∃ W : Nat → Nat → Hp → Prop, (∃ m, W 0 m (upd H1 D (.lst []))) ∧ ∀ i m H, W i m H →
      ((Itr 0 n).stop i H ∧ Qd H) ∨ ((Itr 0 n).go i H ∧ ∃ Nx : Hp → Prop, (∀ H', Nx H' → ∃ m', m' < m ∧ W (i + 1) m' H') ∧ ∀ x H', (Itr 0 n).yld i H x H' → g x (wipe σ vs) H' fun σ2 H2 => wipe σ2 vs = wipe σ vs ∧ tt σ2 H2 fun b H3 =>
        if b = true then te σ2 H3 fun y H4 => ∃ acc, H4 D = some (.lst acc) ∧ acc.length < sizeLine ∧ Nx (upd H4 D (.lst (acc ++ [y]))) else Nx H3) := by
  refine lc_range (lo := 0) (n := n) (fun i H => Same H1 H ∧ H D = some (.lst ((List.range i).filterMap f)) ∧ i ≤ 1000) ⟨sNew hD, upd_same, Nat.zero_le _⟩ ?_ ?_
  · rintro i H hi ⟨s, e, hi2⟩
    have ln : ((List.range i).filterMap f).length ≤ i := by
      have := List.length_filterMap_le f (List.range i)
      rw [List.length_range] at this
      exact this
    rw [Int.zero_add]
    refine hs i hi H s _ _ (fun y H' hy s2 => ⟨_, s2 _ _ e, small1000 (Nat.le_trans ln hi2), sUpd (s.trans s2) hD, ?_, by omega⟩) fun H' hn s2 => ⟨s.trans s2, ?_, by omega⟩
    · rw [upd_same, List.range_succ, List.filterMap_append, List.filterMap_cons_some hy]
      rfl
    · rw [s2 _ _ e, List.range_succ, List.filterMap_append, List.filterMap_cons_none hn]
      show _ = some (HO.lst (_ ++ []))
      rw [List.append_nil]
  · rintro H ⟨s, e, _⟩
    exact hd H s e
theorem rd_lc {wi : TI} {H : Hp} {Q : VK} (q : wi σ H fun J H1 => ∀ D, H1 D = none → ∃ W : Nat → Nat → Hp → Prop, (∃ m, W 0 m (upd H1 D (.lst []))) ∧ ∀ i m H, W i m H →
  (J.stop i H ∧ Q (.ref D) H) ∨ (J.go i H ∧ ∃ Nx : Hp → Prop, (∀ H', Nx H' → ∃ m', m' < m ∧ W (i + 1) m' H') ∧ ∀ x H', J.yld i H x H' → g x (wipe σ vs) H' fun σ2 H2 => wipe σ2 vs = wipe σ vs ∧ tt σ2 H2 fun b H3 =>
    if b = true then te σ2 H3 fun y H4 => ∃ acc, H4 D = some (.lst acc) ∧ acc.length < sizeLine ∧ Nx (upd H4 D (.lst (acc ++ [y]))) else Nx H3)) : tLc wi g tt te vs σ H Q := q
theorem rd_iR {ta : TA} {H : Hp} {R : It → Hp → Prop} (q : ta σ H fun vs H1 => ∃ j : Int, vs = [.int j] ∧ -(2 ^ 62) ≤ j ∧ j < 2 ^ 62 ∧ R (Itr 0 j.toNat) H1) : iRng1 ta σ H R := q
theorem rd_n {n : Nat} {R : It → Prop} (h : n ≤ 1000) (q : R (Itr 0 n)) : ∃ j : Int, [V.int (n : Int)] = [.int j] ∧ -(2 ^ 62) ≤ j ∧ j < 2 ^ 62 ∧ R (Itr 0 j.toNat) := ⟨n, rfl, by omega, by omega, q⟩
/-- over a list of plain values -/
theorem lc_vals {α : Type} {zs : List α} {v : α → V} (f : α → Option V) (hD : H1 D = none) (ha : H1 a = some (.lst (zs.map v))) (hz : zs.length ≤ 1000)
    (hs : ∀ x, x ∈ zs → ∀ H, Same H1 H → ∀ (T : V → Hp → Prop) (F : Hp → Prop), (∀ y H', f x = some y → Same H H' → T y H') → (∀ H', f x = none → Same H H' → F H') →
      g (v x) (wipe σ vs) H fun σ2 H2 => wipe σ2 vs = wipe σ vs ∧ tt σ2 H2 fun b H3 => if b = true then te σ2 H3 T else F H3)
    (hd : ∀ H', Same H1 H' → H' D = some (.lst (zs.filterMap f)) → Qd H') :
    ∃ W : Nat → Nat → Hp → Prop, (∃ m, W 0 m (upd H1 D (.lst []))) ∧ ∀ i m H, W i m H →
      ((Itl K a).stop i H ∧ Qd H) ∨ ((Itl K a).go i H ∧ ∃ Nx : Hp → Prop, (∀ H', Nx H' → ∃ m', m' < m ∧ W (i + 1) m' H') ∧ ∀ x H', (Itl K a).yld i H x H' → g x (wipe σ vs) H' fun σ2 H2 => wipe σ2 vs = wipe σ vs ∧ tt σ2 H2 fun b H3 =>
        if b = true then te σ2 H3 fun y H4 => ∃ acc, H4 D = some (.lst acc) ∧ acc.length < sizeLine ∧ Nx (upd H4 D (.lst (acc ++ [y]))) else Nx H3) := by
  refine lc_ix (xs := zs.map v) (fun i => (zs[i]?).bind f) hD (fun H s => SqL.of (s _ _ ha)) (by rw [List.length_map]; exact hz) (fun i x hi H s T F hT hF => ?_) fun H' s e => hd H' s ?_
  · rw [List.getElem?_map] at hi
    obtain ⟨z, h1, rfl⟩ := Option.map_eq_some_iff.mp hi
    refine hs z (List.mem_of_getElem? h1) H s T F (fun y H' hy => hT y H' ?_) fun H' hn => hF H' ?_
    · rw [h1]
      exact hy
    · rw [h1]
      exact hn
  · rw [List.length_map, range_fm] at e
    exact e
/-- over a row -/
theorem lc_row {ts : List Addr} {r : Row} (f : Nat × Nat → Option V) (hD : H1 D = none) (ha : H1 a = some (.lst (ts.map V.ref))) (ht : TupsAt H1 ts r) (hz : r.length ≤ 1000)
    (hs : ∀ t e, e ∈ r → t ∈ ts → ∀ H, Same H1 H → H t = some (.tup (pr e)) → ∀ (T : V → Hp → Prop) (F : Hp → Prop), (∀ y H', f e = some y → Same H H' → T y H') → (∀ H', f e = none → Same H H' → F H') →
      g (.ref t) (wipe σ vs) H fun σ2 H2 => wipe σ2 vs = wipe σ vs ∧ tt σ2 H2 fun b H3 => if b = true then te σ2 H3 T else F H3)
    (hd : ∀ H', Same H1 H' → H' D = some (.lst (r.filterMap f)) → Qd H') :
    ∃ W : Nat → Nat → Hp → Prop, (∃ m, W 0 m (upd H1 D (.lst []))) ∧ ∀ i m H, W i m H →
      ((Itl K a).stop i H ∧ Qd H) ∨ ((Itl K a).go i H ∧ ∃ Nx : Hp → Prop, (∀ H', Nx H' → ∃ m', m' < m ∧ W (i + 1) m' H') ∧ ∀ x H', (Itl K a).yld i H x H' → g x (wipe σ vs) H' fun σ2 H2 => wipe σ2 vs = wipe σ vs ∧ tt σ2 H2 fun b H3 =>
        if b = true then te σ2 H3 fun y H4 => ∃ acc, H4 D = some (.lst acc) ∧ acc.length < sizeLine ∧ Nx (upd H4 D (.lst (acc ++ [y]))) else Nx H3) := by
  have hl := ht.len
  refine lc_ix (xs := ts.map V.ref) (fun i => (r[i]?).bind f) hD (fun H s => SqL.of (s _ _ ha)) (by rw [List.length_map, hl]; exact hz) (fun i x hi H s T F hT hF => ?_) fun H' s e => hd H' s ?_
  · rw [List.getElem?_map] at hi
    obtain ⟨t, h1, rfl⟩ := Option.map_eq_some_iff.mp hi
    obtain ⟨e, h2, h3⟩ := ht.get h1
    refine hs t e (List.mem_of_getElem? h2) (List.mem_of_getElem? h1) H s (s _ _ h3) T F (fun y H' hy => hT y H' ?_) fun H' hn => hF H' ?_
    · rw [h2]
      exact hy
    · rw [h2]
      exact hn
  · rw [List.length_map, hl, range_fm] at e
    exact e
/-- over a row, the entries as they stand -/
theorem lc_rowF {ts : List Addr} {r : Row} (p : Nat × Nat → Bool) (hD : H1 D = none) (ha : H1 a = some (.lst (ts.map V.ref))) (ht : TupsAt H1 ts r) (hz : r.length ≤ 1000)
    (hs : ∀ t e, e ∈ r → ∀ H, Same H1 H → H t = some (.tup (pr e)) → ∀ (T : V → Hp → Prop) (F : Hp → Prop), (∀ H', p e = true → Same H H' → T (.ref t) H') → (∀ H', ¬ p e = true → Same H H' → F H') →
      g (.ref t) (wipe σ vs) H fun σ2 H2 => wipe σ2 vs = wipe σ vs ∧ tt σ2 H2 fun b H3 => if b = true then te σ2 H3 T else F H3)
    (hd : ∀ H' us, Same H1 H' → H' D = some (.lst (us.map V.ref)) → TupsAt H' us (r.filter p) → Qd H') :
    ∃ W : Nat → Nat → Hp → Prop, (∃ m, W 0 m (upd H1 D (.lst []))) ∧ ∀ i m H, W i m H →
      ((Itl K a).stop i H ∧ Qd H) ∨ ((Itl K a).go i H ∧ ∃ Nx : Hp → Prop, (∀ H', Nx H' → ∃ m', m' < m ∧ W (i + 1) m' H') ∧ ∀ x H', (Itl K a).yld i H x H' → g x (wipe σ vs) H' fun σ2 H2 => wipe σ2 vs = wipe σ vs ∧ tt σ2 H2 fun b H3 =>
        if b = true then te σ2 H3 fun y H4 => ∃ acc, H4 D = some (.lst acc) ∧ acc.length < sizeLine ∧ Nx (upd H4 D (.lst (acc ++ [y]))) else Nx H3) := by
  have hl := ht.len
  refine lc_list (K := K) (a := a) (xs := ts.map V.ref) (fun i H => Same H1 H ∧ ∃ us, H D = some (.lst (us.map V.ref)) ∧ TupsAt H us ((r.take i).filter p)) ⟨sNew hD, [], upd_same, True.intro⟩ (fun i H _ h => SqL.of (h.1 _ _ ha)) ?_ ?_
  · rintro i x H hi ⟨s, us, e, hU⟩
    rw [List.getElem?_map] at hi
    obtain ⟨t, h1, rfl⟩ := Option.map_eq_some_iff.mp hi
    obtain ⟨en, h2, h3⟩ := ht.get h1
    have hz2 := hU.len
    have ln : us.length ≤ 1000 := by
      have q := List.length_filter_le p (r.take i)
      rw [List.length_take] at q
      omega
    refine hs t en (List.mem_of_getElem? h2) H s (s _ _ h3) _ _ (fun H' c s2 => ⟨_, s2 _ _ e, small1000 (by rw [List.length_map]; exact ln), sUpd (s.trans s2) hD, us ++ [t], ?_, ?_⟩) fun H' c s2 => ⟨s.trans s2, us, s2 _ _ e, ?_⟩
    · rw [upd_same, List.map_append]
      rfl
    · have q := filt_turn hU h2 (s _ _ h3)
      rw [if_pos c] at q
      refine q.mono fun b ys eb => ?_
      have nb : b ≠ D := fun z => by
        rw [z, e] at eb
        cases eb
      rw [upd_ne nb]
      exact s2 _ _ eb
    · have q := filt_turn hU h2 (s _ _ h3)
      rw [if_neg c] at q
      exact q.mono (sTups s2)
  · rintro H ⟨s, us, e, hU⟩
    rw [List.length_map, hl, List.take_length] at hU
    exact hd H us s e hU
end
/-! ### the colors of the others -/
def ot (r : Row) (w : Nat) : List Nat := (r.filter fun e => e.1 != w).map (·.2)
theorem fm_if {α : Type} {p : α → Bool} {v : α → V} : ∀ l : List α, l.filterMap (fun e => if p e = true then some (v e) else none) = (l.filter p).map v
  | [] => rfl
  | x :: l => by
    by_cases h : p x = true
    · rw [List.filterMap_cons_some (b := v x) (by rw [if_pos h]), List.filter_cons_of_pos h, List.map_cons, fm_if l]
    · rw [List.filterMap_cons_none (by rw [if_neg h]), List.filter_cons_of_neg h, fm_if l]
theorem fm_all {α : Type} {v : α → V} : ∀ l : List α, l.filterMap (fun e => some (v e)) = l.map v
  | [] => rfl
  | x :: l => by
    have e : (x :: l).filterMap (fun e => some (v e)) = v x :: l.filterMap fun e => some (v e) := List.filterMap_cons_some (f := fun e => some (v e)) rfl
    rw [e, fm_all l, List.map_cons]
theorem colOf_is {r : Row} (nd : (r.map (·.1)).Nodup) {e : Nat × Nat} (he : e ∈ r) : colOf r e.1 = e.2 := by
  induction r with
  | nil => cases he
  | cons x r ih =>
    have nd' := List.nodup_cons.mp (show (x.1 :: r.map (·.1)).Nodup from nd)
    unfold colOf
    rcases List.mem_cons.mp he with z | z
    · rw [z, List.find?_cons_of_pos (by simp)]
      rfl
    · have : x.1 ≠ e.1 := fun q => nd'.1 (by rw [q]; exact List.mem_map_of_mem (f := (·.1)) z)
      rw [List.find?_cons_of_neg (by simpa using this)]
      exact ih nd'.2 z
theorem ot_find {c w : Nat} : ∀ {r : Row}, (∀ e ∈ r, e.1 = w → e.2 = c) → (ot r w).find? (fun x => x != c) = fo r c
  | [], _ => rfl
  | e :: r, h => by
    have ih := ot_find (r := r) fun x hx => h x (List.mem_cons_of_mem _ hx)
    by_cases k : e.1 = w
    · rw [fo_no (h e List.mem_cons_self k), ← ih]
      unfold ot
      rw [List.filter_cons_of_neg (by simpa using k)]
    · have e2 : ot (e :: r) w = e.2 :: ot r w := by
        unfold ot
        rw [List.filter_cons_of_pos (by simpa using k)]
        rfl
      rw [e2]
      by_cases d : e.2 = c
      · rw [fo_no d, ← ih, List.find?_cons_of_neg (by simpa using d)]
      · rw [fo_yes d, List.find?_cons_of_pos (by simpa using d)]
/-- what a called person takes, counted from the others -/
def cand (o : List Nat) (c : Nat) : List Nat := (o.take 1).filter (fun x => x != c) ++ o.filter fun x => x != o.headD 0
theorem cand_head (o : List Nat) (c : Nat) : (cand o c).head? = o.find? fun x => x != c := by
  unfold cand
  cases o with
  | nil => rfl
  | cons x o =>
    show (([x] : List Nat).filter (fun y => y != c) ++ (x :: o).filter fun y => y != x).head? = _
    by_cases h : x = c
    · rw [List.filter_cons_of_neg (by simpa using h), List.filter_nil, List.nil_append, List.filter_cons_of_neg (by simp), List.head?_filter, List.find?_cons_of_neg (by simpa using h), h]
    · rw [List.filter_cons_of_pos (by simpa using h), List.find?_cons_of_pos (by simpa using h)]
      rfl
theorem cand_is {r : Row} (h : Vr r) {w : Nat} : (cand (ot r w) (colOf r w)).head? = fo r (colOf r w) := by
  rw [cand_head]
  exact ot_find fun e he k => by rw [← k, colOf_is h.nodup he]
/-- letters as data -/
abbrev dS (cs : List Nat) : PyData := .list (cs.map fun c => .str ⟨#[c]⟩)
theorem dp_strs {K : PySem.W.Frag} {H : Hp} : ∀ cs : List Nat, DpAll K H (cs.map sg) (cs.map fun c => PyData.str ⟨#[c]⟩)
  | [] => .nil
  | c :: cs => .cons (.str _) (dp_strs cs)
theorem lay_strs : ∀ cs : List Nat, (∀ c ∈ cs, c ≤ 122) → PyData.canLayAll0 (cs.map fun c => PyData.str ⟨#[c]⟩) = true ∧ PyData.depthAll (cs.map fun c => PyData.str ⟨#[c]⟩) ≤ 1
  | [], _ => by
    simp only [List.map_nil, PyData.canLayAll0, PyData.depthAll]
    exact ⟨trivial, Nat.zero_le _⟩
  | c :: cs, h => by
    obtain ⟨h1, h2⟩ := lay_strs cs fun x hx => h x (List.mem_cons_of_mem _ hx)
    simp only [List.map_cons, PyData.canLayAll0, PyData.canLay0, PyData.depthAll, PyData.depth]
    rw [h1, str_ok (h c List.mem_cons_self)]
    exact ⟨rfl, by omega⟩
theorem shp_strs (cs : List Nat) (h : ∀ c ∈ cs, c ≤ 122) : SeqAt.shaped (dS cs) = true := by
  obtain ⟨h1, h2⟩ := lay_strs cs h
  refine Bool.and_eq_true_iff.mpr ⟨?_, decide_eq_true ?_⟩
  · simp only [PyData.canLay0]
    exact h1
  · simp only [PyData.depth]
    omega
theorem eqv_nilS (cs : List Nat) : PyData.eqv (dS cs) (.list []) = cs.isEmpty := by
  cases cs with
  | nil => rfl
  | cons n ns => simp [PyData.eqv, PyData.eqvAll]
theorem cut1 (xs : List V) : cutV xs none (some 1) = xs.take 1 := by
  unfold cutV HT.sIx
  cases xs with
  | nil => rfl
  | cons x xs => simp
end LX

/-! ### defs that show data (repr): the same promises, said where no repr runs -/
namespace LX
open PySem L2
open PySem.Spec PyProof.Rows
/-- as FnOk, for callers among whom no repr runs -/
structure FnG (P : Program) (w : World) (K : PySem.W.Frag) (mg : Str → Option Value) (base : Heap) (k : Nat) (f : Addr) (fd : FuncData) (ps : List Str) (sp : Sp) : Prop where
  len : ∀ vs H Q E, sp vs H Q E → vs.length = ps.length
  go : ∀ (A : Around) (o : List Env) (s : Shared) (H : Hp) (ar : Args) (us : List Value) (vs : List V) (Q : VK) (E : XK), Room k A → A.guards = some [] → Env0 P w K mg base A o s H →
    BindsTo s fd ar (ps.zip us) → Vals vs us → sp vs H Q E → codeAny (model P w) A (.call (.ref f) ar) (CR CX0 o P w H s Q E) s
section
variable {P : Program} {w : World} {K : PySem.W.Frag} {mg : Str → Option Value} {base : Heap} {x qual : Str} {st : Stmt} {f : Addr} {fd : FuncData} {N ps : List Str} {k : Nat} {sp : Sp}
/-- a def of the text by its body, as Fun.ok, with the word that no repr runs around it -/
theorem fnG (F : Fun K x qual st f fd) (S : FnScope N ps (defScope st)) (len : ∀ vs H Q E, sp vs H Q E → vs.length = ps.length)
    (body : ∀ (cdv : Value) (A : Around) (outer : List Env) (s : Shared) (H : Hp) (vs : List V) (Q : VK) (E : XK), Room k (A.deeper (envOfC qual (defScope st) s.heap.objs.size f cdv)) →
      (A.deeper (envOfC qual (defScope st) s.heap.objs.size f cdv)).guards = some [] → sp vs H Q E →
      ∃ t, PSs (cxOf CX0 P w K mg base N qual (defScope st) f cdv A outer s H E).nox (defBody st) t ∧ t { nx := fun _ H' => Q .non H', rt := Q } (start N vs) H) :
    FnG P w K mg base (k + 1) f fd ps sp := by
  obtain ⟨oc, od, kV, doc, pm, an, cdv, ct, osl, rfl, lk, hcd⟩ := F.ex
  constructor
  · exact len
  intro A o s H ar us vs Q E room quiet e0 bind r want
  have n := len vs H Q E want
  have KH := e0.mod.kin.keeps fun b ob e => (e0.bs b ob e).1
  have NL := e0.mod.nolimit.keeps fun b ob e => (e0.bs b ob e).1
  -- every parameter is a local or a cell
  have par : ∀ q ∈ ps.zip us, (defScope st).names.lookup q.1 = some .local ∨ ((defScope st).names.lookup q.1 = some .cell ∧ ((cellsFrom (s.heap.objs.size + 1) (defScope st).names []).lookup q.1).isSome = true) := by
    intro q hq
    have hm : q.1 ∈ ps := (List.of_mem_zip (show (q.1, q.2) ∈ ps.zip us from hq)).1
    exact (S.par q.1 hm).imp id fun c => ⟨c, PySem.W.cellsFrom_some _ _ _ (Or.inl c)⟩
  apply codeAny_call_function room.depth (KH _ _ lk) rfl S.co S.gen rfl (PySem.W.codeRec_of KH hcd)
  apply bind
  apply wpAny_newFunctionEnv_cells S.kind par
  intro env henv s1 made
  cases henv
  refine ⟨NL.keeps made.toInCall.keep, ?_⟩
  apply codeAny_func
  obtain ⟨t, der, rd⟩ := body cdv A o s H vs Q E (room.deeper _) quiet want
  have inv := inv_start (CX := CX0) (E := E) (N := N) S room.hd e0 n r made
  apply wpAny_mono (der.nox.run [] s1 (start N vs) H _ inv rd)
  · intro fl s2 hs
    cases fl with
    | brk =>
      obtain ⟨_, _, _, no⟩ := hs
      exact no.elim
    | cont =>
      obtain ⟨_, _, _, no⟩ := hs
      exact no.elim
    | next =>
      obtain ⟨σ', H', J, q⟩ := hs
      exact ⟨.non, H', J.os, J.bare, J.base, J.hok, rfl, q⟩
    | ret u =>
      obtain ⟨v, σ', H', J, rv, q⟩ := hs
      exact ⟨v, H', J.os, J.bare, J.base, J.hok, rv, q⟩
  · exact fun _ _ z => z
theorem FnG.mono {j : Nat} (F : FnG P w K mg base j f fd ps sp) (h : j ≤ k) : FnG P w K mg base k f fd ps sp := ⟨F.len, fun A o s H ar us vs Q E room => F.go A o s H ar us vs Q E (room.mono h)⟩
end
section
variable {X : Cx} {k n : Nat} {f : Addr} {fd : FuncData} {ps ks : List Str} {sp : Sp} {x : Str} {p pos : Pos} {e : Expr} {es : List Expr} {kws : List Keyword} {t tk : TA} {g : List Value → List Value → List Value} {gV : List V → List V → List V}
/-- f(e, ..), f a def that shows data -/
theorem pe_callG (F : FnG X.prog X.w X.K X.mg X.base k f fd ps sp) (room : Room k X.A) (quiet : X.A.guards = some []) (g0 : Gl X x) (g1 : X.mg x = some (.ref f)) (g2 : PySem.W.keepIn X.K (.ref f) = true) (b : Binds X.K fd ps [])
    (ha : PA X (e :: es) t) (q0 : (x == ("__debug__" : Str)) = false := by decide) (q1 : starEach (e :: es) X.env = (false, eval e X.env) :: starEach es X.env := by rfl) (q2 : (backTo pos (starEach es X.env)).any (·.1) = false := by rfl) :
    PE X (.Call (.Name x p) (e :: es) [] pos) (tCall sp [] E0 t) := by
  constructor
  intro pins s σ H Q I h
  apply wpAny_Call_Name_kw
  apply ld_glob I g0 g1 _ q0
  refine PySem.W.callWith_K (h₀ := X.base) I.ok.mod.kin g2 (thn (ha.run pos pins s σ H _ I h) ?_) q1 q2
  rintro us s1 ⟨vs, H1, J, r, q⟩
  refine ⟨J.kIn, ?_⟩
  have q' : sp vs H1 Q E0 := by rw [List.append_nil] at q; exact q
  have lu : (us ++ []).length = ps.length := by
    rw [List.append_nil, ← r.length]
    exact F.len _ _ _ _ q'
  have bd := b s1 us J.kIn lu
  rw [List.append_nil] at bd
  refine wpAny_call (codeAny_mono (F.go X.A X.stack s1 H1 ⟨us, []⟩ us vs Q E0 room quiet J.env0 bd r q') ?_)
  intro res s2 hq
  match res, hq with
  | .error _, hq => exact hq.elim
  | .ok (.ret _), hq => exact J.after hq
  | .ok .next, hq => exact hq.elim
  | .ok .brk, hq => exact hq.elim
  | .ok .cont, hq => exact hq.elim
/-- f(k = v, ..): nothing by position -/
theorem pe_callN0 (F : FnOk X.prog X.w X.K X.mg X.base CX0 k f fd ps sp) (room : Room k X.A) (g0 : Gl X x) (g1 : X.mg x = some (.ref f)) (g2 : PySem.W.keepIn X.K (.ref f) = true) (b : KBn X.K fd ps 0 ks g gV) (hk : PK X kws tk)
    (q1 : (backToKw pos (keywordEach kws X.env)).all (·.1.isSome) = true := by rfl) (q2 : (backToKw pos (keywordEach kws X.env)).filterMap (·.1) = ks := by rfl) (q0 : (x == ("__debug__" : Str)) = false := by decide)
    (q3 : ((backTo pos (starEach [] X.env)).any (·.1) || (backToKw pos (keywordEach kws X.env)).any (·.1.isNone)) = false := by rfl) :
    PE X (.Call (.Name x p) [] kws pos) (tCallN 0 ks.length sp gV E0 tNil tk) := by
  constructor
  intro pins s σ H Q I h
  apply wpAny_Call_Name_kw
  apply ld_glob I g0 g1 _ q0
  refine PySem.W.callWith_KW0 (h₀ := X.base) I.ok.mod.kin g2 q1 ?_ q3
  refine thn (hk.run pos pins s σ H _ I h) ?_
  rintro ws s2 ⟨zs, H2, J, rz, l1, l2, q⟩
  refine ⟨J.kIn, ?_⟩
  rw [q2]
  exact run_fnN (us := []) (vs := []) F room b pass0 J .nil rz l1 l2 q
/-- repr of data: none, bools, ints, texts, lists and tuples of these -/
def qRepr (K : PySem.W.Frag) : List V → Hp → VK → Prop := fun vs H Q => ∃ (v : V) (d : PyData), vs = [v] ∧ (∃ a, v = .ref a) ∧ Dp K H v d ∧ d.showable = true ∧ d.hasDict = false ∧ d.depth ≤ 20 ∧ d.shown.length ≤ sizeLine ∧ Q (.str d.shown) H
theorem krepr {K : PySem.W.Frag} (quiet : X.A.guards = some []) (hu : X.A.units + 64 < cLine) (h : X.K = K := by rfl) : CallR X (.builtin "repr") (qRepr K) := by
  subst h
  intro pins s σ H vs us Q I r want
  obtain ⟨v, d, rfl, ⟨a, rfl⟩, dp, sh, nd, dd, sz, q⟩ := want
  obtain ⟨u, rfl, ru⟩ : ∃ u, us = [u] ∧ RelV (.ref a) u := by
    cases r with
    | cons r1 r2 =>
      cases r2
      exact ⟨_, rfl, r1⟩
  cases ru
  obtain ⟨as, rs⟩ := Dp.reads I d (.ref a) (.ref a) dp rfl
  refine PySem.repr_of_reads' rs sh (fun z => by rw [nd] at z; cases z) quiet (by omega) (fun _ _ e => e) ?_ sz
  intro h' y tk keep
  exact ⟨.str d.shown, H, I.kept keep, ⟨y, rfl⟩, q⟩
end
/-! ### the law's own head, for a law that shows data -/
/-- what is tracked at the start: the script, locked, if it is none of the module's own objects -/
def H0 (K : PySem.W.Frag) (a : Addr) (o : Obj) (xs : List V) : Hp := fun b => if b = a ∧ (K.lookup a).isNone = true then some (.frz o (.lst xs)) else none
theorem H0_some {K : PySem.W.Frag} {a b : Addr} {o : Obj} {xs : List V} {u : HO} (h : H0 K a o xs b = some u) : b = a ∧ K.lookup a = none ∧ u = .frz o (.lst xs) := by
  unfold H0 at h
  by_cases c : b = a ∧ (K.lookup a).isNone = true
  · rw [if_pos c] at h
    exact ⟨c.1, Option.isNone_iff_eq_none.mp c.2, (Option.some.inj h).symm⟩
  · rw [if_neg c] at h
    cases h
theorem law_callG {P : Program} {w : World} {K : PySem.W.Frag} {mg mb : Str → Option Value} {k : Nat} {fa a : Addr} {fd : FuncData} {x : Str} {sp : Sp} {s₁ : Shared} {vs : List Value} {ns : List Int} (inK : K.In s₁.heap) (gm : s₁.heap.Ns mainGlobals mg) (gb : s₁.heap.Ns builtinsNs mb)
    (bb : ∀ y : Str, y ≠ "__name__" → mb y = bootBuiltins y) (nl : s₁.heap.NoLimit) (gens : s₁.gens = #[]) (at_a : s₁.heap.get? a = some { cls := .type "list", data := .seq vs.toArray }) (hin : IntsAre vs ns) (few : ns.length ≤ sizeLine) (room : Room k callerA)
    (F : ∀ base : Heap, K.In base → base.Ns mainGlobals mg → FnG P w K mg base k fa fd [x] sp) (bind : ∀ (s : Shared) (u : Value), BindsTo s fd ⟨[u], []⟩ [(x, u)])
    (good : ∀ H : Hp, Only H → SqL K H a (ns.map V.int) → sp [.ref a] H (fun v _ => v = .bl true) fun _ _ _ => False) :
    codeAny (model P w) callerA (.call (.ref fa) ⟨[.ref a], []⟩) (fun r s' => r = .ok (.ret (.bool true)) ∧ OldK s₁.heap s'.heap ∧ s'.os = s₁.os ∧ AllBare s'.gens) s₁ := by
  have rv := vals_ints hin
  have nv := hin.length
  generalize ho : ({ cls := .type "list", data := .seq vs.toArray } : Obj) = o at at_a
  have only : Only (H0 K a o (ns.map V.int)) := fun b => by
    cases q : H0 K a o (ns.map V.int) b with
    | none => exact Or.inl rfl
    | some u => exact Or.inr ⟨o, _, by rw [(H0_some q).2.2]⟩
  have seq : SqL K (H0 K a o (ns.map V.int)) a (ns.map V.int) := by
    cases q : K.lookup a with
    | none => exact Or.inl (Or.inr ⟨o, if_pos ⟨rfl, by rw [q]; rfl⟩⟩)
    | some o' =>
      have e := inK a o' q
      rw [at_a] at e
      cases e
      subst ho
      exact Or.inr ⟨_, vs.toArray, _, q, rfl, rfl, rfl, by rw [List.size_toArray, nv]; exact few, by simpa using rv⟩
  have held : HOk P w (H0 K a o (ns.map V.int)) s₁.heap := fun b u q => by
    obtain ⟨rfl, _, rfl⟩ := H0_some q
    subst ho
    exact ⟨at_a, by rw [List.length_map]; exact few, vs, _, rv, at_a⟩
  -- what is not the script stands in the base
  have out : ∀ {b : Addr} {ob : Obj}, s₁.heap.get? b = some ob → H0 K a o (ns.map V.int) b = none → (hidT s₁.heap (H0 K a o (ns.map V.int))).get? b = some ob := fun e n => hidT_get e n
  have dicts : ∀ {b : Addr} {ob : Obj} {es : Array DictEntry} {n : Nat}, s₁.heap.get? b = some ob → ob.data = .dict es n → H0 K a o (ns.map V.int) b = none := by
    intro b ob es n e d
    cases q : H0 K a o (ns.map V.int) b with
    | none => rfl
    | some u =>
      obtain ⟨rfl, _, _⟩ := H0_some q
      rw [at_a] at e
      cases e
      subst ho
      cases d
  have names : ∀ {b : Addr} {m : Str → Option Value}, s₁.heap.Ns b m → (hidT s₁.heap (H0 K a o (ns.map V.int))).Ns b m := by
    rintro b m ⟨ob, es, n, e, d, z⟩
    exact ⟨ob, es, n, out e (dicts e d), d, z⟩
  have kb : K.In (hidT s₁.heap (H0 K a o (ns.map V.int))) := fun b ob e => by
    refine out (inK b ob e) ?_
    cases q : H0 K a o (ns.map V.int) b with
    | none => rfl
    | some u =>
      obtain ⟨rfl, q2, _⟩ := H0_some q
      rw [q2] at e
      cases e
  obtain ⟨mc, c1, c2⟩ := nl
  have e0 : Env0 P w K mg (hidT s₁.heap (H0 K a o (ns.map V.int))) callerA [] s₁ (H0 K a o (ns.map V.int)) := {
    frames := rfl
    mod := ⟨kb, names gm, ⟨mb, names gb, bb⟩, ⟨mc, names c1, c2⟩⟩
    bs := fun b ob e => of_hidT e
    bsz := Nat.le_of_eq (hidT_size _ _)
    funs := trivial
    frf := fun b hb => absurd (show b ∈ ([] : List Addr) from hb) List.not_mem_nil
    hok := held
    bare := .of_eq gens }
  refine codeAny_mono ((F _ kb (names gm)).go callerA [] s₁ (H0 K a o (ns.map V.int)) ⟨[.ref a], []⟩ [.ref a] [.ref a] _ _ room rfl e0 (bind s₁ (.ref a)) (.cons rfl .nil) (good _ only seq)) ?_
  intro res s' hq
  match res, hq with
  | .error _, hq => exact hq.elim
  | .ok .next, hq => exact hq.elim
  | .ok .brk, hq => exact hq.elim
  | .ok .cont, hq => exact hq.elim
  | .ok (.ret u), hq =>
    obtain ⟨v, H', os, bare, un, held', r', q⟩ := hq
    have q' : v = .bl true := q
    subst q'
    cases (show u = Value.bool true from r')
    refine ⟨rfl, OldK.of_keep fun b ob e => ?_, os, bare⟩
    cases z : H0 K a o (ns.map V.int) b with
    | none => exact un.keep b ob e z (fun y => absurd (show b ∈ ([] : List Addr) from y) List.not_mem_nil) List.not_mem_nil
    | some y =>
      obtain ⟨rfl, _, rfl⟩ := H0_some z
      obtain ⟨e1, _⟩ := held _ _ z
      obtain ⟨e2, _⟩ := held' _ _ (un.frzs _ _ _ z)
      rw [e] at e1
      cases e1
      exact e2
theorem walk_ofG {l : PySem.W.OpenLaw} {n k : Nat} {q : Program} {loose : List Str} {XP : (Str → Option Value) → Heap → Prop} {YP : World → Heap → Prop} {d : DefRec} {K : Params → PySem.W.Frag} {sp : PySem.W.Frag → Sp} {x : Str} (hn : l.most = some n) (few : n ≤ sizeLine)
    (nodef : d.params.defaults = []) (room : Room k callerA) (hY : ∀ (w : World) (h : Heap), YP w h → (K w.params).In h)
    (F : ∀ (w : World) (mg : Str → Option Value) (fa : Addr) (h : Heap), (K w.params).In h → h.Ns mainGlobals mg → mg d.name = some (.ref fa) → ∃ fd : FuncData, (∀ (s : Shared) (u : Value), BindsTo s fd ⟨[u], []⟩ [(x, u)]) ∧
      ∀ base : Heap, (K w.params).In base → base.Ns mainGlobals mg → FnG l.prog w (K w.params) mg base k fa fd [x] (sp (K w.params)))
    (good : ∀ (K : PySem.W.Frag) (H : Hp) (a : Addr) (ns : List Int), ns.length ≤ n → Only H → SqL K H a (ns.map V.int) → sp K [.ref a] H (fun v _ => v = .bl true) fun _ _ _ => False) :
    PySem.W.WalkO q loose XP YP l.row.toRowW d [] (fun f vs => PySem.call f vs) := by
  apply Att.attach_call hn nodef
  intro w s₀ s₁ mg mb fa o pm cd doc a vs ns G Y ho hd hcd hmg at_a hin most gens
  have inK := hY w _ Y
  obtain ⟨fd, bind, hF⟩ := F w mg fa _ inK G.T.g hmg
  exact law_callG inK G.T.g G.T.b G.T.builtins G.T.nolimit gens at_a hin (Nat.le_trans most few) room hF bind fun H only seq => good _ H a ns most only seq
/-! ### calls with keywords: the values in the parameters' order -/
def pick {α : Type} (ix : List Nat) (l : List α) : List α := ix.filterMap (l[·]?)
theorem vals_at {vs : List V} {us : List Value} (h : Vals vs us) : ∀ i : Nat, (vs[i]? = none ∧ us[i]? = none) ∨ ∃ v u, vs[i]? = some v ∧ us[i]? = some u ∧ RelV v u := by
  induction h with
  | nil => exact fun i => Or.inl ⟨rfl, rfl⟩
  | cons r _ ih =>
    intro i
    cases i with
    | zero => exact Or.inr ⟨_, _, rfl, rfl, r⟩
    | succ i => exact ih i
theorem vals_pick {vs : List V} {us : List Value} (h : Vals vs us) : ∀ ix : List Nat, Vals (pick ix vs) (pick ix us)
  | [] => .nil
  | i :: ix => by
    unfold pick
    rcases vals_at h i with ⟨h1, h2⟩ | ⟨v, u, h1, h2, r⟩
    · rw [List.filterMap_cons_none h1, List.filterMap_cons_none h2]
      exact vals_pick h ix
    · rw [List.filterMap_cons_some h1, List.filterMap_cons_some h2]
      exact .cons r (vals_pick h ix)
theorem _root_.L2.Fun.kb {K : PySem.W.Frag} {x qual : Str} {st : Stmt} {f : Addr} {fd : FuncData} {ps ks : List Str} {n : Nat} {ix : List Nat} (F : Fun K x qual st f fd)
    (h : ∀ (kV doc pm : Value) (an : Option Addr) (cdv ct : Value) (us ws : List Value), us.length = n → ws.length = ks.length → bindArgs (PySem.W.fnOf x qual (defArgs st) (defBody st) (defScope st) .none kV doc pm an cdv ct) ⟨us, ks.zip ws⟩ = pure (ps.zip (pick ix (us ++ ws)))) :
    KBn K fd ps n ks (fun us ws => pick ix (us ++ ws)) (fun vs zs => pick ix (vs ++ zs)) := by
  obtain ⟨oc, od, kV, doc, pm, an, cdv, ct, osl, rfl, lk, hcd⟩ := F.ex
  exact ⟨fun s us ws _ l1 l2 => .of_eq (h kV doc pm an cdv ct us ws l1 l2), fun r1 r2 => vals_pick (r1.append r2) ix⟩
theorem rd_callN0 {σ : L2.St} {H : Hp} {Q : VK} {m : Nat} {sp : Sp} {gV : List V → List V → List V} {E : XK} {tk : TA} (q : tk σ H fun zs H2 => zs.length = m ∧ sp (gV [] zs) H2 Q E) : tCallN 0 m sp gV E tNil tk σ H Q := by
  show tk σ H fun zs H2 => ([] : List V).length = 0 ∧ zs.length = m ∧ sp (gV [] zs) H2 Q E
  have e : (fun (zs : List V) (H2 : Hp) => ([] : List V).length = 0 ∧ zs.length = m ∧ sp (gV [] zs) H2 Q E) = fun zs H2 => zs.length = m ∧ sp (gV [] zs) H2 Q E := by
    funext zs H2
    exact propext ⟨fun z => z.2, fun z => ⟨rfl, z⟩⟩
  rw [e]
  exact q
/-! ### what can be shown: no deeper than n, the leaves no longer than B, no heavier than m -/
structure Sh (B n m : Nat) (d : PyData) : Prop where
  sh : d.showable = true
  nd : d.hasDict = false
  dp : d.depth ≤ n
  ls : d.leavesShort B = true
  wt : d.weight ≤ m
theorem sh_all {B n m : Nat} : ∀ {xs : List PyData}, (∀ x ∈ xs, Sh B n m x) → PyData.showableAll xs = true ∧ PyData.hasDictAll xs = false ∧ PyData.depthAll xs ≤ n ∧ PyData.leavesShortAll B xs = true ∧ PyData.weightAll xs ≤ xs.length * (m + 1)
  | [], _ => by
    simp only [PyData.showableAll, PyData.hasDictAll, PyData.depthAll, PyData.leavesShortAll, PyData.weightAll]
    exact ⟨trivial, trivial, Nat.zero_le _, trivial, Nat.zero_le _⟩
  | x :: xs, h => by
    obtain ⟨a1, a2, a3, a4, a5⟩ := h x List.mem_cons_self
    obtain ⟨b1, b2, b3, b4, b5⟩ := sh_all fun y hy => h y (List.mem_cons_of_mem _ hy)
    have e : (xs.length + 1) * (m + 1) = xs.length * (m + 1) + (m + 1) := Nat.succ_mul ..
    simp only [PyData.showableAll, PyData.hasDictAll, PyData.depthAll, PyData.leavesShortAll, PyData.weightAll, List.length_cons, a1, a2, a4, b1, b2, b4, Bool.and_self, Bool.or_self, true_and, e]
    omega
theorem Sh.list {B n m : Nat} {xs : List PyData} (h : ∀ x ∈ xs, Sh B n m x) : Sh B (n + 1) (xs.length * (m + 1)) (.list xs) := by
  obtain ⟨a1, a2, a3, a4, a5⟩ := sh_all h
  exact ⟨by simpa only [PyData.showable] using a1, by simpa only [PyData.hasDict] using a2, by simp only [PyData.depth]; omega, by simpa only [PyData.leavesShort] using a4, by simpa only [PyData.weight] using a5⟩
theorem Sh.tuple {B n m : Nat} {xs : List PyData} (h : ∀ x ∈ xs, Sh B n m x) : Sh B (n + 1) (xs.length * (m + 1)) (.tuple xs) := by
  obtain ⟨a1, a2, a3, a4, a5⟩ := sh_all h
  exact ⟨by simpa only [PyData.showable] using a1, by simpa only [PyData.hasDict] using a2, by simp only [PyData.depth]; omega, by simpa only [PyData.leavesShort] using a4, by simpa only [PyData.weight] using a5⟩
theorem Sh.mono {B n m n' m' : Nat} {d : PyData} (h : Sh B n m d) (h1 : n ≤ n') (h2 : m ≤ m') : Sh B n' m' d := ⟨h.sh, h.nd, Nat.le_trans h.dp h1, h.ls, Nat.le_trans h.wt h2⟩
theorem Sh.none {B : Nat} : Sh B 0 0 .none := ⟨by simp only [PyData.showable], by simp only [PyData.hasDict], by simp only [PyData.depth]; omega, by simp only [PyData.leavesShort], by simp only [PyData.weight]; omega⟩
theorem Sh.chr {B c : Nat} (h : c ≤ 122) : Sh B 0 1 (.str ⟨#[c]⟩) := ⟨by simp only [PyData.showable], by simp only [PyData.hasDict], by simp only [PyData.depth]; omega, by
  simp only [PyData.leavesShort]
  show [c].all (fun c => decide (c < 16 ^ 8)) = true
  have : c < 16 ^ 8 := Nat.lt_of_le_of_lt h (by decide)
  simp only [List.all_cons, List.all_nil, Bool.and_true, decide_eq_true_eq]
  exact this, by simp only [PyData.weight]; exact Nat.le_refl 1⟩
theorem Sh.int {i : Int} (h : i.natAbs < 10 ^ 12) : Sh 13 0 40 (.int i) := by
  have l : i.natAbs.log2 < 40 := by
    by_cases z : i.natAbs = 0
    · rw [z]
      decide
    · exact (Nat.log2_lt z).mpr (Nat.lt_of_lt_of_le h (by decide))
  refine ⟨?_, by simp only [PyData.hasDict], by simp only [PyData.depth]; omega, ?_, ?_⟩
  · simp only [PyData.showable, decide_eq_true_eq]
    omega
  · simp only [PyData.leavesShort, decide_eq_true_eq]
    exact PyData.shown_int_le h
  · simp only [PyData.weight]
    split
    · omega
    · omega
theorem Sh.fits {n m : Nat} {d : PyData} (h : Sh 13 n m d) (hm : m ≤ 2 ^ 20) : d.shown.length ≤ sizeLine := PyData.shown_fits (by decide) (by decide) h.ls (Nat.le_trans h.wt hm)
theorem rd_repr {K : PySem.W.Frag} {H : Hp} {Q : VK} {a : Addr} {n m : Nat} {d : PyData} (hd : Dp K H (.ref a) d) (h : Sh 13 n m d) (hn : n ≤ 20) (hm : m ≤ 2 ^ 20) (q : Q (.str d.shown) H) : qRepr K [.ref a] H Q :=
  ⟨_, d, rfl, ⟨a, rfl⟩, hd, h.sh, h.nd, Nat.le_trans h.dp hn, h.fits hm, q⟩
theorem sh_row {r : Row} (h : Vr r) : Sh 13 2 (60 * 83) (dR r) := by
  have e : ∀ x ∈ r.map dE, Sh 13 1 82 x := fun x hx => by
    obtain ⟨y, hy, rfl⟩ := List.mem_map.mp hx
    refine (Sh.tuple (xs := [.int (y.1 : Int), .str ⟨#[y.2]⟩]) (n := 0) (m := 40) fun z hz => ?_).mono (Nat.le_refl _) (show 2 * 41 ≤ 82 by decide)
    have hl := h.col y hy
    have hp := h.lt hy
    have h60 := h.n2
    rcases List.mem_cons.mp hz with c | c
    · rw [c]
      exact Sh.int (by have : (10 : Nat) ^ 12 = 1000000000000 := by decide
                       omega)
    · rw [List.mem_singleton.mp c]
      exact (Sh.chr hl.2).mono (Nat.le_refl _) (by decide)
  refine (Sh.list e).mono (Nat.le_refl _) ?_
  rw [List.length_map]
  exact Nat.mul_le_mul_right 83 h.n2
/-- letters or None -/
def dO : Option Nat → PyData
  | none => .none
  | some c => .str ⟨#[c]⟩
theorem dp_opt {K : PySem.W.Frag} {H : Hp} (o : Option Nat) : Dp K H (oV o) (dO o) := by
  cases o with
  | none => exact .non
  | some c => exact .str _
theorem dp_opts {K : PySem.W.Frag} {H : Hp} : ∀ os : List (Option Nat), DpAll K H (os.map oV) (os.map dO)
  | [] => .nil
  | o :: os => .cons (dp_opt o) (dp_opts os)
theorem sh_opt {o : Option Nat} (h : ∀ c, o = some c → c ≤ 122) : Sh 13 0 1 (dO o) := by
  cases o with
  | none => exact Sh.none.mono (Nat.le_refl _) (by decide)
  | some c => exact Sh.chr (h c rfl)
theorem sh_opts {os : List (Option Nat)} (h : ∀ c, some c ∈ os → c ≤ 122) : Sh 13 1 (os.length * 2) (.list (os.map dO)) := by
  have := Sh.list (xs := os.map dO) (n := 0) (m := 1) (B := 13) fun x hx => by
    obtain ⟨o, ho, rfl⟩ := List.mem_map.mp hx
    exact sh_opt fun c e => h c (by rw [← e]; exact ho)
  rw [List.length_map] at this
  exact this
end LX

/-! ### a source of draws that counts them -/
namespace LX
open PySem L2
structure SrcN (H : Hp) (p : Addr) (b : Nat) : Prop where
  ex : ∃ s0 s1 s2 : Int, H p = some (.lst [.int s0, .int s1, .int s2]) ∧ s1.natAbs < 2 ^ 400 ∧ s2.natAbs ≤ b
theorem SrcN.src {H : Hp} {p : Addr} {b : Nat} (h : SrcN H p b) : Src H p :=
  let ⟨s0, s1, s2, h1, h2, _⟩ := h.ex
  ⟨s0, s1, s2, h1, h2⟩
theorem SrcN.same {H H' : Hp} {p : Addr} {b : Nat} (h : SrcN H p b) (s : Same H H') : SrcN H' p b :=
  let ⟨s0, s1, s2, h1, h2⟩ := h.ex
  ⟨s0, s1, s2, s _ _ h1, h2⟩
theorem SrcN.mono {H : Hp} {p : Addr} {b c : Nat} (h : SrcN H p b) (k : b ≤ c) : SrcN H p c :=
  let ⟨s0, s1, s2, h1, h2, h3⟩ := h.ex
  ⟨s0, s1, s2, h1, h2, Nat.le_trans h3 k⟩
theorem SrcN.not_none {H : Hp} {p q : Addr} {b : Nat} (h : SrcN H p b) (hq : H q = none) : q ≠ p := h.src.not_none hq
theorem SrcN.lst {H : Hp} {p : Addr} {b : Nat} (h : SrcN H p b) : ∃ xs, H p = some (.lst xs) := h.src.lst
/-- kept where a list elsewhere changes -/
theorem SrcN.off {H : Hp} {p q : Addr} {b : Nat} {o : HO} (h : SrcN H p b) (n : q ≠ p) : SrcN (upd H q o) p b :=
  let ⟨s0, s1, s2, h1, h2⟩ := h.ex
  ⟨s0, s1, s2, by rw [upd_ne n.symm]; exact h1, h2⟩
theorem mod_small {x m : Int} {k : Nat} (h0 : 0 < m) (h : m ≤ 2 ^ k) : (x % m).natAbs < 2 ^ k := by
  have a0 := Int.emod_nonneg x (show m ≠ 0 by omega)
  have a1 := Int.emod_lt_of_pos x h0
  have e : ((2 ^ k : Nat) : Int) = (2 : Int) ^ k := by
    rw [Int.natCast_pow]
    rfl
  omega
theorem add_small {x y : Int} {j k m : Nat} (hx : x.natAbs < 2 ^ j) (hy : y.natAbs < 2 ^ k) (h1 : j < m) (h2 : k < m) : (x + y).natAbs < 2 ^ m := by
  obtain ⟨n, rfl⟩ : ∃ n, m = n + 1 := ⟨m - 1, by omega⟩
  have a := Nat.pow_le_pow_right (show 0 < 2 by decide) (show j ≤ n by omega)
  have b := Nat.pow_le_pow_right (show 0 < 2 by decide) (show k ≤ n by omega)
  rw [Nat.pow_succ]
  omega
theorem mul_small {x y : Int} {j k m : Nat} (hx : x.natAbs < 2 ^ j) (hy : y.natAbs < 2 ^ k) (h : j + k ≤ m) : (x * y).natAbs < 2 ^ m := by
  rw [Int.natAbs_mul]
  refine Nat.lt_of_lt_of_le ?_ (Nat.pow_le_pow_right (show 0 < 2 by decide) h)
  rw [Nat.pow_add]
  exact Nat.mul_lt_mul'' hx hy
end LX

/-! ### list(zip(xs, ys)), two lists of one length: new tuples in a new list -/
namespace LX
open PySem PySem.Spec PyProof.Rows L2
theorem Un.more {fs : List Addr} {H H' : Hp} {h h' : Heap} (k : ∀ b u, h.get? b = some u → h'.get? b = some u) (s : Same H H') (new : ∀ b, H b = none → b < h.objs.size → H' b = none) : Un fs [] H H' h h' where
  keep := fun b u q _ _ _ => k b u q
  slot := fun b u q _ _ _ => ⟨u.slots, k b u q⟩
  free := fun b u q n _ => new b n (Heap.lt_size q)
  there := fun b u q _ => ⟨u, k b u q⟩
  tups := fun b xs q => s b _ q
  frzs := fun b u xs q => s b _ q
  tbls := fun b ps q => ⟨#[], by rw [s b _ q]; simp⟩
theorem HOk.more {P : Program} {w : World} {H H' : Hp} {h h' : Heap} (x : HOk P w H h) (k : ∀ b u, h.get? b = some u → h'.get? b = some u) (s : Same H H') (new : ∀ b o, H b = none → H' b = some o → ObjOk P w H' h' b o) : HOk P w H' h' := fun b o e => by
  cases q : H b with
  | none => exact new b o q e
  | some u =>
    have e2 := s b _ q
    rw [e] at e2
    cases e2
    exact (x b o q).stay (fun c v _ z => k c v z) (fun c z => s c _ z) fun c xs z => s c _ z
/-- the zip z amid its walk: i pairs are out, all above B -/
structure ZAt (h : Heap) (z TI TO i1 i2 l1 l2 B : Addr) (xs ys : Array Value) (i : Nat) (Ts : List Addr) : Prop where
  pr : IsPair h TI (.ref i1) (.ref i2)
  w1 : h.IsListIter i1 l1 i
  w2 : h.IsListIter i2 l2 i
  a1 : h.IsList l1 xs
  a2 : h.IsList l2 ys
  zp : (IsZip h z TI TO .none ∧ ∃ a b, IsPair h TO a b) ∨ ∃ T f oT, IsZipHeld h z TI TO T f ∧ h.get? T = some oT ∧ B ≤ T
  len : Ts.length = i
  nd : Ts.Nodup
  out : ∀ (j : Nat) (T : Addr), Ts[j]? = some T → B ≤ T ∧ ∃ x y, xs[j]? = some x ∧ ys[j]? = some y ∧ IsPair h T x y
theorem pairKeep {h h' : Heap} {T : Addr} {x y : Value} (p : IsPair h T x y) (e : ∀ o, h.get? T = some o → h'.get? T = some o) : IsPair h' T x y := e _ p
section
variable {P : Program} {w : World} {A : Around} {R : Result → Shared → Prop} {z TI TO i1 i2 l1 l2 S B : Addr} {xs ys : Array Value} {res : Value}
theorem zipLoop (hh : A.in1.handled = none) (D : ZipApart z TI TO i1 i2 l1 l2) (same : xs.size ≤ ys.size) (few : xs.size ≤ sizeLine) (lt : ∀ b, b = z ∨ b = TI ∨ b = TO ∨ b = i1 ∨ b = i2 ∨ b = l1 ∨ b = l2 → b < B) (ltS : S < B) (offS : S ≠ z ∧ S ≠ TI ∧ S ≠ TO ∧ S ≠ i1 ∧ S ≠ i2 ∧ S ≠ l1 ∧ S ≠ l2) :
    ∀ (m i : Nat) (s : Shared) (Ts : List Addr), i + m = xs.size → B ≤ s.heap.objs.size → ZAt s.heap z TI TO i1 i2 l1 l2 B xs ys i Ts → (∃ c, s.heap.get? S = some (seqObj "list" (Ts.map Value.ref).toArray c)) →
      (∀ (h' : Heap) (tk : Nat) (Us : List Addr) (c' : Nat), Us.length = xs.size → Us.Nodup → (∀ (j : Nat) (T : Addr), Us[j]? = some T → B ≤ T ∧ ∃ x y, xs[j]? = some x ∧ ys[j]? = some y ∧ IsPair h' T x y) → h'.get? S = some (seqObj "list" (Us.map Value.ref).toArray c') →
        (∀ b o, b ≠ S → b ≠ z → b ≠ TO → b ≠ i1 → b ≠ i2 → s.heap.get? b = some o → h'.get? b = some o) → R (.ok (.ret res)) { s with heap := h', toks := tk }) →
      codeAny (model P w) A (.builtin "list.extend.loop" ⟨[.ref S, .ref z, res], []⟩) R s := by
  have lz := lt z (by simp)
  have lTI := lt TI (by simp)
  have lTO := lt TO (by simp)
  have li1 := lt i1 (by simp)
  have li2 := lt i2 (by simp)
  have ll1 := lt l1 (by simp)
  have ll2 := lt l2 (by simp)
  obtain ⟨oz, oTI, oTO, oi1, oi2, ol1, ol2⟩ := offS
  intro m
  induction m with
  | zero =>
    intro i s Ts hi hB Z ⟨c, hS⟩ hR
    have e : i = xs.size := by omega
    subst e
    have off : xs[xs.size]? = none ∨ ys[xs.size]? = none := Or.inl (Array.getElem?_eq_none (Nat.le_refl _))
    refine codeAny_builtin PySem.F.entry_extend_loop ?_
    rw [Around.under_plainId PySem.F.plain_extend_loop _]
    show wpAny _ A.in1 (pyNext (.ref z) >>= _) _ _ s
    have fin : ∀ h' : Heap, (∀ b o, b ≠ z → b ≠ TO → b ≠ i1 → b ≠ i2 → s.heap.get? b = some o → h'.get? b = some o) → R (.ok (.ret res)) { s with heap := h' } := fun h' k => by
      refine hR h' s.toks Ts c Z.len Z.nd (fun j T hj => ?_) (k _ _ oz oTO oi1 oi2 hS) fun b o _ b1 b2 b3 b4 e => k b o b1 b2 b3 b4 e
      obtain ⟨q1, x, y, q2, q3, q4⟩ := Z.out j T hj
      exact ⟨q1, x, y, q2, q3, pairKeep q4 fun o e => k T o (Nat.ne_of_gt (Nat.lt_of_lt_of_le lz q1)) (Nat.ne_of_gt (Nat.lt_of_lt_of_le lTO q1)) (Nat.ne_of_gt (Nat.lt_of_lt_of_le li1 q1)) (Nat.ne_of_gt (Nat.lt_of_lt_of_le li2 q1)) e⟩
    rcases Z.zp with ⟨z1, a, b, z2⟩ | ⟨T, f, oT, z1, z2, z3⟩
    · exact wpAny_bind (wpAny_pyNext_zip_end hh D z1 Z.pr z2 Z.w1 Z.w2 Z.a1 Z.a2 off fun h' k => wpAny_pure (fin h' fun b o b1 b2 b3 b4 e => k b o b1 b2 b3 b4 e))
    · exact wpAny_bind (wpAny_pyNext_zip_end_held hh D z1 z2 Z.pr Z.w1 Z.w2 Z.a1 Z.a2 off fun h' k => wpAny_pure (fin h' fun b o b1 _ b3 b4 e => k b o b1 b3 b4 e))
  | succ m ih =>
    intro i s Ts hi hB Z ⟨c, hS⟩ hR
    have ex : xs[i]? = some xs[i] := Array.getElem?_eq_getElem (by omega)
    have ey : ys[i]? = some ys[i] := Array.getElem?_eq_getElem (by omega)
    refine codeAny_builtin PySem.F.entry_extend_loop ?_
    rw [Around.under_plainId PySem.F.plain_extend_loop _]
    show wpAny _ A.in1 (pyNext (.ref z) >>= _) _ _ s
    have szT : (Ts.map Value.ref).toArray.size = i := by rw [List.size_toArray, List.length_map, Z.len]
    have turn : ∀ h' : Heap, ((∃ T f oT, IsZipHeld h' z TI TO T f ∧ h'.get? T = some oT ∧ B ≤ T)) → h'.IsListIter i1 l1 (i + 1) → h'.IsListIter i2 l2 (i + 1) → IsPair h' s.heap.objs.size xs[i] ys[i] → h'.objs.size = s.heap.objs.size + 1 →
        (∀ b o, b ≠ z → b ≠ TO → b ≠ i1 → b ≠ i2 → s.heap.get? b = some o → h'.get? b = some o) →
        wpAny (model P w) A.in1 (updateSeq S (·.push (.ref s.heap.objs.size)) >>= fun _ => again (.builtin "list.extend.loop" ⟨[.ref S, .ref z, res], []⟩))
          (fun fin s' => match fin with | .done f => R (.ok f) s' | .again c' => c'.quiet = true ∧ codeAny (model P w) A c' R s') (fun e s' => R (.error e) s') { s with heap := h' } := by
      intro h' hz hw1 hw2 hp hsz k
      have hS1 := k _ _ oz oTO oi1 oi2 hS
      have lim : i + 1 ≤ sizeLine := by omega
      refine wpAny_bind (wpAny_updateSeq hS1 rfl ?_ (by rw [szT]; exact Nat.le_trans (Nat.le_of_lt (by omega : i < xs.size)) few) (by show ((Ts.map Value.ref).toArray.push _).size ≤ sizeLine + 1; rw [Array.size_push, szT]; omega))
      refine wpAny_pure ⟨plainId_quiet PySem.F.plain_extend_loop _, ?_⟩
      have other : ∀ b o, b ≠ S → h'.get? b = some o → (h'.update S (Obj.mapSeq (·.push (Value.ref s.heap.objs.size)))).get? b = some o := fun b o nb e => (Heap.get?_update_other _ _ (Ne.symm nb)).trans e
      have nS : ∀ {b : Addr}, B ≤ b → b ≠ S := fun q => Nat.ne_of_gt (Nat.lt_of_lt_of_le ltS q)
      refine ih (i + 1) _ (Ts ++ [s.heap.objs.size]) (by omega) (by show B ≤ (h'.update S _).objs.size; rw [Heap.size_update, hsz]; exact Nat.le_trans hB (Nat.le_succ _)) ?_ ?_ fun h2 tk Us c2 u1 u0 u2 u3 u4 => ?_
      · obtain ⟨T, f, oT, z1, z2, z3⟩ := hz
        exact { pr := pairKeep Z.pr fun o e => other _ o (Ne.symm oTI) (k _ o D.TIz D.TITO D.TIi1 D.TIi2 e), w1 := hw1.at fun o e => other _ o (Ne.symm oi1) e, w2 := hw2.at fun o e => other _ o (Ne.symm oi2) e
                a1 := Z.a1.at fun o e => other _ o (Ne.symm ol1) (k _ o D.l1z D.l1TO D.l1i1 D.l1i2 e), a2 := Z.a2.at fun o e => other _ o (Ne.symm ol2) (k _ o D.l2z D.l2TO D.l2i1 D.l2i2 e)
                zp := Or.inr ⟨T, f, oT, other _ _ (Ne.symm oz) z1, other _ _ (nS z3) z2, z3⟩
                len := by rw [List.length_append, Z.len]; rfl
                nd := List.nodup_append.mpr ⟨Z.nd, List.nodup_cons.mpr ⟨List.not_mem_nil, List.nodup_nil⟩, fun T hT U hU e => by
                  obtain ⟨j, hj⟩ := List.mem_iff_getElem?.mp hT
                  obtain ⟨_, x, y, _, _, q4⟩ := Z.out j T hj
                  rw [List.mem_singleton] at hU
                  have l := Heap.lt_size q4
                  rw [e, hU] at l
                  exact Nat.lt_irrefl _ l⟩
                out := fun j T hj => by
                  by_cases c : j < Ts.length
                  · rw [List.getElem?_append_left c] at hj
                    obtain ⟨q1, x, y, q2, q3, q4⟩ := Z.out j T hj
                    exact ⟨q1, x, y, q2, q3, pairKeep q4 fun o e => other T o (nS q1) (k T o (Nat.ne_of_gt (Nat.lt_of_lt_of_le lz q1)) (Nat.ne_of_gt (Nat.lt_of_lt_of_le lTO q1)) (Nat.ne_of_gt (Nat.lt_of_lt_of_le li1 q1)) (Nat.ne_of_gt (Nat.lt_of_lt_of_le li2 q1)) e)⟩
                  · have len := Z.len
                    rw [List.getElem?_append_right (by omega)] at hj
                    have hj2 := (List.getElem?_eq_some_iff.mp hj).1
                    rw [List.length_singleton] at hj2
                    have ej : j = i := by omega
                    subst ej
                    rw [show j - Ts.length = 0 by omega] at hj
                    injection hj with hj
                    subst hj
                    exact ⟨hB, _, _, ex, ey, pairKeep hp fun o e => other _ o (nS hB) e⟩ }
      · have q := Heap.get?_update_self (Obj.mapSeq (·.push (Value.ref s.heap.objs.size))) hS1 rfl
        refine ⟨_, q.trans (congrArg (fun l : Array Value => some (seqObj "list" l _)) ?_)⟩
        show (Ts.map Value.ref).toArray.push (Value.ref s.heap.objs.size) = ((Ts ++ [s.heap.objs.size]).map Value.ref).toArray
        rw [List.push_toArray, List.map_append]
        rfl
      · exact hR h2 tk Us c2 u1 u0 u2 u3 fun b o b0 b1 b2 b3 b4 e => u4 b o b0 b1 b2 b3 b4 (other b o b0 (k b o b1 b2 b3 b4 e))
    rcases Z.zp with ⟨z1, a, b, z2⟩ | ⟨T, f, oT, z1, z2, z3⟩
    · refine wpAny_bind (wpAny_pyNext_zip_item D z1 Z.pr z2 Z.w1 Z.w2 Z.a1 Z.a2 ex ey fun h' b1 b2 b3 b4 b5 b6 k => ?_)
      exact turn h' ⟨_, false, _, b1, b5, hB⟩ b3 b4 b5 b6 fun b o n1 n2 n3 n4 e => k b o n1 n2 n3 n4 e
    · refine wpAny_bind (wpAny_pyNext_zip_item_held D z1 z2 Z.pr Z.w1 Z.w2 Z.a1 Z.a2 ex ey fun h' b1 b3 b4 b5 b6 k => ?_)
      have n1 : T ≠ z := Nat.ne_of_gt (Nat.lt_of_lt_of_le lz z3)
      have n3 : T ≠ i1 := Nat.ne_of_gt (Nat.lt_of_lt_of_le li1 z3)
      have n4 : T ≠ i2 := Nat.ne_of_gt (Nat.lt_of_lt_of_le li2 z3)
      exact turn h' ⟨T, true, oT, b1, k _ _ n1 n3 n4 z2, z3⟩ b3 b4 b5 b6 fun b o n1 _ n3 n4 e => k b o n1 n3 n4 e
theorem zip_no_len : typeLookup (.type "zip") "__len__" = pure none := am_miss_of_fast (by decide +kernel)
theorem zip_no_hint : typeLookup (.type "zip") "__length_hint__" = pure none := am_miss_of_fast (by decide +kernel)
theorem listZip {E : Value → Shared → Prop} {s : Shared} {Q : Value → Shared → Prop} (hh : A.handled = none) (D : ZipApart z TI TO i1 i2 l1 l2) (same : xs.size ≤ ys.size) (few : xs.size ≤ sizeLine) (hz : IsZip s.heap z TI TO .none) (hTI : IsPair s.heap TI (.ref i1) (.ref i2)) (hTO : IsPair s.heap TO .none .none)
    (h1 : s.heap.IsListIter i1 l1 0) (h2 : s.heap.IsListIter i2 l2 0) (g1 : s.heap.IsList l1 xs) (g2 : s.heap.IsList l2 ys)
    (hQ : ∀ (h' : Heap) (tk : Nat) (Us : List Addr) (c' : Nat), Us.length = xs.size → Us.Nodup → (∀ (j : Nat) (T : Addr), Us[j]? = some T → s.heap.objs.size < T ∧ ∃ x y, xs[j]? = some x ∧ ys[j]? = some y ∧ IsPair h' T x y) → h'.get? s.heap.objs.size = some (seqObj "list" (Us.map Value.ref).toArray c') →
      (∀ b o, b ≠ z → b ≠ TO → b ≠ i1 → b ≠ i2 → s.heap.get? b = some o → h'.get? b = some o) → Q (.ref s.heap.objs.size) { s with heap := h', toks := tk }) :
    wpAny (model P w) A (call (.type "list") [.ref z]) Q E s := by
  have none1 : A.in1.in1.handled = none := by simp [hh]
  obtain ⟨oh1, e1, _⟩ := id h1
  obtain ⟨oh2, e2, _⟩ := id h2
  obtain ⟨og1, f1, _⟩ := id g1
  obtain ⟨og2, f2, _⟩ := id g2
  refine callType_codes (Q₁ := fun obj s1 => obj = .ref s.heap.objs.size ∧ s1 = { s with heap := s.heap.push { cls := .type "list", data := .seq #[] } }) PySem.F.called_list (PySem.F.typeCall_list_1 _) PySem.F.entry_list_init (code_list_new _ ⟨rfl, rfl⟩) fun obj s1 hs1 => ?_
  obtain ⟨rfl, rfl⟩ := hs1
  have at0 : (s.heap.push { cls := .type "list", data := .seq #[] }).get? s.heap.objs.size = some { cls := .type "list", data := .seq #[] } := Heap.get?_push_size _ rfl
  have old : ∀ b o, s.heap.get? b = some o → (s.heap.push { cls := .type "list", data := .seq #[] }).get? b = some o := fun b o e => Heap.get?_push_of_some _ e
  refine ⟨⟨_, at0, rfl⟩, PySem.F.args_list_init_2 _ _, ?_⟩
  show wpAny _ _ (do let old ← Builtin.List.listItems (.ref s.heap.objs.size); Builtin.List.listUpdate (.ref s.heap.objs.size) (fun _ => #[]); letGo old.toList.reverse; Builtin.List.listExtendWith (.ref s.heap.objs.size) (.ref z) .none) _ _ _
  refine wpAny_bind ?_
  unfold Builtin.List.listItems
  refine wpAny_bind (wpAny_seqItems at0 rfl (wpAny_pure ?_))
  show wpAny _ _ (updateSeq s.heap.objs.size (fun _ => #[]) >>= fun _ => letGo (#[] : Array Value).toList.reverse >>= fun _ => Builtin.List.listExtendWith (.ref s.heap.objs.size) (.ref z) .none) _ _ _
  refine wpAny_bind (wpAny_updateSeq at0 rfl (wpAny_bind (wpAny_letGo ?_)))
  have at1 := Heap.get?_update_self (Obj.mapSeq (fun _ => (#[] : Array Value))) at0 rfl
  have ne : ∀ {b : Addr} {o : Obj}, s.heap.get? b = some o → s.heap.objs.size ≠ b := fun e => Nat.ne_of_gt (Heap.lt_size e)
  have old1 : ∀ b o, s.heap.get? b = some o → ((s.heap.push { cls := .type "list", data := .seq #[] }).update s.heap.objs.size (Obj.mapSeq (fun _ => (#[] : Array Value)))).get? b = some o := fun b o e => (Heap.get?_update_other _ _ (ne e)).trans (old b o e)
  generalize hh1 : ((s.heap.push { cls := .type "list", data := .seq #[] }).update s.heap.objs.size (Obj.mapSeq (fun _ => (#[] : Array Value)))) = hp1 at at1 old1
  have sz1 : hp1.objs.size = s.heap.objs.size + 1 := by rw [← hh1, Heap.size_update, Heap.size_push]
  unfold Builtin.List.listExtendWith
  have tz : Shared.TypeIs { s with heap := hp1 } (.ref z) "zip" := ⟨_, old1 _ _ hz, rfl⟩
  refine wpAny_bind (wpAny_typeOf tz ?_)
  have k1 : Builtin.List.listSameRef (.ref s.heap.objs.size) (.ref z) = false := by simp [Builtin.List.listSameRef, ne hz]
  have k2 : (Value.type "zip" == Value.type "list") = false := by decide
  have k3 : (Value.type "zip" == Value.type "tuple") = false := by decide
  simp only [k1, k2, k3, Bool.or_false, Bool.false_eq_true, if_false]
  refine wpAny_bind (wpAny_pyIter_zip (old1 _ _ hz) (wpAny_bind (wpAny_holding ?_)))
  unfold Builtin.List.listLengthHint
  refine wpAny_bind (wpAny_specialOf tz zip_no_len ?_)
  show wpAny _ _ (specialOf (Value.ref z) (Str.ofString "__length_hint__") >>= _) _ _ _
  refine wpAny_bind (wpAny_specialOf tz zip_no_hint (wpAny_pure ?_))
  show wpAny _ _ (rule "list.extend.makes-room" >>= fun _ => Builtin.List.listTouch (.ref s.heap.objs.size) >>= fun _ => again (.builtin "list.extend.loop" ⟨[.ref s.heap.objs.size, .ref z, .none], []⟩)) _ _ _
  refine wpAny_bind (wpAny_rule (wpAny_bind ?_))
  show wpAny _ _ (updateSeq s.heap.objs.size (·.push .none) >>= fun _ => updateSeq s.heap.objs.size (·.pop)) _ _ _
  refine wpAny_bind (wpAny_updateSeq at1 rfl ?_)
  have at2 := Heap.get?_update_self (Obj.mapSeq (·.push Value.none)) at1 rfl
  refine wpAny_updateSeq (hz := by seq_fits) at2 rfl ?_
  have at3 := Heap.get?_update_self (Obj.mapSeq (·.pop)) at2 rfl
  have old3 : ∀ b o, s.heap.get? b = some o → ((hp1.update s.heap.objs.size (Obj.mapSeq (·.push Value.none))).update s.heap.objs.size (Obj.mapSeq (·.pop))).get? b = some o := fun b o e => (Heap.get?_update_other _ _ (ne e)).trans ((Heap.get?_update_other _ _ (ne e)).trans (old1 b o e))
  have sz3 : ((hp1.update s.heap.objs.size (Obj.mapSeq (·.push Value.none))).update s.heap.objs.size (Obj.mapSeq (·.pop))).objs.size = s.heap.objs.size + 1 := by rw [Heap.size_update, Heap.size_update, sz1]
  generalize (hp1.update s.heap.objs.size (Obj.mapSeq (·.push Value.none))).update s.heap.objs.size (Obj.mapSeq (·.pop)) = hp3 at at3 old3 sz3
  refine wpAny_pure ⟨plainId_quiet PySem.F.plain_extend_loop _, ?_⟩
  refine zipLoop none1 D same few (B := s.heap.objs.size + 1) (fun b hb => ?_) (Nat.lt_succ_self _) ⟨ne hz, ne hTI, ne hTO, ne e1, ne e2, ne f1, ne f2⟩ xs.size 0 _ [] (Nat.zero_add _) (Nat.le_of_eq sz3.symm) ?_ ⟨_, at3⟩ fun h' tk Us c' u1 u0 u2 u3 u4 => ?_
  · have up : ∀ {b : Addr} {o : Obj}, s.heap.get? b = some o → b < s.heap.objs.size + 1 := fun e => Nat.lt_succ_of_lt (Heap.lt_size e)
    rcases hb with rfl | rfl | rfl | rfl | rfl | rfl | rfl
    · exact up hz
    · exact up hTI
    · exact up hTO
    · exact up e1
    · exact up e2
    · exact up f1
    · exact up f2
  · exact { pr := old3 _ _ hTI, w1 := h1.at fun o e => old3 _ o e, w2 := h2.at fun o e => old3 _ o e, a1 := g1.at fun o e => old3 _ o e, a2 := g2.at fun o e => old3 _ o e, zp := Or.inl ⟨old3 _ _ hz, _, _, old3 _ _ hTO⟩, len := rfl, nd := List.nodup_nil, out := fun j T hj => by simp at hj }
  · exact ⟨rfl, hQ h' tk Us c' u1 u0 u2 u3 fun b o b1 b2 b3 b4 e => u4 b o (Ne.symm (ne e)) b1 b2 b3 b4 (old3 b o e)⟩
end
section
variable {X : Cx} {K : PySem.W.Frag}
def tListZip (K : PySem.W.Frag) (ta : TA) : TE := fun σ H Q => ta σ H fun vs H1 => ∃ (a b : Addr) (xs ys : List V), vs = [.ref a, .ref b] ∧ SqL K H1 a xs ∧ SqL K H1 b ys ∧ xs.length ≤ ys.length ∧
  ∀ (L : Addr) (H2 : Hp) (Ts : List Addr), H1 L = none → Same H1 H2 → H2 L = some (.lst (Ts.map V.ref)) → Ts.length = xs.length → (∀ (j : Nat) (x y : V), xs[j]? = some x → ys[j]? = some y → ∃ T, Ts[j]? = some T ∧ H2 T = some (.tup [x, y])) → Q (.ref L) H2
theorem rd_lz {ta : TA} {σ : L2.St} {H : Hp} {Q : VK} (q : ta σ H fun vs H1 => ∃ (a b : Addr) (xs ys : List V), vs = [.ref a, .ref b] ∧ SqL K H1 a xs ∧ SqL K H1 b ys ∧ xs.length ≤ ys.length ∧
  ∀ (L : Addr) (H2 : Hp) (Ts : List Addr), H1 L = none → Same H1 H2 → H2 L = some (.lst (Ts.map V.ref)) → Ts.length = xs.length → (∀ (j : Nat) (x y : V), xs[j]? = some x → ys[j]? = some y → ∃ T, Ts[j]? = some T ∧ H2 T = some (.tup [x, y])) → Q (.ref L) H2) : tListZip K ta σ H Q := q
theorem vals_get {xs : List V} {us : List Value} (h : Vals xs us) : ∀ {j : Nat} {u : Value}, us[j]? = some u → ∃ x, xs[j]? = some x ∧ RelV x u := by
  induction h with
  | nil => intro j u e; simp at e
  | cons r _ ih =>
    intro j u e
    cases j with
    | zero => simp at e; subst e; exact ⟨_, rfl, r⟩
    | succ j => simpa using ih (by simpa using e)
def pick2 : List Addr → List V → List V → Addr → List V
  | T :: Ts, x :: xs, y :: ys, c => if c = T then [x, y] else pick2 Ts xs ys c
  | _, _, _, _ => []
theorem pick2_at : ∀ {Ts : List Addr} {xs ys : List V} {j : Nat} {T : Addr} {x y : V}, Ts.Nodup → Ts[j]? = some T → xs[j]? = some x → ys[j]? = some y → pick2 Ts xs ys T = [x, y]
  | [], _, _, j, T, x, y, _, h, _, _ => by simp at h
  | _ :: _, [], _, j, T, x, y, _, _, h, _ => by simp at h
  | _ :: _, _ :: _, [], j, T, x, y, _, _, _, h => by simp at h
  | T0 :: Ts, x0 :: xs, y0 :: ys, 0, T, x, y, _, h1, h2, h3 => by
    simp at h1 h2 h3
    rw [h1, h2, h3]
    exact if_pos rfl
  | T0 :: Ts, x0 :: xs, y0 :: ys, j + 1, T, x, y, nd, h1, h2, h3 => by
    simp at h1 h2 h3
    obtain ⟨n1, n2⟩ := List.nodup_cons.mp nd
    have ne : T ≠ T0 := fun z => n1 (by rw [← z]; exact List.mem_of_getElem? h1)
    exact (if_neg ne).trans (pick2_at n2 h1 h2 h3)
theorem vals_refs : ∀ Us : List Addr, Vals (Us.map V.ref) (Us.map Value.ref)
  | [] => .nil
  | _ :: Us => .cons rfl (vals_refs Us)
theorem pe_listZip {e e2 : Expr} {ta : TA} {p p2 pos q : Pos} (hc : X.calm = true) (hg : Gl X "list") (hm : X.mg "list" = none) (hg2 : Gl X "zip") (hm2 : X.mg "zip" = none) (ha : PA X [e, e2] ta)
    (hs : starEach [e, e2] X.env = (false, eval e X.env) :: starEach [e2] X.env := by rfl) (hpl : (backTo q (starEach [e2] X.env)).any (·.1) = false := by rfl) (h : X.K = K := by rfl) :
    PE X (.Call (.Name "list" p) [.Call (.Name "zip" p2) [e, e2] [] q] [] pos) (tListZip K ta) := by
  subst h
  refine ⟨fun pins s σ H Q I want => ?_⟩
  refine Call_ (ld_blt (u := .type "list") I hg hm (by decide +kernel) (PyProof.Rows.callWith_type1 (PyProof.Rows.args_cons ?_ rfl) rfl rfl))
  refine Call_ (ld_blt I hg2 hm2 PyProof.Rows.boot_zip (PyProof.Rows.callWith_type1 (thn (ha.run q pins s σ H _ I want) fun us s1 ⟨vs, H1, I1, r1, q1⟩ => ?_) hs hpl))
  obtain ⟨a, b, xs, ys, ex, hx, hy, len, qq⟩ := q1
  subst ex
  obtain ⟨u1, u2, rfl, ra, rb⟩ : ∃ u1 u2, us = [u1, u2] ∧ RelV (.ref a) u1 ∧ RelV (.ref b) u2 := by
    cases r1 with
    | cons r rr =>
      cases rr with
      | cons r' rr =>
        cases rr
        exact ⟨_, _, rfl, r, r'⟩
  cases ra
  cases rb
  obtain ⟨its, rv, p1, z1⟩ := I1.list hx
  obtain ⟨its2, rv2, p2', z2⟩ := I1.list hy
  have l1 := rv.length
  have l2 := rv2.length
  have la : a < s1.heap.objs.size := p1.lt
  have lb : b < s1.heap.objs.size := p2'.lt
  refine call_zip_2 p1.isList p2'.isList fun h' hz hTI hTO w1 w2 hsz hk => ?_
  refine PyProof.Rows.args_nil ?_
  have D : ZipApart (s1.heap.objs.size + 4) (s1.heap.objs.size + 2) (s1.heap.objs.size + 3) s1.heap.objs.size (s1.heap.objs.size + 1) a b := PySem.W.ktu_apart s1.heap.objs.size a b la lb
  have keepL : ∀ {l : Addr} {items : Array Value}, s1.heap.IsList l items → h'.IsList l items := fun g => g.at fun o e => hk _ o e
  refine listZip (s := { s1 with heap := h' }) (I1.ok.hd hc) D (xs := its.toArray) (ys := its2.toArray) (by rw [List.size_toArray, List.size_toArray]; omega) (by rw [List.size_toArray]; omega) hz hTI hTO w1 w2 (keepL p1.isList) (keepL p2'.isList) fun h2 tk Us c' n1 n0 n2 n3 n4 => ?_
  rw [List.size_toArray] at n1
  have above : ∀ {c : Addr} {o : Obj}, s1.heap.get? c = some o → h2.get? c = some o := fun {c o} e => by
    have lt := Heap.lt_size e
    exact n4 c o (Nat.ne_of_lt (Nat.lt_add_right 4 lt)) (Nat.ne_of_lt (Nat.lt_add_right 3 lt)) (Nat.ne_of_lt lt) (Nat.ne_of_lt (Nat.lt_add_right 1 lt)) (hk c o e)
  have hsz' : h'.objs.size = s1.heap.objs.size + 5 := hsz
  -- what is tracked from here on
  have bigT : ∀ (j : Nat) (T : Addr), Us[j]? = some T → h'.objs.size < T := fun j T hj => (n2 j T hj).1
  have newT : ∀ T ∈ Us, H1 T = none ∧ T ≠ h'.objs.size := fun T hT => by
    obtain ⟨j, hj⟩ := List.mem_iff_getElem?.mp hT
    have := bigT j T hj
    exact ⟨I1.hok.fresh (Nat.le_of_lt (Nat.lt_of_le_of_lt (by rw [hsz']; exact Nat.le_add_right _ _) this)), Nat.ne_of_gt this⟩
  have newL : H1 h'.objs.size = none := I1.hok.fresh (by rw [hsz']; exact Nat.le_add_right _ _)
  have at_ : ∀ (j : Nat) (T : Addr), Us[j]? = some T → ∃ x y u v, xs[j]? = some x ∧ ys[j]? = some y ∧ RelV x u ∧ RelV y v ∧ IsPair h2 T u v := fun j T hj => by
    obtain ⟨_, u, v, e1, e2, pr⟩ := n2 j T hj
    obtain ⟨x, ex, rx⟩ := vals_get rv (j := j) (u := u) (by simpa using e1)
    obtain ⟨y, ey, ry⟩ := vals_get rv2 (j := j) (u := v) (by simpa using e2)
    exact ⟨x, y, u, v, ex, ey, rx, ry, pr⟩
  let H2 : Hp := fun c => if c = h'.objs.size then some (.lst (Us.map V.ref)) else if c ∈ Us then some (.tup (pick2 Us xs ys c)) else H1 c
  have gL : H2 h'.objs.size = some (.lst (Us.map V.ref)) := if_pos rfl
  have gT : ∀ (j : Nat) (T : Addr) (x y : V), Us[j]? = some T → xs[j]? = some x → ys[j]? = some y → H2 T = some (.tup [x, y]) := fun j T x y hj hx hy => by
    have hT := List.mem_of_getElem? hj
    show (if T = h'.objs.size then _ else if T ∈ Us then _ else _) = _
    rw [if_neg (newT T hT).2, if_pos hT, pick2_at n0 hj hx hy]
  have same2 : Same H1 H2 := fun c o e => by
    have m1 : c ≠ h'.objs.size := fun z => by
      rw [z, newL] at e
      cases e
    have m2 : c ∉ Us := fun z => by
      rw [(newT c z).1] at e
      cases e
    show (if c = h'.objs.size then _ else if c ∈ Us then _ else _) = _
    rw [if_neg m1, if_neg m2]
    exact e
  have szU : (Us.map V.ref).length ≤ sizeLine := by rw [List.length_map, n1]; omega
  have un : Un (frs X.stack) [] H1 H2 s1.heap h2 := Un.more (fun c o e => above e) same2 fun c e lt => by
    show (if c = h'.objs.size then _ else if c ∈ Us then _ else _) = _
    rw [if_neg fun z => by rw [z, hsz'] at lt; exact Nat.not_lt_of_le (Nat.le_add_right _ 5) lt, if_neg fun z => ?_]
    · exact e
    · obtain ⟨j, hj⟩ := List.mem_iff_getElem?.mp z
      have q := bigT j c hj
      rw [hsz'] at q
      exact Nat.lt_irrefl _ (Nat.lt_of_lt_of_le (Nat.lt_of_lt_of_le lt (Nat.le_add_right _ 5)) (Nat.le_of_lt q))
  have hok : HOk X.prog X.w H2 h2 := HOk.more I1.hok (fun c o e => above e) same2 fun c o e0 e => by
    have e' : (if c = h'.objs.size then some (.lst (Us.map V.ref)) else if c ∈ Us then some (.tup (pick2 Us xs ys c)) else H1 c) = some o := e
    by_cases c1 : c = h'.objs.size
    · rw [if_pos c1] at e'
      cases e'
      subst c1
      exact ⟨szU, Us.map Value.ref, c', vals_refs Us, n3⟩
    · rw [if_neg c1] at e'
      by_cases c2 : c ∈ Us
      · obtain ⟨j, hj⟩ := List.mem_iff_getElem?.mp c2
        obtain ⟨x, y, u, v, ex, ey, rx, ry, pr⟩ := at_ j c hj
        have g := gT j c x y hj ex ey
        rw [e] at g
        cases g
        refine ⟨by show 2 ≤ sizeLine; decide, [u, v], .cons rx (.cons ry .nil), _, pr, rfl, 0, rfl⟩
      · rw [if_neg c2, e0] at e'
        cases e'
  exact ⟨.ref h'.objs.size, H2, I1.call' (ch := []) rfl un hok I1.bare (fun _ z => nomatch z), rfl, qq h'.objs.size H2 Us newL same2 gL (by rw [n1, l1]) fun j x y hx hy => by
    have lt : j < Us.length := by
      have := (List.getElem?_eq_some_iff.mp hx).1
      omega
    exact ⟨Us[j], List.getElem?_eq_getElem lt, gT j _ x y (List.getElem?_eq_getElem lt) hx hy⟩⟩
end
/-! ### list(s), list(x) and len(x) of a text or a list -/
section
variable {X : Cx} {K : PySem.W.Frag}
theorem vals_strs_of : ∀ (cs : List Nat) (us : List Value), us.length = cs.length → (∀ (j : Nat) (u : Value), us[j]? = some u → ∃ c t, cs[j]? = some c ∧ u = Value.str ⟨#[c]⟩ t) → Vals (cs.map fun c => V.str ⟨#[c]⟩) us
  | [], [], _, _ => .nil
  | [], _ :: _, h, _ => by simp at h
  | _ :: _, [], h, _ => by simp at h
  | c :: cs, u :: us, h, k => by
    obtain ⟨d, t, h1, h2⟩ := k 0 u rfl
    simp at h1
    subst h1
    exact .cons ⟨t, h2⟩ (vals_strs_of cs us (by simpa using h) fun j v hv => by
      obtain ⟨d, t, q1, q2⟩ := k (j + 1) v (by simpa using hv)
      exact ⟨d, t, by simpa using q1, q2⟩)
def rListS : List V → Hp → VK → Prop := fun xs H Q => ∃ z : Str, xs = [.str z] ∧ z.cps.size ≤ 4000 ∧ ∀ l, H l = none → Q (.ref l) (upd H l (.lst (z.cps.toList.map fun c => V.str ⟨#[c]⟩)))
theorem klistS (hc : X.calm = true) : CallR X (.type "list") rListS := by
  intro pins s σ H xs us Q I r h
  obtain ⟨z, rfl, few, q⟩ := h
  obtain ⟨u, rfl, t, rfl⟩ := vals1 r
  have lim : z.cps.size ≤ sizeLine := by rw [sizeLine_eq]; omega
  refine PySem.call_list_str (hn := lim) (I.ok.hd hc) z t fun h' tk acc c' keep at_ it => ?_
  have sz : (z.cps.toList.map fun c => V.str ⟨#[c]⟩).length ≤ sizeLine := by rw [List.length_map, Array.length_toList]; exact lim
  refine ⟨.ref s.heap.objs.size, _, I.laid (o := .lst (z.cps.toList.map fun c => V.str ⟨#[c]⟩)) keep (Nat.le_refl _) ⟨sz, acc.toList, c', ?_, at_⟩, rfl, q _ (I.hok.fresh (Nat.le_refl _))⟩
  refine vals_strs_of _ _ (by rw [Array.length_toList, Array.length_toList]; exact it.1) fun j u hu => ?_
  obtain ⟨c, t', e1, e2⟩ := it.2 j u (by simpa using hu)
  exact ⟨c, t', by simpa using e1, e2⟩
def qListA (K : PySem.W.Frag) : List V → Hp → VK → Prop := fun xs H Q => qList K xs H Q ∨ rListS xs H Q
theorem klistA (hc : X.calm = true) (h : X.K = K := by rfl) : CallR X (.type "list") (qListA K) := CallR.or (klist h) (klistS hc)
def qLenA (K : PySem.W.Frag) : List V → Hp → VK → Prop := fun xs H Q => qLen K xs H Q ∨ ∃ z, xs = [.str z] ∧ z.length ≤ sizeLine ∧ Q (.int z.length) H
theorem klenA (h : X.K = K := by rfl) : CallR X (.builtin "len") (qLenA K) := CallR.or (klen h) call_len_str
end
/-! ### s * n -/
def repS (z : Str) (n : Nat) : Str := ⟨(List.replicate n z.cps).foldl (· ++ ·) #[]⟩
theorem fold_size (z : Array Nat) : ∀ (n : Nat) (acc : Array Nat), ((List.replicate n z).foldl (· ++ ·) acc).size = acc.size + n * z.size
  | 0, acc => by simp
  | n + 1, acc => by
    rw [List.replicate_succ, List.foldl_cons, fold_size z n, Array.size_append, Nat.succ_mul]
    omega
theorem repS_len (z : Str) (n : Nat) : (repS z n).length = n * z.length := by
  have := fold_size z.cps n #[]
  simpa [repS, Str.length] using this
theorem repS_one (z : Str) : repS z 1 = z := by
  cases z with
  | mk c =>
    show (⟨#[] ++ c⟩ : Str) = ⟨c⟩
    rw [Array.empty_append]
theorem repS_nil (z : Str) (n : Nat) (h : z.length = 0) : repS z n = z := by
  have e := repS_len z n
  rw [h, Nat.mul_zero] at e
  cases z with
  | mk c =>
    have h1 : c = #[] := Array.eq_empty_of_size_eq_zero h
    have h2 : (repS ⟨c⟩ n).cps = #[] := Array.eq_empty_of_size_eq_zero e
    subst h1
    cases q : repS ⟨#[]⟩ n with
    | mk d =>
      rw [q] at h2
      rw [show d = #[] from h2]
def rRepS : R2 := fun x y H Q => ∃ (z : Str) (n : Nat), x = .str z ∧ y = .int (n : Int) ∧ n ≤ 1000 ∧ z.length ≤ 1000 ∧ Q (.str (repS z n)) H
theorem op_repS {X : Cx} : OpR X (binaryOp .Mult) rRepS := by
  intro pins s σ H x y v u Q I rx ry h
  obtain ⟨z, n, rfl, rfl, hn, hz, q⟩ := h
  obtain ⟨t, rfl⟩ := rx
  obtain ⟨t', rfl⟩ := ry
  have prod : z.length * n ≤ 1000 * 1000 := Nat.mul_le_mul hz hn
  have fits : Builtin.Str.tooLong (z.length * ((n : Nat) : Int).toNat) = false := by
    rw [Int.toNat_natCast]
    refine decide_eq_false ?_
    rw [sizeLine_eq]
    omega
  refine PySem.P.mul_str (by rw [decide_eq_false (by omega), decide_eq_false (by omega)]; rfl) (fun h1 _ => ?_) (fun _ _ => fits) ?_
  · have b : (1 : Int) ≤ n := by omega
    have d := Int.ediv_le_ediv (a := (2 ^ 63 - 1) / 1000 * n) (b := 2 ^ 63 - 1) (c := n) (by omega) (by omega)
    rw [Int.mul_ediv_cancel _ (by omega)] at d
    omega
  by_cases h0 : (n : Int) < 1
  · have e : n = 0 := by omega
    subst e
    rw [if_pos h0]
    exact ⟨by decide, ⟨.str (repS z 0), H, I.tok _, ⟨_, rfl⟩, q⟩⟩
  · rw [if_neg h0]
    by_cases h1 : ((n : Int) == 1 || z.length == 0) = true
    · rw [if_pos h1]
      have e : repS z n = z := by
        rcases Bool.or_eq_true_iff.mp h1 with k | k
        · have : n = 1 := by
            have := eq_of_beq k
            omega
          rw [this, repS_one]
        · exact repS_nil z n (eq_of_beq k)
      rw [e] at q
      exact ⟨.str z, H, I, ⟨_, rfl⟩, q⟩
    · rw [if_neg h1, Int.toNat_natCast]
      refine ⟨?_, ⟨.str (repS z n), H, I.tok _, ⟨_, rfl⟩, q⟩⟩
      have e := repS_len z n
      rw [Nat.mul_comm] at e
      show (repS z n).length ≤ sizeLine
      rw [sizeLine_eq]
      omega
/-! ### xs + ys of any two lists that are read -/
theorem meets_cat (l b : Addr) (xs ys : Array Value) (n m : Nat) (d1 d2 : Option Addr) (s1 s2 : Array (Option Value)) (few : xs.size + ys.size ≤ sizeLine) :
    Meets (Builtin.«list.__add__» ⟨[.ref l, .ref b], []⟩) (fun _ R s => s.heap.get? l = some { cls := .type "list", dict := d1, data := .seq xs n, slots := s1 } ∧ s.heap.get? b = some { cls := .type "list", dict := d2, data := .seq ys m, slots := s2 } ∧
      R (.ok (.ret (Value.ref s.heap.objs.size))) { s with heap := s.heap.push { cls := Value.type "list", data := Data.seq (xs ++ ys) }, toks := s.toks }) :=
  .of_wp fun prog w A R s h => by
    obtain ⟨hp, gs, dr, tk, os⟩ := s
    obtain ⟨h1, h2, fin⟩ := h
    have j1 := PySem.AutoSeq1.idx_int
    have j2 := PySem.AutoSeq1.sub_tuple_tuple
    have j3 := PySem.AutoSeq1.sub_list_list
    have j4 := PySem.AutoSeq1.sub_tuple_list
    have j5 := PySem.AutoSeq1.sub_list_tuple
    wp_walk using PySem.AutoSeq1.wpAny_loadPart' h1, PySem.AutoSeq1.wpAny_loadPart' h2
    exact ⟨_, rfl, fin⟩
section
variable {X : Cx} {K : PySem.W.Frag}
def rCatL (K : PySem.W.Frag) : R2 := fun x y H Q => ∃ a b xs ys, x = .ref a ∧ y = .ref b ∧ SqL K H a xs ∧ SqL K H b ys ∧ xs.length + ys.length ≤ sizeLine ∧ ∀ p, H p = none → Q (.ref p) (upd H p (.lst (xs ++ ys)))
theorem op_catL (h : X.K = K := by rfl) : OpR X (binaryOp .Add) (rCatL K) := by
  subst h
  intro pins s σ H x y v u Q I rx ry want
  obtain ⟨a, b, xs, ys, rfl, rfl, ha, hb, few, q⟩ := want
  cases rx
  cases ry
  obtain ⟨its, r1, ⟨⟨c1, d1, e1, s1⟩, n1, g1, hc1, hd1, he1⟩, _⟩ := I.list ha
  obtain ⟨its2, r2, ⟨⟨c2, d2, e2, s2⟩, n2, g2, hc2, hd2, he2⟩, _⟩ := I.list hb
  simp only at hc1 hc2 he1 he2
  subst hc1 hc2 he1 he2
  have z1 := r1.length
  have z2 := r2.length
  refine PySem.concat_meets ⟨_, g1, rfl⟩ ⟨_, g2, rfl⟩ PySem.noFill_list_add PySem.seq_list_add PySem.F.slot_list_add PySem.F.entry_list_add (PySem.F.args_list_add_2 _ _) (meets_cat a b its.toArray its2.toArray n1 n2 d1 d2 s1 s2 (by rw [List.size_toArray, List.size_toArray]; omega)) ⟨g1, g2, ?_⟩
  have e : its.toArray ++ its2.toArray = (its ++ its2).toArray := by simp
  rw [e]
  exact ⟨.ref _, _, I.lnew (t' := s.toks) (r1.append r2) (by rw [List.length_append]; omega), rfl, q _ I.fresh⟩
end
end LX


/-! ### sets of one kind of keys: made from lists and texts, counted, sorted -/
namespace LX
open PySem PySem.Spec PyProof.Rows L2
/-- what a kind of keys must tell -/
structure KyOk {P : Program} {w : World} {κ : Type} [DecidableEq κ] (knd : PySem.KeyKind P w κ) (val : κ → Tok → Value) (key : Value → κ) : Prop where
  back : ∀ k t, key (val k t) = k
  isv : ∀ k k' t, knd.is k (val k' t) = true ↔ k' = k
  scan : ∀ k t, (val k t).scannable = true
section
variable {P : Program} {w : World} {κ : Type} [DecidableEq κ] {knd : PySem.KeyKind P w κ} {val : κ → Tok → Value} {key : Value → κ}
def entK (knd : PySem.KeyKind P w κ) (val : κ → Tok → Value) (e : Int × Value) : Prop := ∃ k t, e = (knd.hash k, val k t)
abbrev keysOf (key : Value → κ) (es : Array (Int × Value)) : List κ := es.toList.map fun e => key e.2
/-- the set at a: S its members, n of them -/
structure StK (knd : PySem.KeyKind P w κ) (val : κ → Tok → Value) (key : Value → κ) (h : Heap) (a : Addr) (S : κ → Bool) (n : Nat) (o : Obj) (es : Array (Int × Value)) (ep : Nat) (t : SetTable) : Prop where
  here : h.get? a = some o
  exact_ : o.ExactSet
  data : o.data = .set es ep t
  ent : ∀ e ∈ es.toList, entK knd val e
  nodup : (keysOf key es).Nodup
  mem : ∀ k, S k = true ↔ k ∈ keysOf key es
  room : es.size < scanBound
  fits : t.fits es.size = true
  num : es.size = n
  ris : Ris t.place.toList
  led : w.params.followText "set-order" = true ∨ t.led = true
def SetK1 (knd : PySem.KeyKind P w κ) (val : κ → Tok → Value) (key : Value → κ) (h : Heap) (a : Addr) (S : κ → Bool) (n : Nat) : Prop := ∃ o es ep t, StK knd val key h a S n o es ep t
theorem SetK1.keep {h h' : Heap} {a : Addr} {S : κ → Bool} {n : Nat} (R : SetK1 knd val key h a S n) (k : ∀ o, h.get? a = some o → h'.get? a = some o) : SetK1 knd val key h' a S n :=
  let ⟨o, es, ep, t, T⟩ := R
  ⟨o, es, ep, t, { T with here := k o T.here }⟩
theorem SetK1.congr {h : Heap} {a : Addr} {S S' : κ → Bool} {n n' : Nat} (R : SetK1 knd val key h a S n) (e : ∀ k, S' k = S k) (e2 : n' = n) : SetK1 knd val key h a S' n' := by
  rw [e2, show S' = S from funext e]
  exact R
variable (ok : KyOk knd val key)
include ok
theorem ents_elems {l : List (Int × Value)} (g : ∀ e ∈ l, entK knd val e) : ElemsOf knd l := fun e he => by
  obtain ⟨k, t, rfl⟩ := g e he
  exact ⟨⟨k, (ok.isv k k t).mpr rfl, rfl⟩, ok.scan k t⟩
theorem ents_is {e : Int × Value} (g : entK knd val e) (k : κ) : knd.is k e.2 = true ↔ key e.2 = k := by
  obtain ⟨k0, t, rfl⟩ := g
  show knd.is k (val k0 t) = true ↔ key (val k0 t) = k
  rw [ok.isv, ok.back]
theorem SetK1.setOf {h : Heap} {a : Addr} {S : κ → Bool} {n : Nat} (R : SetK1 knd val key h a S n) : h.SetOf knd a S n := by
  obtain ⟨o, es, ep, t, T⟩ := R
  refine ⟨o, es, ep, t, T.here, T.exact_, T.data, ents_elems ok T.ent, fun k => (T.mem k).trans ?_, T.room, T.fits, T.num⟩
  rw [List.mem_map]
  exact ⟨fun ⟨e, he, q⟩ => ⟨e, he, (ents_is ok (T.ent e he) k).mpr q⟩, fun ⟨e, he, q⟩ => ⟨e, he, (ents_is ok (T.ent e he) k).mp q⟩⟩
/-! ### one more member -/
omit ok in
theorem putK {A : Around} {E : Value → Shared → Prop} {s : Shared} {a : Addr} {o : Obj} {es es1 : Array (Int × Value)} {ep n' : Nat} {t t1 : SetTable} {S' : κ → Bool} {gv : Bool → Sem Unit} {old : Bool} {R : Option Bool → Shared → Prop}
    (ho : s.heap.get? a = some o) (hx : o.ExactSet) (hd : o.data = .set es ep t) (hgv : ∀ (b : Bool) (s1 : Shared) (R' : Unit → Shared → Prop), R' () s1 → wpAny (model P w) A (gv b) R' E s1)
    (c1 : ∀ e ∈ es1.toList, entK knd val e) (c2 : (keysOf key es1).Nodup) (c3 : ∀ k, S' k = true ↔ k ∈ keysOf key es1) (c4 : es1.size < scanBound) (c5 : t1.fits es1.size = true) (c6 : es1.size = n')
    (c7 : Ris t1.place.toList) (c8 : w.params.followText "set-order" = true ∨ t1.led = true)
    (hR : ∀ h', Heap.SameBut a s.heap h' → SetK1 knd val key h' a S' n' → R (some true) { s with heap := h' }) :
    wpAny (model P w) A (do
        storeSet a es1 t1
        if (!old && t1.tooFull) = true then do
            gv (relayAll t1 es1 (SetTable.grown es1.size)).2.2
            storeSet a (relayAll t1 es1 (SetTable.grown es1.size)).1 (relayAll t1 es1 (SetTable.grown es1.size)).2.1
            pure (some true)
          else pure (some true)) R E s := by
  have s1 := Heap.SameBut.update s.heap a (Obj.putSet es1 t1)
  have o1 := store_at (es' := es1) (t' := t1) ho hd
  refine wpAny_bind (wpAny_storeSet_of ho hd ?_ (fits_of_scanBound c4))
  by_cases full : (!old && t1.tooFull) = true
  · rw [if_pos full]
    have d1 := relayAll_perm t1 es1 (SetTable.grown es1.size)
    have d2 := relayAll_fits t1 es1 (SetTable.grown es1.size)
    have d3 := relayAll_ris t1 es1 (SetTable.grown es1.size)
    have d4 := relayAll_led t1 es1 (SetTable.grown es1.size)
    generalize relayAll t1 es1 (SetTable.grown es1.size) = big at d1 d2 d3 d4 ⊢
    obtain ⟨es2, t2, gave⟩ := big
    dsimp only at d1 d2 d3 d4 ⊢
    have z2 : es2.size = es1.size := by
      have q := d1.length_eq
      rwa [Array.length_toList, Array.length_toList] at q
    have o2 := store_at (es' := es2) (t' := t2) o1 rfl
    have all2 := fun e (he : e ∈ es2.toList) => c1 e (d1.mem_iff.mp he)
    have n2 : (keysOf key es2).Nodup := (d1.map _).nodup_iff.mpr c2
    have m2 : ∀ k, S' k = true ↔ k ∈ keysOf key es2 := fun k => (c3 k).trans (d1.map _).mem_iff.symm
    refine wpAny_bind (hgv _ _ _ (wpAny_bind (wpAny_storeSet_of o1 rfl ?_ (fits_of_scanBound (by rw [z2]; exact c4)))))
    exact wpAny_pure (hR _ (s1.trans (Heap.SameBut.update _ a _)) ⟨_, es2, _, t2, { here := o2, exact_ := hx, data := rfl, ent := all2, nodup := n2, mem := m2, room := by rw [z2]; exact c4, fits := d2, num := z2.trans c6, ris := d3, led := c8.imp id fun z => d4.trans z }⟩)
  · rw [if_neg full]
    exact wpAny_pure (hR _ s1 ⟨_, es1, _, t1, { here := o1, exact_ := hx, data := rfl, ent := c1, nodup := c2, mem := c3, room := c4, fits := c5, num := c6, ris := c7, led := c8 }⟩)
theorem addK {A : Around} {E : Value → Shared → Prop} {s : Shared} {a : Addr} {S : κ → Bool} {n : Nat} {k : κ} {tk : Tok} {Q : Bool → Shared → Prop} (R : SetK1 knd val key s.heap a S n) (few : n + 1 < scanBound)
    (hQ : ∀ h', Heap.SameBut a s.heap h' → SetK1 knd val key h' a (fun j => S j || decide (j = k)) (if S k = true then n else n + 1) → Q (!S k) { s with heap := h' }) :
    wpAny (model P w) A (setAddHashed a (val k tk) (knd.hash k)) Q E s := by
  obtain ⟨o, es, ep, t, T⟩ := R
  have el := ents_elems ok T.ent
  have kk : knd.is k (val k tk) = true := (ok.isv k k tk).mpr rfl
  unfold setAddHashed setAddHashedIn
  refine wpAny_holding (wpAny_bind (wpAny_setState_of T.here T.data T.fits ?_))
  dsimp only
  rw [byScan_of (ok.scan k tk) T.room el, if_pos rfl]
  unfold setAddByScan
  refine wpAny_bind (wpAny_bind (wpAny_rule (wpAny_bind (wpAny_setScan_of kk T.here T.data T.fits el ?_))))
  cases place : es.toList.findIdx? (fun e => knd.is k e.2) with
  | some j =>
    obtain ⟨lt, at_, _⟩ := List.findIdx?_eq_some_iff_getElem.mp place
    have inS : S k = true := (T.mem k).mpr (List.mem_map.mpr ⟨es.toList[j], List.getElem_mem lt, (ents_is ok (T.ent _ (List.getElem_mem lt)) k).mp at_⟩)
    have same : ∀ i, (S i || decide (i = k)) = S i := fun i => by
      by_cases c : i = k
      · rw [c, inS]
        rfl
      · rw [decide_eq_false c, Bool.or_false]
    have fin := hQ s.heap (Heap.SameBut.refl a s.heap) (SetK1.congr ⟨o, es, ep, t, T⟩ same (if_pos inS))
    rw [inS] at fin
    exact wpAny_pure (wpAny_pure fin)
  | none =>
    have notIn : k ∉ keysOf key es := fun z => by
      obtain ⟨e, he, q⟩ := List.mem_map.mp z
      have c := List.findIdx?_eq_none_iff.mp place e he
      rw [(ents_is ok (T.ent e he) k).mpr q] at c
      cases c
    have outS : S k = false := Bool.eq_false_iff.mpr fun z => notIn ((T.mem k).mp z)
    have gone : ∀ (b : Bool) {s1 : Shared} {R' : Unit → Shared → Prop}, R' () s1 → wpAny (model P w) A (match b with | true => rule "set.scan.the-table-gave-way" | false => pure ()) R' E s1 := fun b s1 R' q => by
      cases b
      · exact wpAny_pure q
      · exact wpAny_rule q
    have d1 := layNew_perm t es (knd.hash k) (val k tk)
    have d2 := layNew_fits t es (knd.hash k) (val k tk)
    have d3 := layNew_ris t es (knd.hash k) (val k tk) T.ris
    have d4 := layNew_led t es (knd.hash k) (val k tk)
    dsimp only
    generalize layNew t es (knd.hash k) (val k tk) = made at d1 d2 d3 d4 ⊢
    obtain ⟨es1, t1, old, gave⟩ := made
    dsimp only at d1 d2 d3 d4 ⊢
    rw [Array.toList_push] at d1
    have pe : es1.toList.Perm ((knd.hash k, val k tk) :: es.toList) := d1.trans (List.perm_append_singleton _ _)
    have pk : (keysOf key es1).Perm (k :: keysOf key es) := by
      have q := pe.map fun e : Int × Value => key e.2
      rw [List.map_cons] at q
      rw [show key (knd.hash k, val k tk).2 = k from ok.back k tk] at q
      exact q
    have z1 : es1.size = n + 1 := by
      have q := pe.length_eq
      rw [List.length_cons, Array.length_toList, Array.length_toList, T.num] at q
      exact q
    have e1 : ∀ e ∈ es1.toList, entK knd val e := fun e he => by
      rcases List.mem_cons.mp (pe.mem_iff.mp he) with z | z
      · exact ⟨k, tk, z⟩
      · exact T.ent e z
    have m1 : ∀ i, (S i || decide (i = k)) = true ↔ i ∈ keysOf key es1 := fun i => by
      rw [pk.mem_iff, List.mem_cons, Bool.or_eq_true, decide_eq_true_eq, T.mem i, or_comm]
    have n1 : (keysOf key es1).Nodup := pk.nodup_iff.mpr (List.nodup_cons.mpr ⟨notIn, T.nodup⟩)
    have fin : ∀ h', Heap.SameBut a s.heap h' → SetK1 knd val key h' a (fun j => S j || decide (j = k)) (n + 1) → Q true { s with heap := h' } := fun h' sb r => by
      have q := hQ h' sb
      rw [outS] at q
      exact q r
    have rm : es1.size < scanBound := by rw [z1]; exact few
    have ld : w.params.followText "set-order" = true ∨ t1.led = true := T.led.imp id fun z => d4.trans z
    refine wpAny_bind (gone _ ?_)
    split
    · refine wpAny_bind ?_
      rw [hashByValue_scannable 8 (ok.scan k tk)]
      refine wpAny_pure ?_
      refine putK (knd := knd) (val := val) (key := key) T.here T.exact_ T.data (fun b s1 R' q => ?_) e1 n1 m1 rm ?_ z1 ?_ ?_ fun h' sb r => ?_
      · cases b <;> first | exact wpAny_pure q | exact wpAny_rule q
      · first | exact d2 | (split <;> first | exact d2 | exact SetTable.fits_plain_off d2)
      · first | exact d3 | (split <;> exact d3)
      · first | exact ld | (split <;> exact ld)
      · dsimp only
        exact wpAny_pure (fin h' sb r)
    · refine wpAny_bind (wpAny_pure ?_)
      rw [if_pos rfl]
      refine putK (knd := knd) (val := val) (key := key) T.here T.exact_ T.data (fun b s1 R' q => ?_) e1 n1 m1 rm d2 z1 d3 ld fun h' sb r => ?_
      · cases b <;> first | exact wpAny_pure q | exact wpAny_rule q
      · dsimp only
        exact wpAny_pure (fin h' sb r)
/-! ### all of a walk, one after the other -/
omit ok in
/-- each once, as met first -/
def dd (xs : List κ) : List κ := xs.foldl (fun acc x => if x ∈ acc then acc else acc ++ [x]) []
omit ok in
theorem dd_snoc (xs : List κ) (x : κ) : dd (xs ++ [x]) = if x ∈ dd xs then dd xs else dd xs ++ [x] := by
  unfold dd
  rw [List.foldl_append]
  rfl
omit ok in
theorem dd_mem : ∀ (xs : List κ) (acc : List κ) (x : κ), x ∈ xs.foldl (fun acc x => if x ∈ acc then acc else acc ++ [x]) acc ↔ x ∈ acc ∨ x ∈ xs
  | [], acc, x => by simp
  | y :: ys, acc, x => by
    rw [List.foldl_cons, dd_mem ys, List.mem_cons]
    by_cases c : y ∈ acc
    · rw [if_pos c]
      constructor
      · rintro (h | h)
        · exact Or.inl h
        · exact Or.inr (Or.inr h)
      · rintro (h | rfl | h)
        · exact Or.inl h
        · exact Or.inl c
        · exact Or.inr h
    · rw [if_neg c, List.mem_append, List.mem_singleton, or_assoc]
omit ok in
theorem mem_dd {xs : List κ} {x : κ} : x ∈ dd xs ↔ x ∈ xs := by
  have := dd_mem xs [] x
  simpa [dd] using this
omit ok in
theorem dd_nodup (xs : List κ) : (dd xs).Nodup := by
  have go : ∀ (ys acc : List κ), acc.Nodup → (ys.foldl (fun acc x => if x ∈ acc then acc else acc ++ [x]) acc).Nodup := by
    intro ys
    induction ys with
    | nil => exact fun acc h => h
    | cons y ys ih =>
      intro acc h
      rw [List.foldl_cons]
      by_cases c : y ∈ acc
      · rw [if_pos c]
        exact ih acc h
      · rw [if_neg c]
        refine ih _ (List.nodup_append.mpr ⟨h, List.nodup_cons.mpr ⟨by simp, List.nodup_nil⟩, fun u hu v hv e => ?_⟩)
        rw [List.mem_singleton] at hv
        exact c (by rw [← hv, ← e]; exact hu)
  exact go xs [] List.nodup_nil
omit ok in
theorem dd_le (xs : List κ) : (dd xs).length ≤ xs.length := by
  have go : ∀ (ys acc : List κ), (ys.foldl (fun acc x => if x ∈ acc then acc else acc ++ [x]) acc).length ≤ acc.length + ys.length := by
    intro ys
    induction ys with
    | nil => exact fun acc => Nat.le_refl _
    | cons y ys ih =>
      intro acc
      rw [List.foldl_cons, List.length_cons]
      refine Nat.le_trans (ih _) ?_
      by_cases c : y ∈ acc
      · rw [if_pos c]
        omega
      · rw [if_neg c, List.length_append, List.length_singleton]
        omega
  have := go xs []
  simpa [dd] using this
theorem walkK {A : Around} {R : Result → Shared → Prop} {I D : Addr} {fp wr : List Addr} {G : Array GenState → Array GenState → Prop} {Pv : Nat → Value → Prop} {St : Nat → Shared → Prop} {xs : List κ} (W : WalksS P w A.in1 I fp wr G xs.length Pv St) (nD : D ∉ fp)
    (few : xs.length + 1 < scanBound) (hval : ∀ i v, Pv i v → ∃ k t, xs[i]? = some k ∧ v = val k t) :
    ∀ (m i : Nat) (s : Shared), i + m = xs.length → St i s → SetK1 knd val key s.heap D (fun k => decide (k ∈ xs.take i)) (dd (xs.take i)).length →
      (∀ s', Moved (D :: wr) G s s' → SetK1 knd val key s'.heap D (fun k => decide (k ∈ xs)) (dd xs).length → R (.ok (.ret .none)) s') →
      codeAny (model P w) A (.builtin "set.update.loop" ⟨[.ref D, .ref I], []⟩) R s := by
  have nDw : D ∉ wr := fun z => nD (W.sub _ z)
  have more : ∀ b ∈ wr, b ∈ D :: wr := fun b z => List.mem_cons_of_mem _ z
  intro m
  induction m with
  | zero =>
    intro i s hi st hS hR
    have e : i = xs.length := by omega
    subst e
    rw [List.take_length] at hS
    refine codeAny_builtin PyProof.Rows.F.entry_set_update_loop ?_
    rw [Around.under_plainId PyProof.Rows.F.plain_set_update_loop _]
    show wpAny _ A.in1 (pyNext (.ref I) >>= _) _ _ s
    refine wpAny_bind (W.done s _ _ st fun s1 mv => ?_)
    exact wpAny_pure (hR s1 (mv.mono more) (hS.keep fun o e => mv.heap D o nDw e))
  | succ m ih =>
    intro i s hi st hS hR
    have lt : i < xs.length := by omega
    refine codeAny_builtin PyProof.Rows.F.entry_set_update_loop ?_
    rw [Around.under_plainId PyProof.Rows.F.plain_set_update_loop _]
    show wpAny _ A.in1 (pyNext (.ref I) >>= _) _ _ s
    refine wpAny_bind (W.item i s _ _ lt st fun v s1 hP st1 mv => ?_)
    obtain ⟨k, tk, hk, rfl⟩ := hval i v hP
    have S1 := hS.keep (h' := s1.heap) fun o e => mv.heap D o nDw e
    have tk1 : xs.take (i + 1) = xs.take i ++ [k] := by rw [List.take_add_one, hk]; rfl
    have hl : (dd (xs.take i)).length ≤ i := Nat.le_trans (dd_le _) (by rw [List.length_take]; omega)
    show wpAny _ A.in1 (holding [val k tk] (setAdd D (val k tk)) >>= _) _ _ s1
    refine wpAny_bind (wpAny_holding ?_)
    unfold setAdd
    refine wpAny_holding (wpAny_bind (knd.pyHash (k := k) ((ok.isv k k tk).mpr rfl) ?_))
    refine addK ok (s := { s1 with toks := s1.toks + 1 }) S1 (by omega) fun h' sb S2 => ?_
    have S3 : SetK1 knd val key h' D (fun k => decide (k ∈ xs.take (i + 1))) (dd (xs.take (i + 1))).length := by
      refine S2.congr (fun j => ?_) ?_
      · rw [tk1]
        simp [List.mem_append]
      · rw [tk1, dd_snoc]
        by_cases c : k ∈ xs.take i
        · rw [if_pos (mem_dd.mpr c), if_pos (decide_eq_true c)]
        · rw [if_neg fun z => c (mem_dd.mp z), if_neg (by simpa using c), List.length_append]
          rfl
    refine wpAny_pure ⟨plainId_quiet PyProof.Rows.F.plain_set_update_loop _, ih (i + 1) _ (by omega) (W.frame _ s1 _ _ st1 (Nat.le_succ _) fun b hb o e => ?_) S3 fun s2 mv2 S4 => ?_⟩
    · exact (sb.2 b fun z => nD (z ▸ hb)).trans e
    · refine hR s2 (Moved.trans W.gtrans ((mv.mono more).then_heap (Nat.le_succ _) fun b o hb e => ?_) mv2) S4
      exact (sb.2 b fun z => hb (by rw [z]; exact List.mem_cons_self)).trans e
omit ok in
theorem freshK {h : Heap} : SetK1 knd val key (h.push { cls := .type "set", dict := none, data := .set #[] 0 (.fresh 0 0 (!w.params.followText "set-order")) }) h.objs.size (fun _ => false) 0 := by
  refine ⟨_, #[], 0, _, { here := Heap.get?_push_size _ rfl, exact_ := ⟨rfl, rfl, rfl⟩, data := rfl, ent := fun e he => by simp at he, nodup := List.nodup_nil, mem := fun k => ⟨fun z => Bool.noConfusion z, fun z => by simp at z⟩, room := by decide, fits := by rfl, num := rfl, ris := List.Pairwise.nil, led := ?_ }⟩
  cases w.params.followText "set-order"
  · exact Or.inr rfl
  · exact Or.inl rfl
end
section
variable {P : Program} {w : World} {A : Around} {E : Value → Shared → Prop} {s : Shared}
/-- set.__new__ of one argument: which set it is, to the letter -/
theorem new_led1 (v : Value) {Q1 : Value → Shared → Prop}
    (h : Q1 (.ref s.heap.objs.size) { s with heap := s.heap.push { cls := .type "set", dict := none, data := .set #[] 0 (.fresh 0 0 (!w.params.followText "set-order")) } }) :
    codeAny (model P w) A (.call (.builtin "set.__new__") ⟨[.type "set", v], []⟩) (wants Q1 E) s := by
  refine codeAny_of_tree (show wpAny _ A.in1 (do checkBuiltinCall "set.__new__" ⟨[.type "set", v], []⟩; again (.builtin "set.__new__" ⟨[.type "set", v], []⟩)) _ _ s from ?_)
  refine wpAny_bind (wpAny_of_eq (PySem.F.newCall_set_1 v) (wpAny_pure ⟨plainId_quiet PySem.F.plain_set_new _, codeAny_builtin PySem.F.entry_set_new ?_⟩))
  rw [Around.under_plainId PySem.F.plain_set_new _]
  have isSet := PySem.sub_set_self
  obtain ⟨hp, gs, dr, tk, os⟩ := s
  unfold Builtin.«set.__new__» Builtin.Frozenset.newClass
  dsimp only
  wp_walk
  refine wpAny_askSetting (wpAny_pure ?_)
  dsimp only [newObj]
  exact wpAny_bind (wpAny_alloc (wpAny_pure (wpAny_pure h)))
/-- what an iteration of v gives -/
def Iters (P : Program) (w : World) (s : Shared) (v : Value) (Pv : Nat → Value → Prop) (n : Nat) : Prop := ∀ (s1 : Shared) (A1 : Around) (E1 : Value → Shared → Prop) (Q1 : Value → Shared → Prop), (∀ b o, s.heap.get? b = some o → s1.heap.get? b = some o) → A1.handled = none →
  (∀ (h2 : Heap) (tk : Nat) (I : Addr) (fp : List Addr) (St : Nat → Heap → Prop), (∀ b o, s1.heap.get? b = some o → h2.get? b = some o) → s1.heap.objs.size ≤ I → (∀ b ∈ fp, b < s.heap.objs.size ∨ s1.heap.objs.size ≤ b) →
    (∀ A' : Around, A'.handled = none → Walks P w A' I fp [I] n Pv St) → St 0 h2 → Q1 (.ref I) { s1 with heap := h2, toks := tk }) → wpAny (model P w) A1 (pyIter v) Q1 E1 s1
variable {κ : Type} [DecidableEq κ] {knd : PySem.KeyKind P w κ} {val : κ → Tok → Value} {key : Value → κ}
theorem setOfK (ok : KyOk knd val key) {v : Value} {T : String} {xs : List κ} {Pv : Nat → Value → Prop} {Q : Value → Shared → Prop} (hh : A.handled = none) (hT : ∀ s1 : Shared, (∀ b o, s.heap.get? b = some o → s1.heap.get? b = some o) → s1.TypeIs v T)
    (t1 : isSubtype (.type T) (.type "set") = pure false) (t2 : isSubtype (.type T) (.type "frozenset") = pure false) (t3 : (Value.type T == Value.type "dict") = false) (few : xs.length + 1 < scanBound)
    (it : Iters P w s v Pv xs.length) (hval : ∀ i u, Pv i u → ∃ k t, xs[i]? = some k ∧ u = val k t)
    (hQ : ∀ (h' : Heap) (tk : Nat), SetK1 knd val key h' s.heap.objs.size (fun k => decide (k ∈ xs)) (dd xs).length → (∀ b o, s.heap.get? b = some o → h'.get? b = some o) → Q (.ref s.heap.objs.size) { s with heap := h', toks := tk }) :
    wpAny (model P w) A (call (.type "set") [v]) Q E s := by
  obtain ⟨c, tl, hmro⟩ := PySem.F.called_set.mro
  have hmade := PySem.F.called_set.made
  have hsub := PySem.F.called_set.sub
  have h1 := PySem.F.called_set.notType
  have h2 := PySem.F.called_set.canCreate
  have hct := PySem.F.typeCall_set_1 v
  refine wpAny_call (codeAny_of_tree (show wpAny _ _ (callAny (.type "set") _) _ _ _ from ?_))
  refine wpAny_pure ⟨Code.quiet_builtin _ (by decide +kernel), codeAny_builtin PySem.F.entry_type_call ?_⟩
  rw [Around.under_plain (weight_type_call_type "set" [v] []) rfl]
  repeat (any_goals (first | assumption | wp_step))
  generalize hB : ({ cls := .type "set", dict := none, data := .set #[] 0 (.fresh 0 0 (!w.params.followText "set-order")) } : Obj) = B
  refine codeAny_mono (new_led1 v (E := E) (Q1 := fun obj s1 => obj = .ref s.heap.objs.size ∧ s1 = { s with heap := s.heap.push B }) (by rw [← hB]; exact ⟨rfl, rfl⟩)) fun r s1 hr => ?_
  match r, hr with
  | .error e, hr => exact hr
  | .ok .next, hr => exact hr.elim
  | .ok .brk, hr => exact hr.elim
  | .ok .cont, hr => exact hr.elim
  | .ok (.ret obj), hr =>
    obtain ⟨rfl, rfl⟩ := hr
    have live : B.isFreed = false := by rw [← hB]; rfl
    have at0 : (s.heap.push B).get? s.heap.objs.size = some B := Heap.get?_push_size _ live
    have old : ∀ b o, s.heap.get? b = some o → (s.heap.push B).get? b = some o := fun b o e => Heap.get?_push_of_some _ e
    have ty : Shared.TypeIs { s with heap := s.heap.push B } (.ref s.heap.objs.size) "set" := ⟨_, at0, by rw [← hB]⟩
    have tv := hT { s with heap := s.heap.push B } old
    have hli := PySem.F.called_set.init.lookup
    have hbi := PySem.F.called_set.init.bind (.ref s.heap.objs.size)
    repeat (any_goals (first | assumption | wp_step))
    refine codeAny_mono (codeAny_call_builtin (R := wants (fun r s2 => r = .none ∧ ∃ h' tk, s2 = { s with heap := h', toks := tk } ∧ SetK1 knd val key h' s.heap.objs.size (fun k => decide (k ∈ xs)) (dd xs).length ∧ ∀ b o, s.heap.get? b = some o → h'.get? b = some o) E)
      PySem.F.called_set.init.plain PySem.F.entry_set_init (PySem.check_set_init_1 ty ?_)) fun r2 s2 hr2 => ?_
    · have at0' : (s.heap.push { cls := .type "set", dict := none, data := .set #[] 0 (.fresh 0 0 (!w.params.followText "set-order")) }).get? s.heap.objs.size = some { cls := .type "set", dict := none, data := .set #[] 0 (.fresh 0 0 (!w.params.followText "set-order")) } := by
        rw [hB]
        exact at0
      unfold Builtin.«set.__init__» noKeywords Builtin.Frozenset.updateFrom
      generalize hPI : pyIter = PI
      subst hB
      wp_walk
      subst hPI
      refine it _ _ _ _ old (by simp [hh]) fun h2 tk I fp St k2 hI hfp W st => ?_
      rw [Heap.size_push] at hI hfp
      refine wpAny_bind (wpAny_runValue ?_)
      have off : s.heap.objs.size ∉ fp := fun z => by
        rcases hfp _ z with q | q
        · exact Nat.lt_irrefl _ q
        · exact Nat.not_succ_le_self _ q
      have none_ : A.in1.in1.in1.handled = none := by simp [hh]
      refine walkK ok (Walks.toS (W _ none_)) off few hval xs.length 0 _ (Nat.zero_add _) st ?_ fun s3 mv S3 => ?_
      · refine (freshK.keep (h' := h2) fun o e => k2 _ o e).congr (fun k => ?_) rfl
        simp
      · have e3 := mv.eq_with
        refine wpAny_pure (wpAny_pure ⟨rfl, s3.heap, s3.toks, by rw [e3], S3, fun b o e => mv.heap b o (fun z => ?_) (k2 _ _ (old b o e))⟩)
        have lt := Heap.lt_size e
        rcases List.mem_cons.mp z with z | z
        · exact Nat.lt_irrefl _ (z ▸ lt)
        · rw [List.mem_singleton.mp z] at lt
          exact Nat.lt_irrefl _ (Nat.lt_trans lt hI)
    · match r2, hr2 with
      | .error e, hr2 => exact hr2
      | .ok .next, hr2 => exact hr2.elim
      | .ok .brk, hr2 => exact hr2.elim
      | .ok .cont, hr2 => exact hr2.elim
      | .ok (.ret u), hr2 =>
        obtain ⟨rfl, h', tk, rfl, S', keep⟩ := hr2
        repeat (any_goals (first | assumption | wp_step))
        exact hQ h' tk S' keep
end
end LX
/-! ### sets of texts and of ints, as tracked objects -/
namespace LX
open PySem PySem.Spec PyProof.Rows L2
theorem okS (P : Program) (w : World) : KyOk (PySem.strKind P w) (fun k t => Value.str k t) strOf where
  back := fun _ _ => rfl
  isv := fun k k' t => by
    show Value.isStrOf k (.str k' t) = true ↔ k' = k
    exact beq_iff_eq
  scan := fun _ _ => rfl
theorem okI (P : Program) (w : World) : KyOk (intKind P w) (fun k t => Value.int k t) Builtin.Re.reRawOf where
  back := fun _ _ => rfl
  isv := fun k k' t => by
    show (k' == k) = true ↔ k' = k
    exact beq_iff_eq
  scan := fun _ _ => rfl
def TxtSet (P : Program) (w : World) (a : Addr) (S : Str → Bool) (n : Nat) : HO := .ext fun h => SetK1 (PySem.strKind P w) (fun k t => Value.str k t) strOf h a S n
def IntSet (P : Program) (w : World) (a : Addr) (S : Int → Bool) (n : Nat) : HO := .ext fun h => SetK1 (intKind P w) (fun k t => Value.int k t) Builtin.Re.reRawOf h a S n
theorem SetK1.lives {P : Program} {w : World} {κ : Type} [DecidableEq κ] {knd : PySem.KeyKind P w κ} {val : κ → Tok → Value} {key : Value → κ} {h : Heap} {a : Addr} {S : κ → Bool} {n : Nat} (R : SetK1 knd val key h a S n) : ∃ o, h.get? a = some o :=
  let ⟨o, _, _, _, T⟩ := R
  ⟨o, T.here⟩
theorem txtNew {P : Program} {w : World} {H : Hp} {h : Heap} {a : Addr} {S : Str → Bool} {n : Nat} (R : SetK1 (PySem.strKind P w) (fun k t => Value.str k t) strOf h a S n) : ObjOk P w H h a (TxtSet P w a S n) :=
  ⟨R, R.lives, fun h1 h2 p k => p.keep k⟩
theorem intNew {P : Program} {w : World} {H : Hp} {h : Heap} {a : Addr} {S : Int → Bool} {n : Nat} (R : SetK1 (intKind P w) (fun k t => Value.int k t) Builtin.Re.reRawOf h a S n) : ObjOk P w H h a (IntSet P w a S n) :=
  ⟨R, R.lives, fun h1 h2 p k => p.keep k⟩
section
variable {P : Program} {w : World} {s : Shared}
theorem itersList {l : Addr} {items : Array Value} (hl : s.heap.IsList l items) : Iters P w s (.ref l) (fun i v => items[i]? = some v) items.size := by
  intro s1 A1 E1 Q1 old hA k
  obtain ⟨o, ho, hc, n, hd⟩ := hl
  have hl1 : s1.heap.IsList l items := ⟨o, old _ _ ho, hc, n, hd⟩
  have lt : l < s.heap.objs.size := Heap.lt_size ho
  have lt1 : l < s1.heap.objs.size := Heap.lt_size (old _ _ ho)
  refine wpAny_pyIter_list hl1 ?_
  exact k _ s1.toks s1.heap.objs.size [s1.heap.objs.size, l] _ (fun b o e => Heap.get?_push_of_some _ e) (Nat.le_refl _) (fun b hb => by
      rcases List.mem_cons.mp hb with z | z
      · exact Or.inr (Nat.le_of_eq z.symm)
      · exact Or.inl (by rw [List.mem_singleton.mp z]; exact lt))
    (fun A' hA' => Walks.list hA' s1.heap.objs.size l (Nat.ne_of_lt lt1) items) ⟨⟨_, Heap.get?_push_size _ rfl, rfl, rfl⟩, hl1.push _⟩
theorem itersStr {z : Str} {t : Tok} : Iters P w s (.str z t) (SignAt z) z.cps.size := by
  intro s1 A1 E1 Q1 old hA k
  refine wpAny_pyIter_str fun o St W st => ?_
  exact k _ s1.toks s1.heap.objs.size [s1.heap.objs.size] St (fun b o e => Heap.get?_push_of_some _ e) (Nat.le_refl _) (fun b hb => Or.inr (Nat.le_of_eq (List.mem_singleton.mp hb).symm)) W st
end
abbrev one1 (c : Nat) : Str := ⟨#[c]⟩
def signs (z : Str) : List Str := z.cps.toList.map one1
theorem valsI_at : ∀ {ns : List Int} {us : List Value}, Vals (ns.map V.int) us → ∀ (i : Nat) (u : Value), us[i]? = some u → ∃ k t, ns[i]? = some k ∧ u = Value.int k t
  | [], _, .nil, i, u, h => by simp at h
  | n :: ns, _, .cons r rs, 0, u, h => by
    obtain ⟨t, rfl⟩ := r
    simp at h
    exact ⟨n, t, rfl, h.symm⟩
  | n :: ns, _, .cons r rs, i + 1, u, h => by
    obtain ⟨k, t, h1, h2⟩ := valsI_at rs i u (by simpa using h)
    exact ⟨k, t, by simpa using h1, h2⟩
theorem valsS_at : ∀ {ns : List Str} {us : List Value}, Vals (ns.map V.str) us → ∀ (i : Nat) (u : Value), us[i]? = some u → ∃ k t, ns[i]? = some k ∧ u = Value.str k t
  | [], _, .nil, i, u, h => by simp at h
  | n :: ns, _, .cons r rs, 0, u, h => by
    obtain ⟨t, rfl⟩ := r
    simp at h
    exact ⟨n, t, rfl, h.symm⟩
  | n :: ns, _, .cons r rs, i + 1, u, h => by
    obtain ⟨k, t, h1, h2⟩ := valsS_at rs i u (by simpa using h)
    exact ⟨k, t, by simpa using h1, h2⟩
section
variable {X : Cx}
/-- set(xs): a list of texts, or the signs of a text -/
def rSetS (K : PySem.W.Frag) (P : Program) (w : World) : List V → Hp → VK → Prop := fun xs H Q => ∃ ks : List Str, ((∃ l, xs = [.ref l] ∧ SqL K H l (ks.map V.str)) ∨ ∃ z, xs = [.str z] ∧ ks = signs z) ∧ ks.length + 1 < 4096 ∧
  ∀ p, H p = none → Q (.ref p) (upd H p (TxtSet P w p (fun k => decide (k ∈ ks)) (dd ks).length))
theorem cr_setS (hc : X.calm = true) : CallR X (.type "set") (rSetS X.K X.prog X.w) := by
  intro pins s σ H xs us Q I r h
  obtain ⟨ks, how, few, q⟩ := h
  have done_ : ∀ (h' : Heap) (tk : Nat), SetK1 (PySem.strKind X.prog X.w) (fun k t => Value.str k t) strOf h' s.heap.objs.size (fun k => decide (k ∈ ks)) (dd ks).length → (∀ b o, s.heap.get? b = some o → h'.get? b = some o) →
      EP X pins σ Q (.ref s.heap.objs.size) { s with heap := h', toks := tk } := fun h' tk S' keep =>
    ⟨.ref s.heap.objs.size, _, I.laid keep (Nat.le_refl _) (txtNew S'), rfl, q _ (I.hok.fresh (Nat.le_refl _))⟩
  rcases how with ⟨l, rfl, hs⟩ | ⟨z, rfl, rfl⟩
  · obtain ⟨its, rv, pl, _⟩ := I.list hs
    rw [Vals.ref1 r]
    have len : its.toArray.size = ks.length := by
      rw [List.size_toArray, ← rv.length, List.length_map]
    have il := pl.isList
    obtain ⟨o, ho, hcl, n, hd⟩ := id il
    refine setOfK (okS X.prog X.w) (T := "list") (Pv := fun i u => its.toArray[i]? = some u) (xs := ks) (I.ok.hd hc) (fun s1 old => ⟨o, old _ _ ho, hcl⟩) PySem.F.sub_list_set PySem.F.sub_list_frozenset (by decide) few ?_ (fun i u hu => valsS_at rv i u (by simpa using hu)) done_
    rw [← len]
    exact itersList il
  · obtain ⟨u, rfl, t, rfl⟩ := vals1 r
    have len : z.cps.size = (signs z).length := by unfold signs; rw [List.length_map, Array.length_toList]
    refine setOfK (okS X.prog X.w) (T := "str") (Pv := SignAt z) (xs := signs z) (I.ok.hd hc) (fun s1 old => rfl) PySem.F.sub_str_set PySem.F.sub_str_frozenset (by decide) few ?_ (fun i u hu => ?_) done_
    · rw [← len]
      exact itersStr
    · obtain ⟨c, t', hc', rfl⟩ := hu
      refine ⟨⟨#[c]⟩, t', ?_, rfl⟩
      unfold signs
      rw [List.getElem?_map, Array.getElem?_toList, hc']
      rfl
/-- set(xs), a list of ints -/
def rSetI (K : PySem.W.Frag) (P : Program) (w : World) : List V → Hp → VK → Prop := fun xs H Q => ∃ (ks : List Int) (l : Addr), xs = [.ref l] ∧ SqL K H l (ks.map V.int) ∧ ks.length + 1 < 4096 ∧
  ∀ p, H p = none → Q (.ref p) (upd H p (IntSet P w p (fun k => decide (k ∈ ks)) (dd ks).length))
theorem cr_setI (hc : X.calm = true) : CallR X (.type "set") (rSetI X.K X.prog X.w) := by
  intro pins s σ H xs us Q I r h
  obtain ⟨ks, l, rfl, hs, few, q⟩ := h
  obtain ⟨its, rv, pl, _⟩ := I.list hs
  rw [Vals.ref1 r]
  have len : its.toArray.size = ks.length := by
    rw [List.size_toArray, ← rv.length, List.length_map]
  have il := pl.isList
  obtain ⟨o, ho, hcl, n, hd⟩ := id il
  refine setOfK (okI X.prog X.w) (T := "list") (Pv := fun i u => its.toArray[i]? = some u) (xs := ks) (I.ok.hd hc) (fun s1 old => ⟨o, old _ _ ho, hcl⟩) PySem.F.sub_list_set PySem.F.sub_list_frozenset (by decide) few ?_ (fun i u hu => valsI_at rv i u (by simpa using hu)) fun h' tk S' keep => ?_
  · rw [← len]
    exact itersList il
  · exact ⟨.ref s.heap.objs.size, _, I.laid keep (Nat.le_refl _) (intNew S'), rfl, q _ (I.hok.fresh (Nat.le_refl _))⟩
/-- len of such a set -/
def rLenSet (P : Program) (w : World) : List V → Hp → VK → Prop := fun xs H Q => ∃ (a : Addr) (n : Nat), xs = [.ref a] ∧ ((∃ S, H a = some (TxtSet P w a S n)) ∨ ∃ S, H a = some (IntSet P w a S n)) ∧ Q (.int n) H
theorem cr_lenSet : CallR X (.builtin "len") (rLenSet X.prog X.w) := by
  intro pins s σ H xs us Q I r h
  obtain ⟨a, n, rfl, how, q⟩ := h
  rw [Vals.ref1 r]
  have fin : ∀ {κ : Type} [DecidableEq κ] {knd : PySem.KeyKind X.prog X.w κ} {val : κ → Tok → Value} {key : Value → κ} {S : κ → Bool}, SetK1 knd val key s.heap a S n → wpAny (model X.prog X.w) X.A (call (.builtin "len") [.ref a]) (EP X pins σ Q) X.xe s := by
    intro κ _ knd val key S R
    obtain ⟨o, es, ep, t, T⟩ := R
    have room := T.room
    have e := T.num
    unfold scanBound at room
    exact call_len_set T.here T.exact_ T.data T.fits (by omega) ⟨.int n, H, I.tok _, ⟨_, by rw [e]⟩, q⟩
  rcases how with ⟨S, hS⟩ | ⟨S, hS⟩
  · exact fin (I.hok a _ hS).1
  · exact fin (I.hok a _ hS).1
end
/-! ### sorted -/
theorem strs_are : ∀ (l : List Value), (∀ v ∈ l, ∃ k t, v = Value.str k t) → StrsAre l (l.map strOf)
  | [], _ => .nil
  | v :: l, h => by
    obtain ⟨k, t, rfl⟩ := h v List.mem_cons_self
    exact .cons k t (strs_are l fun u hu => h u (List.mem_cons_of_mem _ hu))
section
variable {P : Program} {w : World} {A : Around} {E : Value → Shared → Prop} {s : Shared}
theorem sortTxt {a : Addr} {S : Str → Bool} {n : Nat} {Q : Value → Shared → Prop} (R : SetK1 (PySem.strKind P w) (fun k t => Value.str k t) strOf s.heap a S n) (hh : A.handled = none)
    (hQ : ∀ (s2 : Shared) (p : Addr) (out : Array Value) (c : Nat) (ys : List Str), (∀ b o, s.heap.get? b = some o → s2.heap.get? b = some o) → s2.gens = s.gens → s2.os = s.os → s.heap.objs.size ≤ p → s2.heap.get? p = some (seqObj "list" out c) → StrsAre out.toList ys →
      sortedS ys = true → ys.Nodup → (∀ k, k ∈ ys ↔ S k = true) → ys.length = n → Q (.ref p) s2) :
    wpAny (model P w) A (call (.builtin "sorted") [.ref a]) Q E s := by
  obtain ⟨o, es, ep, t, T⟩ := R
  have small := T.room
  unfold scanBound at small
  refine Calls.call_function_entry kind_sorted plain_sorted entry_sorted (args_sorted1 _) ?_
  unfold Builtin.«sorted»
  refine wpAny_bind (m := checkCount "sorted" 1 1 _) (wpAny_pure (wpAny_bind (collect_set (A := A.in1) hh ⟨o, T.here, T.exact_.1, T.data⟩ T.fits T.room T.ris T.led fun s1 vs k1 z1 g1 o1 pm => ?_)))
  have len : vs.length = n := by rw [pm.length_eq, List.length_map, Array.length_toList, T.num]
  have few : vs.length ≤ sizeLine := by
    rw [len, sizeLine_eq]
    have := T.num
    omega
  have txt : StrsAre vs (vs.map strOf) := strs_are vs fun v hv => by
    obtain ⟨e, he, q⟩ := List.mem_map.mp (pm.mem_iff.mp hv)
    obtain ⟨k, tk, rfl⟩ := T.ent e he
    exact ⟨k, tk, q.symm⟩
  have pk : (vs.map strOf).Perm (keysOf strOf es) := by
    have q := pm.map strOf
    rw [List.map_map] at q
    exact q
  have at0 : (s1.heap.push (seqObj "list" vs.toArray 0)).get? s1.heap.objs.size = some (seqObj "list" vs.toArray 0) := Heap.get?_push_size _ rfl
  refine wpAny_bind (wpAny_newList (wpAny_bind (wpAny_holding (wpAny_call_entry slot_list_sort ⟨_, at0, rfl⟩ entry_list_sort
    (list_sort_treeKAny PyProof.Rows.strKind_oneLt at0 txt.keysOf (fun v1 v2 rest e => keyKind_strs (by rw [← e]; exact txt)) few fun st p1 p2 => ⟨_, rfl, ?_⟩) (args_list_sort _)))) few)
  obtain ⟨ys, y1, y2, y3⟩ := sorted_out_str txt p1 p2
  obtain ⟨c, hc⟩ := sortedHeap_at (vs := vs) (out := (arrOf st).map (·.2)) at0
  have py : ys.Perm (keysOf strOf es) := y2.trans pk
  refine wpAny_pure ⟨_, rfl, hQ _ s1.heap.objs.size _ c ys (fun b u e => ?_) g1 o1 z1 hc y1 y3 (py.nodup_iff.mpr T.nodup) (fun k => by rw [py.mem_iff, ← T.mem k]) (by rw [y2.length_eq, List.length_map, len])⟩
  have q := k1 b u e
  have lt := Heap.lt_size q
  exact (sortedHeap_old (Nat.ne_of_lt lt) (by rw [size_push']; exact Nat.lt_succ_of_lt lt)).trans (Heap.get?_push_of_some _ q)
end
section
variable {X : Cx}
def rSortTxt (P : Program) (w : World) : List V → Hp → VK → Prop := fun xs H Q => ∃ (a : Addr) (S : Str → Bool) (n : Nat), xs = [.ref a] ∧ H a = some (TxtSet P w a S n) ∧
  ∀ p ys, H p = none → sortedS ys = true → ys.Nodup → (∀ k, k ∈ ys ↔ S k = true) → ys.length = n → Q (.ref p) (upd H p (.lst (ys.map V.str)))
theorem cr_sortTxt (hc : X.calm = true) : CallR X (.builtin "sorted") (rSortTxt X.prog X.w) := by
  intro pins s σ H xs us Q I r h
  obtain ⟨a, S, n, rfl, hS, q⟩ := h
  rw [Vals.ref1 r]
  have R : SetK1 (PySem.strKind X.prog X.w) (fun k t => Value.str k t) strOf s.heap a S n := (I.hok a _ hS).1
  have room : n < 4096 := by
    obtain ⟨o, es, ep, t, T⟩ := R
    have := T.room
    rw [T.num] at this
    exact this
  refine sortTxt R (I.ok.hd hc) fun s2 p out c ys k2 g2 o2 hp at2 y1 y3 nd mem len => ?_
  have sz : (ys.map V.str).length ≤ sizeLine := by
    rw [List.length_map, len, sizeLine_eq]
    omega
  exact ⟨.ref p, _, I.call' (ch := []) o2 (Un.laid k2 hp (I.hok.fresh hp)) (I.hok.laid (o := .lst (ys.map V.str)) k2 hp ⟨sz, out.toList, c, vals_of_strs y1, at2⟩) (by rw [g2]; exact I.bare) (fun _ z => nomatch z), rfl, q p ys (I.hok.fresh hp) y3 nd mem len⟩
end
section
variable {P : Program} {w : World} {A : Around} {E : Value → Shared → Prop} {s : Shared}
theorem sortInt {a : Addr} {S : Int → Bool} {n : Nat} {Q : Value → Shared → Prop} (R : SetK1 (intKind P w) (fun k t => Value.int k t) Builtin.Re.reRawOf s.heap a S n) (hh : A.handled = none)
    (hQ : ∀ (s2 : Shared) (p : Addr) (out : Array Value) (c : Nat) (ys : List Int), (∀ b o, s.heap.get? b = some o → s2.heap.get? b = some o) → s2.gens = s.gens → s2.os = s.os → s.heap.objs.size ≤ p → s2.heap.get? p = some (seqObj "list" out c) → IntsAre out.toList ys →
      ys.Pairwise (· < ·) → (∀ k, k ∈ ys ↔ S k = true) → ys.length = n → Q (.ref p) s2) :
    wpAny (model P w) A (call (.builtin "sorted") [.ref a]) Q E s := by
  obtain ⟨o, es, ep, t, T⟩ := R
  have small := T.room
  unfold scanBound at small
  refine Calls.call_function_entry kind_sorted plain_sorted entry_sorted (args_sorted1 _) ?_
  unfold Builtin.«sorted»
  refine wpAny_bind (m := checkCount "sorted" 1 1 _) (wpAny_pure (wpAny_bind (collect_set (A := A.in1) hh ⟨o, T.here, T.exact_.1, T.data⟩ T.fits T.room T.ris T.led fun s1 vs k1 z1 g1 o1 pm => ?_)))
  have len : vs.length = n := by rw [pm.length_eq, List.length_map, Array.length_toList, T.num]
  have few : vs.length ≤ sizeLine := by
    rw [len, sizeLine_eq]
    have := T.num
    omega
  have num : IntsAre vs (vs.map Builtin.Re.reRawOf) := ints_of vs fun v hv => by
    obtain ⟨e, he, q⟩ := List.mem_map.mp (pm.mem_iff.mp hv)
    obtain ⟨k, tk, rfl⟩ := T.ent e he
    exact ⟨k, tk, q.symm⟩
  have pk : (vs.map Builtin.Re.reRawOf).Perm (keysOf Builtin.Re.reRawOf es) := by
    have q := pm.map Builtin.Re.reRawOf
    rw [List.map_map] at q
    exact q
  have at0 : (s1.heap.push (seqObj "list" vs.toArray 0)).get? s1.heap.objs.size = some (seqObj "list" vs.toArray 0) := Heap.get?_push_size _ rfl
  refine wpAny_bind (wpAny_newList (wpAny_bind (wpAny_holding (wpAny_call_entry slot_list_sort ⟨_, at0, rfl⟩ entry_list_sort (list_sort_treeAny at0 num few fun out ys y1 y2 y3 => ⟨_, rfl, ?_⟩) (args_list_sort _)))) few)
  obtain ⟨c, hc⟩ := sortedHeap_at (vs := vs) (out := out) at0
  have py : ys.Perm (keysOf Builtin.Re.reRawOf es) := y2.trans pk
  refine wpAny_pure ⟨_, rfl, hQ _ s1.heap.objs.size _ c ys (fun b u e => ?_) g1 o1 z1 hc y1 (lt_of_le_nodup ys y3 (py.nodup_iff.mpr T.nodup)) (fun k => by rw [py.mem_iff, ← T.mem k]) (by rw [y2.length_eq, List.length_map, len])⟩
  have q := k1 b u e
  have lt := Heap.lt_size q
  exact (sortedHeap_old (Nat.ne_of_lt lt) (by rw [size_push']; exact Nat.lt_succ_of_lt lt)).trans (Heap.get?_push_of_some _ q)
end
section
variable {X : Cx}
def rSortInt (P : Program) (w : World) : List V → Hp → VK → Prop := fun xs H Q => ∃ (a : Addr) (S : Int → Bool) (n : Nat), xs = [.ref a] ∧ H a = some (IntSet P w a S n) ∧
  ∀ (p : Addr) (ys : List Int), H p = none → ys.Pairwise (· < ·) → (∀ k, k ∈ ys ↔ S k = true) → ys.length = n → Q (.ref p) (upd H p (.lst (ys.map V.int)))
theorem cr_sortInt (hc : X.calm = true) : CallR X (.builtin "sorted") (rSortInt X.prog X.w) := by
  intro pins s σ H xs us Q I r h
  obtain ⟨a, S, n, rfl, hS, q⟩ := h
  rw [Vals.ref1 r]
  have R : SetK1 (intKind X.prog X.w) (fun k t => Value.int k t) Builtin.Re.reRawOf s.heap a S n := (I.hok a _ hS).1
  have room : n < 4096 := by
    obtain ⟨o, es, ep, t, T⟩ := R
    have := T.room
    rw [T.num] at this
    exact this
  refine sortInt R (I.ok.hd hc) fun s2 p out c ys k2 g2 o2 hp at2 y1 asc mem len => ?_
  have sz : (ys.map V.int).length ≤ sizeLine := by
    rw [List.length_map, len, sizeLine_eq]
    omega
  exact ⟨.ref p, _, I.call' (ch := []) o2 (Un.laid k2 hp (I.hok.fresh hp)) (I.hok.laid (o := .lst (ys.map V.int)) k2 hp ⟨sz, out.toList, c, vals_of_ints y1, at2⟩) (by rw [g2]; exact I.bare) (fun _ z => nomatch z), rfl, q p ys (I.hok.fresh hp) asc mem len⟩
end
/-! ### numbers below a bound, each once, ascending -/
def asc (m : Nat) (cs : List Nat) : List Nat := (List.range m).filter fun c => decide (c ∈ cs)
theorem asc_up (m : Nat) (cs : List Nat) : (asc m cs).Pairwise (· < ·) := List.Pairwise.filter _ List.pairwise_lt_range
theorem mem_asc {m : Nat} {cs : List Nat} (h : ∀ c ∈ cs, c < m) {c : Nat} : c ∈ asc m cs ↔ c ∈ cs := by
  unfold asc
  rw [List.mem_filter, List.mem_range, decide_eq_true_eq]
  exact ⟨fun z => z.2, fun z => ⟨h c z, z⟩⟩
theorem up_same : ∀ {xs ys : List Nat}, xs.Pairwise (· < ·) → ys.Pairwise (· < ·) → (∀ c, c ∈ xs ↔ c ∈ ys) → xs = ys
  | [], [], _, _, _ => rfl
  | [], y :: ys, _, _, h => absurd ((h y).mpr List.mem_cons_self) (by simp)
  | x :: xs, [], _, _, h => absurd ((h x).mp List.mem_cons_self) (by simp)
  | x :: xs, y :: ys, hx, hy, h => by
    obtain ⟨x1, x2⟩ := List.pairwise_cons.mp hx
    obtain ⟨y1, y2⟩ := List.pairwise_cons.mp hy
    have e : x = y := by
      rcases List.mem_cons.mp ((h x).mp List.mem_cons_self) with a | a
      · exact a
      · rcases List.mem_cons.mp ((h y).mpr List.mem_cons_self) with b | b
        · exact b.symm
        · have := y1 x a
          have := x1 y b
          omega
    subst e
    congr 1
    refine up_same x2 y2 fun c => ?_
    constructor
    · intro z
      rcases List.mem_cons.mp ((h c).mp (List.mem_cons_of_mem _ z)) with q | q
      · have := x1 c z
        omega
      · exact q
    · intro z
      rcases List.mem_cons.mp ((h c).mpr (List.mem_cons_of_mem _ z)) with q | q
      · have := y1 c z
        omega
      · exact q
theorem asc_is {m : Nat} {cs xs : List Nat} (hx : xs.Pairwise (· < ·)) (hc : ∀ c ∈ cs, c < m) (h : ∀ c, c ∈ xs ↔ c ∈ cs) : xs = asc m cs := up_same hx (asc_up m cs) fun c => by rw [h, mem_asc hc]
theorem one1_inj {c d : Nat} (h : one1 c = one1 d) : c = d := by
  injection h with h
  injection h with h
  injection h with h
theorem one1_ge {p d : Nat} (h : ltCps (one1 d).cps.toList (one1 p).cps.toList = false) : p ≤ d := by
  rw [ltCps_eq] at h
  have nl : ¬ ([d] : List Nat) < [p] := by simpa using h
  have : ¬ d < p := fun z => nl (List.cons_lt_cons_iff.mpr (Or.inl z))
  omega
theorem rise1 : ∀ {ds : List Nat} {p : Nat}, risingS (one1 p) (ds.map one1) = true → True ∧ (p :: ds).Pairwise (· ≤ ·)
  | [], p, _ => ⟨trivial, List.pairwise_singleton _ _⟩
  | d :: ds, p, h => by
    have h2 : (!ltCps (one1 d).cps.toList (one1 p).cps.toList && risingS (one1 d) (ds.map one1)) = true := h
    rw [Bool.and_eq_true, Bool.not_eq_true'] at h2
    have g := one1_ge h2.1
    obtain ⟨_, ih⟩ := rise1 h2.2
    refine ⟨trivial, List.pairwise_cons.mpr ⟨fun e he => ?_, ih⟩⟩
    rcases List.mem_cons.mp he with z | z
    · rw [z]
      exact g
    · exact Nat.le_trans g ((List.pairwise_cons.mp ih).1 e z)
/-- texts of one sign, sorted: their codes ascend -/
theorem codes_up {ds : List Nat} (h : sortedS (ds.map one1) = true) (nd : (ds.map one1).Nodup) : ds.Pairwise (· < ·) := by
  have le : ds.Pairwise (· ≤ ·) := by
    cases ds with
    | nil => exact List.Pairwise.nil
    | cons d ds => exact (rise1 h).2
  have ne : ds.Pairwise (· ≠ ·) := List.Pairwise.of_map one1 (fun a b hne e => hne (congrArg one1 e)) nd
  exact (le.and ne).imp fun ⟨a, b⟩ => Nat.lt_of_le_of_ne a b
theorem txt_asc {m : Nat} {cs : List Nat} (hc : ∀ c ∈ cs, c < m) {ys : List Str} (h1 : sortedS ys = true) (h2 : ys.Nodup) (h3 : ∀ k, k ∈ ys ↔ k ∈ cs.map one1) : ys = (asc m cs).map one1 := by
  have all1 : ∀ k ∈ ys, ∃ c, k = one1 c := fun k hk => by
    obtain ⟨c, _, rfl⟩ := List.mem_map.mp ((h3 k).mp hk)
    exact ⟨c, rfl⟩
  obtain ⟨ds, rfl⟩ : ∃ ds : List Nat, ys = ds.map one1 := by
    clear h1 h2 h3
    induction ys with
    | nil => exact ⟨[], rfl⟩
    | cons y ys ih =>
      obtain ⟨c, rfl⟩ := all1 y List.mem_cons_self
      obtain ⟨ds, rfl⟩ := ih fun k hk => all1 k (List.mem_cons_of_mem _ hk)
      exact ⟨c :: ds, rfl⟩
  rw [asc_is (codes_up h1 h2) hc fun c => ?_]
  have q := h3 (one1 c)
  constructor
  · intro z
    obtain ⟨d, hd, e⟩ := List.mem_map.mp (q.mp (List.mem_map_of_mem (f := one1) z))
    rw [← one1_inj e]
    exact hd
  · intro z
    obtain ⟨d, hd, e⟩ := List.mem_map.mp (q.mpr (List.mem_map_of_mem (f := one1) z))
    rw [← one1_inj e]
    exact hd
section
variable {X : Cx} {K : PySem.W.Frag} {P : Program} {w : World}
theorem ksetS (hc : X.calm = true) (h : X.K = K := by rfl) (h2 : X.prog = P := by rfl) (h3 : X.w = w := by rfl) : CallR X (.type "set") (rSetS K P w) := by
  subst h h2 h3
  exact cr_setS hc
theorem ksetI (hc : X.calm = true) (h : X.K = K := by rfl) (h2 : X.prog = P := by rfl) (h3 : X.w = w := by rfl) : CallR X (.type "set") (rSetI K P w) := by
  subst h h2 h3
  exact cr_setI hc
theorem klenSet (h2 : X.prog = P := by rfl) (h3 : X.w = w := by rfl) : CallR X (.builtin "len") (rLenSet P w) := by
  subst h2 h3
  exact cr_lenSet
theorem ksortTxt (hc : X.calm = true) (h2 : X.prog = P := by rfl) (h3 : X.w = w := by rfl) : CallR X (.builtin "sorted") (rSortTxt P w) := by
  subst h2 h3
  exact cr_sortTxt hc
theorem ksortInt (hc : X.calm = true) (h2 : X.prog = P := by rfl) (h3 : X.w = w := by rfl) : CallR X (.builtin "sorted") (rSortInt P w) := by
  subst h2 h3
  exact cr_sortInt hc
end
end LX

/-! ### {elt for target in iter if ..}, elt a text: a new set of texts -/
namespace LX
open PySem PySem.Spec PyProof.Rows L2 PpSet
section
variable {X : Cx}
/-- one more text into the set at D -/
theorem addT {ps : List (Addr × Obj)} {σ : L2.St} {G : Hp} {z : Shared} {E : Value → Shared → Prop} {D : Addr} {S : Str → Bool} {n : Nat} {y : Str} {tk : Tok} {Q : Value → Shared → Prop} (V : Inv X ps σ G z) (gD : G D = some (TxtSet X.prog X.w D S n)) (few : n + 1 < scanBound)
    (q : ∀ z', Inv X ps σ (upd G D (TxtSet X.prog X.w D (fun k => S k || decide (k = y)) (if S y = true then n else n + 1))) z' → Q .none z') : wpAny (model X.prog X.w) X.A (call (.builtin "set.add") [.ref D, .str y tk]) Q E z := by
  have R : SetK1 (PySem.strKind X.prog X.w) (fun k t => Value.str k t) strOf z.heap D S n := (V.hok D _ gD).1
  refine wpAny_call_entry PySem.F.slot_set_add (SetK1.setOf (okS X.prog X.w) R).typeIs PySem.F.entry_set_add ?_ (PySem.F.args_set_add_2 _ _)
  unfold Builtin.«set.add» Builtin.Frozenset.oneOther Builtin.Frozenset.addrOf setAdd
  simp only [List.isEmpty_nil, bind_assoc]
  refine wpAny_bind (wpAny_pure ?_)
  try dsimp only
  refine wpAny_bind (wpAny_pure ?_)
  try dsimp only
  refine wpAny_bind (wpAny_holding (wpAny_bind ((PySem.strKind X.prog X.w).pyHash ((okS X.prog X.w).isv y y tk |>.mpr rfl) ?_)))
  refine addK (okS X.prog X.w) (s := { z with toks := z.toks + 1 }) R few fun h' sb new => ?_
  show wpAny _ _ (ret Value.none) _ _ _
  exact wpAny_pure ⟨_, rfl, q _ (V.write (e := D) (t' := z.toks + 1) (by rw [gD]; trivial) (.inl rfl) (fun b u hb hu => (sb.2 b hb).trans hu) new.lives (txtNew new))⟩
def tScT (P : Program) (w : World) (wi : TI) (g : TG) (tt : TT) (te : TE) (vs : List Nat) : TE := fun σ G Q => wi σ G fun J G1 => ∀ D, G1 D = none → ∃ W : Nat → Nat → Hp → Prop, (∃ m, W 0 m (upd G1 D (TxtSet P w D (fun _ => false) 0))) ∧ ∀ j m G, W j m G →
  (J.stop j G ∧ Q (.ref D) G) ∨ (J.go j G ∧ ∃ Z : Hp → Prop, (∀ G', Z G' → ∃ m', m' < m ∧ W (j + 1) m' G') ∧ ∀ x G', J.yld j G x G' → g x (wipe σ vs) G' fun τ G2 => wipe τ vs = wipe σ vs ∧ tt τ G2 fun b G3 =>
    if b = true then te τ G3 fun y G4 => ∃ (c : Str) (S : Str → Bool) (n : Nat), y = .str c ∧ G4 D = some (TxtSet P w D S n) ∧ n + 1 < scanBound ∧ Z (upd G4 D (TxtSet P w D (fun k => S k || decide (k = c)) (if S c = true then n else n + 1))) else Z G3)
theorem scT_core {ps : List (Addr × Obj)} {z : Shared} {σ : L2.St} {G : Hp} {Q : VK} {el tg it : Expr} {fs : List Expr} {sc : Scope} {ow : List (PySem.Str × Nat)} {p1 p2 : Pos} {wi : TI} {g : TG} {tt : TT} {te : TE} {use : Option (Value → Sem Unit)} {Qf : Value → Shared → Prop}
    (calm : X.calm = true) (nd : X.N.Nodup) (V : Inv X ps σ G z) (pi : PI X tg it wi) (ok : BlkOk X.N X.env.scope sc ow)
    (hg : ∀ (z : Shared) (G : Hp) (C : Addr) (cl : List (PySem.Str × Addr)) (fp : List Addr), PG (X.blk z G sc (compEnvC sc cl C X.env) fp) tg g)
    (ht : ∀ (z : Shared) (G : Hp) (C : Addr) (cl : List (PySem.Str × Addr)) (fp : List Addr), PTs (X.blk z G sc (compEnvC sc cl C X.env) fp) fs tt)
    (he : ∀ (z : Shared) (G : Hp) (C : Addr) (cl : List (PySem.Str × Addr)) (fp : List Addr), PE (X.blk z G sc (compEnvC sc cl C X.env) fp) el te)
    (fold : ∀ x, foldedSetIterable it X.env x = pure x) (q : tScT X.prog X.w wi g tt te (ow.map (·.2)) σ G Q)
    (last : ∀ D C z' m G', Inv X ps σ G' z' → Q (.ref D) G' → z'.heap.Ns C m → FpOk X ps G' C → compPost (model X.prog X.w) X.A X.xe use Qf (.ref D) C (.ok .next) z') :
    wpAny (model X.prog X.w) X.A (comprehension (.SetComp el [⟨tg, it, fs, 0⟩] sc p1) sc X.env p2 (newSet (.type "set")) false (eval it X.env) use) Qf X.xe z := by
  have frees : ∀ y ∈ sc.names, y.2 = .free → ∃ c, X.env.cells.lookup y.1 = some c := by
    intro y hy e
    have := ok.free y hy e
    exact V.ok.has _ this
  refine wpAny_comprehension_free (use := use) rfl fold (closure_ok frees) ok.kind (by intro y hy e; rw [ok.uniq y hy, e]) (thn (pi.run ps z σ G _ V q) ?_)
  intro xv z1 h1
  refine thn h1 ?_
  rintro itv z2 ⟨ia, fp, tn, J, G2, rfl, V2, T, st2, f2, h2⟩
  refine newSet_ok (newEnv_comp ?_)
  -- the new set stands at the end of the heap
  obtain ⟨D, eD⟩ : ∃ D, D = z2.heap.objs.size := ⟨_, rfl⟩
  rw [← eD]
  obtain ⟨W, ⟨m0, w0⟩, turn⟩ := h2 D (V2.hok.fresh (Nat.le_of_eq eD.symm))
  obtain ⟨z3, e3⟩ : ∃ z3 : Shared, z3 = { z2 with heap := z2.heap.push { cls := .type "set", dict := none, data := .set #[] 0 (.fresh 0 0 (!X.w.params.followText "set-order")) } } := ⟨_, rfl⟩
  have V3 : Inv X ps σ (upd G2 D (TxtSet X.prog X.w D (fun _ => false) 0)) z3 := by
    rw [e3, eD]
    exact V2.laid (t' := z2.toks) (fun b o e => Heap.get?_push_of_some _ e) (Nat.le_refl _) (txtNew freshK)
  have hz3 : z3.heap.objs.size = z2.heap.objs.size + 1 := by rw [e3]; exact Heap.size_push _ _
  have old3 : ∀ b o, z2.heap.get? b = some o → z3.heap.get? b = some o := by
    rw [e3]
    exact fun b o e => Heap.get?_push_of_some _ e
  rw [← e3]
  clear e3
  generalize eG : upd G2 D (TxtSet X.prog X.w D (fun _ => false) 0) = G3 at V3 w0
  have f3 : ∀ b ∈ fp, FpOk X ps G3 b ∧ b < z3.heap.objs.size := by
    intro b hb
    obtain ⟨o, live, _⟩ := T.obj _ _ st2 b hb
    have lt := Heap.lt_size live
    have ne : b ≠ D := fun c => Nat.ne_of_lt lt (c.trans eD)
    obtain ⟨k1, k2⟩ := f2 b hb
    exact ⟨⟨by rw [← eG, upd_ne ne]; exact k1, k2⟩, by rw [hz3]; exact Nat.lt_succ_of_lt lt⟩
  have st3 : tn 0 z3.heap := T.keep _ _ _ st2 fun b _ => old3 b
  have V4 := block_start V3 ok nd f3
  -- inside the block
  have Pg := hg z3 G3 z3.heap.objs.size (cellsFrom (z3.heap.objs.size + 1) sc.names (cloFrom X.env.cells sc.names [])) fp
  have Pt := ht z3 G3 z3.heap.objs.size (cellsFrom (z3.heap.objs.size + 1) sc.names (cloFrom X.env.cells sc.names [])) fp
  have Pe := he z3 G3 z3.heap.objs.size (cellsFrom (z3.heap.objs.size + 1) sc.names (cloFrom X.env.cells sc.names [])) fp
  have keeps : ∀ b o, z3.heap.get? b = some o → (pushCells (z3.heap.push { cls := .type "dict", data := .dict #[] }) sc.names).get? b = some o := fun b o e => pushCells_keeps _ _ _ _ (Heap.get?_push_of_some _ e)
  have st4 : tn 0 (pushCells (z3.heap.push { cls := .type "dict", data := .dict #[] }) sc.names) := T.keep _ _ _ st3 fun b _ => keeps b
  have eB : (compEnvC sc (cellsFrom (z3.heap.objs.size + 1) sc.names (cloFrom X.env.cells sc.names [])) z3.heap.objs.size X.env).locals = z3.heap.objs.size := rfl
  show codeAny _ _ (.compStart (.SetComp el [⟨tg, it, fs, 0⟩] sc p1) 0 (.ref ia) (.ref D) (compEnvC sc (cellsFrom (z3.heap.objs.size + 1) sc.names (cloFrom X.env.cells sc.names [])) z3.heap.objs.size X.env)) (compPost (model X.prog X.w) X.A X.xe use Qf (.ref D) z3.heap.objs.size) { z3 with heap := pushCells (z3.heap.push { cls := .type "dict", data := .dict #[] }) sc.names }
  generalize compEnvC sc (cellsFrom (z3.heap.objs.size + 1) sc.names (cloFrom X.env.cells sc.names [])) z3.heap.objs.size X.env = B at V4 Pg Pt Pe eB ⊢
  generalize e4 : ({ z3 with heap := pushCells (z3.heap.push { cls := .type "dict", data := .dict #[] }) sc.names } : Shared) = z4 at V4 ⊢
  have st4 : tn 0 z4.heap := by rw [← e4]; exact st4
  let Y : Cx := X.blk z3 G3 sc B fp
  have safe : ∀ {τ : L2.St} {G' : Hp} {z' : Shared}, Inv Y [] τ G' z' → (∀ b ∈ fp, G' b = none) → ∀ b ∈ fp, FpOk Y [] G' b := by
    intro τ G' z' U off b hb
    exact ⟨off b hb, (U.ok.exf b hb).1, U.ok.exfs b hb, Or.inl hb, (fun x c e => (U.ok.exf b hb).2 x c e), fun r hr => nomatch (show r ∈ ([] : List (Addr × Obj)) from hr)⟩
  have loop : codeAny (model X.prog X.w) X.A (.compLoop (.SetComp el [⟨tg, it, fs, 0⟩] sc p1) 0 (.ref ia) (.ref D) B) (compPost (model X.prog X.w) X.A X.xe use Qf (.ref D) z3.heap.objs.size) z4 := by
    refine compLoopS_any (fun n z' => ∃ j G', Inv Y [] (wipe σ (ow.map (·.2))) G' z' ∧ tn j z'.heap ∧ (∀ b ∈ fp, G' b = none) ∧ W j n G') ?_ m0 ⟨0, G3, V4, st4, fun b hb => (f3 b hb).1.1, w0⟩
    rintro n z5 ⟨j, G5, V5, st5, off5, w5⟩
    rcases turn j n G5 w5 with ⟨stop, fin⟩ | ⟨go, Z, hZ, step⟩
    · refine thnF (T.done Y rfl rfl rfl calm j [] z5 _ G5 (fun _ _ => False) V5 (safe V5 off5) st5 stop) ?_
      rintro r z6 ⟨rfl, V6⟩
      obtain ⟨m, hm, _⟩ := V6.loc
      have hm : z6.heap.Ns B.locals m := hm
      have free6 : G5 B.locals = none := V6.free
      rw [eB] at hm free6
      have V7 : Inv X ps σ G5 z6 := V3.call' (ch := fp) V6.os V6.base V6.hok V6.bare fun b hb => by
        obtain ⟨⟨k1, k2, k3, k4, k5, k6⟩, _⟩ := f3 b hb
        exact ⟨k4, k2, k5, k6⟩
      exact last D _ z6 m G5 V7 fin hm (V3.fpOk (Nat.le_refl _) free6)
    · refine thnF (T.item Y rfl rfl rfl calm j [] z5 _ G5 (fun _ _ => False) V5 (safe V5 off5) st5 go) ?_
      rintro r z6 ⟨u, rfl, h6⟩
      refine thnF h6 ?_
      rintro _ z7 ⟨x, G7, V7, r7, y7, st7, off7⟩
      refine thnF (Pg.run _ z7 _ G7 x u _ (V7.pinned (safe V7 off7) (T.obj _ _ st7)) r7 (step x G7 y7)) ?_
      rintro _ z8 ⟨τ, G8, V8, eτ, h8⟩
      refine thnF (Pt.run _ z8 τ G8 _ V8 h8) ?_
      rintro b z9 ⟨G9, V9, h9⟩
      have next : ∀ {z' : Shared} {G' : Hp}, Inv Y ([] ++ pinsAt fp z7.heap) τ G' z' → Z G' → ∃ m, m < n ∧ ∃ j G', Inv Y [] (wipe σ (ow.map (·.2))) G' z' ∧ tn j z'.heap ∧ (∀ b ∈ fp, G' b = none) ∧ W j m G' := by
        intro z' G' U hG
        obtain ⟨m', lt, w'⟩ := hZ G' hG
        have pinned : ∀ b ∈ fp, ∀ o, z7.heap.get? b = some o → z'.heap.get? b = some o ∧ G' b = none := by
          intro b hb o e
          have k := U.pin (b, o) (List.mem_append_right _ (List.mem_append_right _ (mem_pinsAt hb e)))
          exact ⟨k.1, k.2.1⟩
        refine ⟨m', lt, j + 1, G', (U.unpinned (pins := [])).weak (by rw [← eτ, wipe_length]) ?_, T.keep _ _ _ st7 ?_, ?_, w'⟩
        · intro i v e
          rw [← eτ] at e
          exact (wipe_some e).1
        · exact fun b hb o e => (pinned b hb o e).1
        · intro b hb
          obtain ⟨o, e, _⟩ := T.obj _ _ st7 b hb
          exact (pinned b hb o e).2
      cases b with
      | false =>
        rw [if_neg Bool.false_ne_true] at h9 ⊢
        exact next V9 h9
      | true =>
        rw [if_pos rfl] at h9 ⊢
        refine thnF (Pe.run _ z9 τ G9 _ V9 h9) ?_
        rintro v z10 ⟨_, G10, V10, r10, c, S, k, rfl, gD, few, hG⟩
        obtain ⟨tk, rfl⟩ : ∃ tk, v = Value.str c tk := r10
        exact addT (X := Y) V10 gD few fun z11 V11 => next V11 hG
  exact codeAny_compStart_set loop (T.self X.A 0 _ _ _ st4 loop)
theorem pe_scT {el tg it : Expr} {fs : List Expr} {sc : Scope} {own : List (PySem.Str × Nat)} {p1 : Pos} {P : Program} {w : World} {wi : TI} {g : TG} {tt : TT} {te : TE} (calm : X.calm = true) (nd : X.N.Nodup) (pi : PI X tg it wi) (ok : BlkOk X.N X.env.scope sc own)
    (hg : ∀ (z : Shared) (G : Hp) (C : Addr) (cl : List (PySem.Str × Addr)) (fp : List Addr), PG (X.blk z G sc (compEnvC sc cl C X.env) fp) tg g)
    (ht : ∀ (z : Shared) (G : Hp) (C : Addr) (cl : List (PySem.Str × Addr)) (fp : List Addr), PTs (X.blk z G sc (compEnvC sc cl C X.env) fp) fs tt)
    (he : ∀ (z : Shared) (G : Hp) (C : Addr) (cl : List (PySem.Str × Addr)) (fp : List Addr), PE (X.blk z G sc (compEnvC sc cl C X.env) fp) el te)
    (fold : ∀ x, foldedSetIterable it X.env x = pure x := by intro _; rfl) (hP : X.prog = P := by rfl) (hw : X.w = w := by rfl) :
    PE X (.SetComp el [⟨tg, it, fs, 0⟩] sc p1) (tScT P w wi g tt te (own.map (·.2))) := by
  subst hP
  subst hw
  refine ⟨fun ps z σ G Q V q => ?_⟩
  rw [eval_SetComp]
  refine scT_core calm nd V pi ok hg ht he fold q ?_
  rintro D C z' m G' V' fin hm ⟨f0, f1, f2, f3, f4, f5⟩
  exact ⟨m, hm, fun h'' sb => ⟨.ref D, G', V'.turned (t' := z'.toks) (fun b o hb e => (sb.2 b hb).trans e) f0 f1 f3 f4 f5, rfl, fin⟩⟩
end
end LX
namespace LX
open PySem PySem.Spec PyProof.Rows L2
section
variable {P : Program} {w : World} {K : PySem.W.Frag} {a D : Addr} {g : TG} {tt : TT} {te : TE} {vs : List Nat} {σ : L2.St} {H1 : Hp} {Qd : Hp → Prop}
theorem rd_scT {wi : TI} {H : Hp} {Q : VK} (q : wi σ H fun J G1 => ∀ D, G1 D = none → ∃ W : Nat → Nat → Hp → Prop, (∃ m, W 0 m (upd G1 D (TxtSet P w D (fun _ => false) 0))) ∧ ∀ j m G, W j m G →
  (J.stop j G ∧ Q (.ref D) G) ∨ (J.go j G ∧ ∃ Z : Hp → Prop, (∀ G', Z G' → ∃ m', m' < m ∧ W (j + 1) m' G') ∧ ∀ x G', J.yld j G x G' → g x (wipe σ vs) G' fun τ G2 => wipe τ vs = wipe σ vs ∧ tt τ G2 fun b G3 =>
    if b = true then te τ G3 fun y G4 => ∃ (c : Str) (S : Str → Bool) (n : Nat), y = .str c ∧ G4 D = some (TxtSet P w D S n) ∧ n + 1 < scanBound ∧ Z (upd G4 D (TxtSet P w D (fun k => S k || decide (k = c)) (if S c = true then n else n + 1))) else Z G3)) : tScT P w wi g tt te vs σ H Q := q
/-- over a row: the letters of some of its people -/
theorem sc_row {ts : List Addr} {r : Row} (f : Nat × Nat → Option Nat) (hD : H1 D = none) (ha : H1 a = some (.lst (ts.map V.ref))) (ht : TupsAt H1 ts r) (hz : r.length ≤ 1000)
    (hs : ∀ t e, e ∈ r → t ∈ ts → ∀ H, Same H1 H → H t = some (.tup (pr e)) → ∀ (T : V → Hp → Prop) (F : Hp → Prop), (∀ c H', f e = some c → Same H H' → T (sg c) H') → (∀ H', f e = none → Same H H' → F H') →
      g (.ref t) (wipe σ vs) H fun σ2 H2 => wipe σ2 vs = wipe σ vs ∧ tt σ2 H2 fun b H3 => if b = true then te σ2 H3 T else F H3)
    (hd : ∀ H' n, Same H1 H' → H' D = some (TxtSet P w D (fun k => decide (k ∈ (r.filterMap f).map one1)) n) → Qd H') :
    ∃ W : Nat → Nat → Hp → Prop, (∃ m, W 0 m (upd H1 D (TxtSet P w D (fun _ => false) 0))) ∧ ∀ j m G, W j m G →
      ((Itl K a).stop j G ∧ Qd G) ∨ ((Itl K a).go j G ∧ ∃ Z : Hp → Prop, (∀ G', Z G' → ∃ m', m' < m ∧ W (j + 1) m' G') ∧ ∀ x G', (Itl K a).yld j G x G' → g x (wipe σ vs) G' fun τ G2 => wipe τ vs = wipe σ vs ∧ tt τ G2 fun b G3 =>
        if b = true then te τ G3 fun y G4 => ∃ (c : Str) (S : Str → Bool) (n : Nat), y = .str c ∧ G4 D = some (TxtSet P w D S n) ∧ n + 1 < scanBound ∧ Z (upd G4 D (TxtSet P w D (fun k => S k || decide (k = c)) (if S c = true then n else n + 1))) else Z G3) := by
  have hl := ht.len
  have step : ∀ (i : Nat) (e : Nat × Nat), r[i]? = some e → ∀ k : Str, decide (k ∈ ((r.take (i + 1)).filterMap f).map one1) = (decide (k ∈ ((r.take i).filterMap f).map one1) || decide (f e = some (k.cps.getD 0 0) ∧ k = one1 (k.cps.getD 0 0))) := by
    intro i e he k
    rw [take_of he, List.filterMap_append, List.map_append, Bool.eq_iff_iff, Bool.or_eq_true, decide_eq_true_iff, decide_eq_true_iff, decide_eq_true_iff, List.mem_append]
    refine or_congr Iff.rfl ?_
    cases q : f e with
    | none =>
      rw [List.filterMap_cons_none q]
      constructor
      · exact fun z => nomatch z
      · exact fun z => nomatch z.1
    | some c =>
      rw [List.filterMap_cons_some q]
      show k ∈ [one1 c] ↔ _
      rw [List.mem_singleton]
      constructor
      · rintro rfl
        exact ⟨rfl, rfl⟩
      · rintro ⟨h1, h2⟩
        rw [h2]
        injection h1 with h1
        rw [← h1]
  have W : Walk (Itl K a) (ts.map V.ref).length (fun H => Same H1 H) (YAt (ts.map V.ref)) := walk_list.mono (fun _ s => SqL.of (s _ _ ha)) fun _ _ _ _ _ _ y => y
  refine ⟨fun j m H => m = r.length - j ∧ j ≤ r.length ∧ Same H1 H ∧ ∃ n, n ≤ j ∧ H D = some (TxtSet P w D (fun k => decide (k ∈ ((r.take j).filterMap f).map one1)) n), ⟨r.length, by simp, Nat.zero_le _, sNew hD, 0, Nat.le_refl _, ?_⟩, ?_⟩
  · rw [upd_same]
    have : (fun k : Str => decide (k ∈ ((r.take 0).filterMap f).map one1)) = fun _ => false := by
      funext k
      rfl
    rw [this]
  · rintro j m H ⟨rfl, hj, s, n, hn, e⟩
    rw [List.length_map, hl] at W
    by_cases lt : j < r.length
    · refine Or.inr ⟨W.goes j H lt s, fun G' => Same H1 G' ∧ ∃ n, n ≤ j + 1 ∧ G' D = some (TxtSet P w D (fun k => decide (k ∈ ((r.take (j + 1)).filterMap f).map one1)) n), fun G' ⟨h1, h2⟩ => ⟨r.length - (j + 1), by omega, rfl, lt, h1, h2⟩, fun x G' y => ?_⟩
      obtain ⟨rfl, hx⟩ := W.yields j H x G' lt s y
      rw [List.getElem?_map] at hx
      obtain ⟨t, h1, rfl⟩ := Option.map_eq_some_iff.mp hx
      obtain ⟨en, h2, h3⟩ := ht.get h1
      have st := step j en h2
      refine hs t en (List.mem_of_getElem? h2) (List.mem_of_getElem? h1) G' s (s _ _ h3) _ _ (fun c G4 hc s4 => ⟨one1 c, _, n, rfl, s4 _ _ e, by unfold scanBound; omega, sUpd (s.trans s4) hD, (if decide (one1 c ∈ ((r.take j).filterMap f).map one1) = true then n else n + 1), ?_, ?_⟩) fun G4 hc s4 => ⟨s.trans s4, n, by omega, ?_⟩
      · split <;> omega
      · rw [upd_same]
        congr 2
        funext k
        rw [st k, hc]
        congr 1
        rw [Bool.eq_iff_iff, decide_eq_true_iff, decide_eq_true_iff]
        constructor
        · rintro rfl
          exact ⟨rfl, rfl⟩
        · rintro ⟨h1, h2⟩
          rw [h2]
          injection h1 with h1
          rw [← h1]
      · rw [s4 _ _ e]
        congr 2
        funext k
        rw [st k, hc]
        have : decide (none = some (k.cps.getD 0 0) ∧ k = one1 (k.cps.getD 0 0)) = false := by
          rw [decide_eq_false_iff_not]
          exact fun z => nomatch z.1
        rw [this, Bool.or_false]
    · have ej : j = r.length := by omega
      subst ej
      rw [List.take_length] at e
      exact Or.inl ⟨W.stops H s, hd H n s e⟩
end
end LX


/-! ### lists of tuples of any make; runs of equal items -/
namespace LX
open PySem L2
section
variable {α : Type} {f : α → List V}
def TsAt (f : α → List V) (H : Hp) : List Addr → List α → Prop
  | [], [] => True
  | t :: ts, e :: r => H t = some (.tup (f e)) ∧ TsAt f H ts r
  | _, _ => False
theorem TsAt.len {H : Hp} : ∀ {ts : List Addr} {r : List α}, TsAt f H ts r → ts.length = r.length
  | [], [], _ => rfl
  | _ :: ts, _ :: r, h => congrArg (· + 1) (TsAt.len (ts := ts) (r := r) h.2)
  | [], _ :: _, h => h.elim
  | _ :: _, [], h => h.elim
theorem TsAt.mono {H H' : Hp} : ∀ {ts : List Addr} {r : List α}, TsAt f H ts r → (∀ b xs, H b = some (.tup xs) → H' b = some (.tup xs)) → TsAt f H' ts r
  | [], [], _, _ => True.intro
  | _ :: ts, _ :: r, h, k => ⟨k _ _ h.1, TsAt.mono (ts := ts) (r := r) h.2 k⟩
  | [], _ :: _, h, _ => h.elim
  | _ :: _, [], h, _ => h.elim
theorem TsAt.get {H : Hp} : ∀ {ts : List Addr} {r : List α} {i : Nat} {t : Addr}, TsAt f H ts r → ts[i]? = some t → ∃ e, r[i]? = some e ∧ H t = some (.tup (f e))
  | [], [], i, t, _, h => by simp at h
  | _ :: ts, e :: r, 0, t, h, q => by
    simp at q
    subst q
    exact ⟨e, rfl, h.1⟩
  | _ :: ts, _ :: r, i + 1, t, h, q => by
    simp at q
    obtain ⟨e, h1, h2⟩ := TsAt.get (ts := ts) (r := r) h.2 q
    exact ⟨e, by simpa using h1, h2⟩
  | [], _ :: _, _, _, h, _ => h.elim
  | _ :: _, [], _, _, h, _ => h.elim
theorem TsAt.snoc {H : Hp} {t : Addr} {e : α} (ht : H t = some (.tup (f e))) : ∀ {ts : List Addr} {r : List α}, TsAt f H ts r → TsAt f H (ts ++ [t]) (r ++ [e])
  | [], [], _ => ⟨ht, True.intro⟩
  | _ :: ts, _ :: r, h => ⟨h.1, TsAt.snoc ht (ts := ts) (r := r) h.2⟩
  | [], _ :: _, h => h.elim
  | _ :: _, [], h => h.elim
theorem TsAt.app {H : Hp} : ∀ {ts us : List Addr} {r q : List α}, TsAt f H ts r → TsAt f H us q → TsAt f H (ts ++ us) (r ++ q)
  | [], _, [], _, _, h => h
  | _ :: ts, us, _ :: r, q, h, k => ⟨h.1, TsAt.app (ts := ts) (r := r) h.2 k⟩
  | [], _, _ :: _, _, h, _ => h.elim
  | _ :: _, _, [], _, h, _ => h.elim
theorem TsAt.set {H : Hp} {t : Addr} {e : α} (ht : H t = some (.tup (f e))) : ∀ {ts : List Addr} {r : List α} (j : Nat), TsAt f H ts r → TsAt f H (ts.set j t) (r.set j e)
  | [], [], _, _ => True.intro
  | _ :: ts, _ :: r, 0, h => ⟨ht, h.2⟩
  | _ :: ts, _ :: r, j + 1, h => ⟨h.1, TsAt.set ht (ts := ts) (r := r) j h.2⟩
  | [], _ :: _, _, h => h.elim
  | _ :: _, [], _, h => h.elim
theorem TsAt.last {H : Hp} {ts : List Addr} {r : List α} (h : TsAt f H ts r) {e : α} (he : r.getLast? = some e) : ∃ t, ts[ts.length - 1]? = some t ∧ H t = some (.tup (f e)) := by
  have hl := h.len
  rw [List.getLast?_eq_getElem?] at he
  have h1 : r.length - 1 < r.length := (List.getElem?_eq_some_iff.mp he).1
  have h2 : ts.length - 1 < ts.length := by omega
  have h3 := List.getElem?_eq_getElem h2
  obtain ⟨e', h4, h5⟩ := h.get h3
  rw [show ts.length - 1 = r.length - 1 by omega, he] at h4
  cases h4
  exact ⟨_, h3, h5⟩
theorem TsAt.off {H : Hp} {l : Addr} {xs : List V} {o : HO} {ts : List Addr} {r : List α} (h : TsAt f H ts r) (hl : H l = some (.lst xs)) : TsAt f (upd H l o) ts r := h.mono fun b ys e => by
  rw [upd_ne fun z => by rw [z, hl] at e; cases e]
  exact e
theorem TsAt.dp {K : PySem.W.Frag} {H : Hp} {d : α → List PyData} (hd : ∀ e, DpAll K H (f e) (d e)) : ∀ {ts : List Addr} {r : List α}, TsAt f H ts r → DpAll K H (ts.map V.ref) (r.map fun e => PyData.tuple (d e))
  | [], [], _ => .nil
  | _ :: ts, e :: r, h => .cons (.tup (SqT.of h.1) (hd e)) (TsAt.dp hd (ts := ts) (r := r) h.2)
  | [], _ :: _, h => h.elim
  | _ :: _, [], h => h.elim
end
section
variable {α : Type} [DecidableEq α]
def rsn (acc : List (α × Nat)) (x : α) : List (α × Nat) :=
  match acc.getLast? with
  | some (y, k) => if y = x then acc.set (acc.length - 1) (x, k + 1) else acc ++ [(x, 1)]
  | none => acc ++ [(x, 1)]
def runs (cs : List α) : List (α × Nat) := cs.foldl rsn []
theorem runs_snoc (cs : List α) (x : α) : runs (cs ++ [x]) = rsn (runs cs) x := by
  unfold runs
  rw [List.foldl_append]
  rfl
theorem rsn_len (acc : List (α × Nat)) (x : α) : (rsn acc x).length ≤ acc.length + 1 := by
  unfold rsn
  split
  · split
    · rw [List.length_set]
      omega
    · rw [List.length_append]
      simp
  · rw [List.length_append]
    simp
theorem runs_len (cs : List α) : (runs cs).length ≤ cs.length := by
  have go : ∀ (cs : List α) (acc : List (α × Nat)), (cs.foldl rsn acc).length ≤ acc.length + cs.length := by
    intro cs
    induction cs with
    | nil => exact fun acc => Nat.le_refl _
    | cons x cs ih =>
      intro acc
      have h1 := ih (rsn acc x)
      have h2 := rsn_len acc x
      show (cs.foldl rsn (rsn acc x)).length ≤ acc.length + (cs.length + 1)
      omega
  have := go cs []
  simpa [runs] using this
theorem rsn_grow {acc : List (α × Nat)} {x : α} {k : Nat} (h : acc.getLast? = some (x, k)) : rsn acc x = acc.set (acc.length - 1) (x, k + 1) := by
  unfold rsn
  rw [h]
  exact if_pos rfl
theorem rsn_new {acc : List (α × Nat)} {x y : α} {k : Nat} (h : acc.getLast? = some (y, k)) (n : y ≠ x) : rsn acc x = acc ++ [(x, 1)] := by
  unfold rsn
  rw [h]
  exact if_neg n
theorem rsn_nil (x : α) : rsn [] x = [(x, 1)] := rfl
theorem last_ne {β : Type} {acc : List β} (h : acc ≠ []) : ∃ e, acc.getLast? = some e := ⟨_, List.getLast?_eq_some_getLast h⟩
end
/-- a run of a color -/
abbrev prC (e : Nat × Nat) : List V := [sg e.1, .int (e.2 : Int)]
abbrev dPC (e : Nat × Nat) : List PyData := [.str ⟨#[e.1]⟩, .int (e.2 : Int)]
/-- each color once, in the order met -/
abbrev firstsOf (cs : List Nat) : List Nat := cs.foldl (fun acc x => if x ∈ acc then acc else acc ++ [x]) []
theorem firsts_snoc (cs : List Nat) (x : Nat) : firstsOf (cs ++ [x]) = if x ∈ firstsOf cs then firstsOf cs else firstsOf cs ++ [x] := by
  unfold firstsOf
  rw [List.foldl_append]
  rfl
/-- a text of codes -/
abbrev txt (cs : List Nat) : Str := ⟨cs.toArray⟩
section
variable {X : Cx}
def rInT (neg : Bool) : R2 := fun x y H Q => ∃ (c : Nat) (z : Str), x = sg c ∧ y = .str z ∧ Q (.bl (if neg = true then !decide (c ∈ z.cps.toList) else decide (c ∈ z.cps.toList))) H
theorem kinT : OpR X (compareOp .In) (rInT false) := by
  intro pins s σ H x y v u Q I rx ry h
  obtain ⟨c, z, rfl, rfl, q⟩ := h
  refine op_in_str pins s σ H _ _ v u Q I rx ry ⟨⟨#[c]⟩, z, rfl, rfl, ?_⟩
  rw [PySem.StrLaws.found_one]
  exact q
theorem knotInT : OpR X (compareOp .NotIn) (rInT true) := by
  intro pins s σ H x y v u Q I rx ry h
  obtain ⟨c, z, rfl, rfl, q⟩ := h
  refine op_notIn_str pins s σ H _ _ v u Q I rx ry ⟨⟨#[c]⟩, z, rfl, rfl, ?_⟩
  rw [PySem.StrLaws.found_one]
  exact q
end
theorem txt_app (cs : List Nat) (c : Nat) : txt cs ++ (⟨#[c]⟩ : Str) = txt (cs ++ [c]) := by
  show (⟨cs.toArray ++ #[c]⟩ : Str) = ⟨(cs ++ [c]).toArray⟩
  congr 1
  simp
theorem txt_len (cs : List Nat) : (txt cs).length = cs.length := List.size_toArray
theorem mem_firsts {cs : List Nat} {x : Nat} : x ∈ firstsOf cs ↔ x ∈ cs := by
  have go : ∀ (cs acc : List Nat), x ∈ cs.foldl (fun acc x => if x ∈ acc then acc else acc ++ [x]) acc ↔ x ∈ acc ∨ x ∈ cs := by
    intro cs
    induction cs with
    | nil => intro acc; simp
    | cons y ys ih =>
      intro acc
      rw [List.foldl_cons, ih, List.mem_cons]
      by_cases c : y ∈ acc
      · rw [if_pos c]
        constructor
        · rintro (h | h)
          · exact Or.inl h
          · exact Or.inr (Or.inr h)
        · rintro (h | rfl | h)
          · exact Or.inl h
          · exact Or.inl c
          · exact Or.inr h
      · rw [if_neg c, List.mem_append, List.mem_singleton, or_assoc]
  have := go cs []
  simpa using this
theorem firsts_len (cs : List Nat) : (firstsOf cs).length ≤ cs.length := by
  have go : ∀ (cs acc : List Nat), (cs.foldl (fun acc x => if x ∈ acc then acc else acc ++ [x]) acc).length ≤ acc.length + cs.length := by
    intro cs
    induction cs with
    | nil => exact fun acc => Nat.le_refl _
    | cons y ys ih =>
      intro acc
      rw [List.foldl_cons, List.length_cons]
      refine Nat.le_trans (ih _) ?_
      by_cases c : y ∈ acc
      · rw [if_pos c]
        omega
      · rw [if_neg c, List.length_append, List.length_singleton]
        omega
  have := go cs []
  simpa using this
theorem txt_cat (a b : List Nat) : txt a ++ txt b = txt (a ++ b) := by
  show (⟨a.toArray ++ b.toArray⟩ : Str) = ⟨(a ++ b).toArray⟩
  congr 1
  simp
theorem fold_ones : ∀ (cs : List Nat) (acc : Array Nat), (cs.map fun c => (⟨#[c]⟩ : Str)).foldl (fun acc p => acc ++ (Str.ofString "").cps ++ p.cps) acc = acc ++ cs.toArray
  | [], acc => by simp
  | c :: cs, acc => by
    rw [List.map_cons, List.foldl_cons, fold_ones cs]
    show acc ++ #[] ++ #[c] ++ cs.toArray = _
    simp
theorem join_ones (cs : List Nat) : Txt.join (Str.ofString "") (cs.map fun c => (⟨#[c]⟩ : Str)) = txt cs := by
  cases cs with
  | nil => rfl
  | cons c cs =>
    show (⟨(cs.map fun c => (⟨#[c]⟩ : Str)).foldl (fun acc p => acc ++ (Str.ofString "").cps ++ p.cps) #[c]⟩ : Str) = _
    rw [fold_ones]
    show (⟨#[c] ++ cs.toArray⟩ : Str) = ⟨(c :: cs).toArray⟩
    congr 1
    simp
theorem len_ones (cs : List Nat) : ((cs.map fun c => (⟨#[c]⟩ : Str)).map (·.length)).sum = cs.length := by
  induction cs with
  | nil => rfl
  | cons c cs ih =>
    rw [List.map_cons, List.map_cons, List.sum_cons, ih, List.length_cons]
    show 1 + cs.length = _
    omega
/-- the last run's item is the last item -/
theorem runs_last (cs : List Nat) (x : Nat) : ∃ k, (runs (cs ++ [x])).getLast? = some (x, k) := by
  rw [runs_snoc]
  unfold rsn
  cases q : (runs cs).getLast? with
  | none =>
    dsimp only
    exact ⟨1, by rw [List.getLast?_append]; rfl⟩
  | some e =>
    obtain ⟨y, k⟩ := e
    dsimp only
    by_cases c : y = x
    · rw [if_pos c]
      have ne : 0 < (runs cs).length := by
        cases h : runs cs with
        | nil => rw [h] at q; cases q
        | cons a l => exact Nat.zero_lt_succ _
      refine ⟨k + 1, ?_⟩
      rw [List.getLast?_eq_getElem?, List.length_set, List.getElem?_set_self (by omega)]
    · rw [if_neg c]
      exact ⟨1, by rw [List.getLast?_append]; rfl⟩
theorem firsts_fm (cs : List Nat) : (List.range cs.length).filterMap (fun k => if decide (cs.getD k 0 ∈ cs.take k) = true then none else some (cs.getD k 0)) = firstsOf cs := by
  have go : ∀ k, k ≤ cs.length → (List.range k).filterMap (fun k => if decide (cs.getD k 0 ∈ cs.take k) = true then none else some (cs.getD k 0)) = firstsOf (cs.take k) := by
    intro k
    induction k with
    | zero => intro _; rfl
    | succ k ih =>
      intro hk
      have hx : cs[k]? = some (cs.getD k 0) := by rw [List.getD_eq_getElem?_getD, List.getElem?_eq_getElem (by omega)]; rfl
      rw [List.range_succ, List.filterMap_append, ih (by omega), take_of hx, firsts_snoc]
      by_cases c : cs.getD k 0 ∈ cs.take k
      · rw [if_pos (mem_firsts.mpr c), List.filterMap_cons_none (by rw [if_pos (decide_eq_true c)])]
        exact List.append_nil _
      · rw [if_neg fun z => c (mem_firsts.mp z), List.filterMap_cons_some (b := cs.getD k 0) (by rw [if_neg (by simpa using c)])]
        rfl
  have := go cs.length (Nat.le_refl _)
  rw [List.take_length] at this
  exact this
theorem fo_head (r : Row) (c : Nat) : ((r.map (·.2)).filter fun d => d != c).head? = fo r c := by
  unfold fo
  rw [List.head?_filter, List.find?_map]
  rfl
end LX
/-! ### letters counted and found in a list; for over a text -/
namespace LX
open PySem PySem.Spec PyProof.Rows L2
def eqS (k : Str) (v : Value) : Bool := match v with
  | .str n _ => n == k
  | _ => false
theorem eqS_at {A : Around} {s : Shared} {k : Str} {t : Tok} : ∀ {us : List Value} {ys : List Str}, StrsAre us ys → ∀ y ∈ us, SeqAt.EqAt A s y (.str k t) (eqS k y)
  | _, _, .nil => fun y hy => by cases hy
  | _, _, .cons n t' h => fun y hy => by
    rcases List.mem_cons.mp hy with e | e
    · rw [e]
      exact SeqAt.EqAt.str_str n t' k t
    · exact eqS_at h y e
theorem eqS_count {k : Str} : ∀ {us : List Value} {ys : List Str}, StrsAre us ys → us.countP (eqS k) = ys.countP (· == k)
  | _, _, .nil => rfl
  | _, _, .cons n t h => by
    have ih := eqS_count (k := k) h
    rw [List.countP_cons, List.countP_cons, ih] <;> rfl
theorem one_beq (a b : Nat) : ((⟨#[a]⟩ : Str) == ⟨#[b]⟩) = (a == b) := by
  rw [Bool.eq_iff_iff, beq_iff_eq, beq_iff_eq]
  exact ⟨fun h => by injection h with h; simpa using h, fun h => by rw [h]⟩
theorem ones_count (c : Nat) : ∀ cs : List Nat, (cs.map fun c => (⟨#[c]⟩ : Str)).countP (· == ⟨#[c]⟩) = cs.count c
  | [] => rfl
  | x :: cs => by
    rw [List.map_cons, List.countP_cons, ones_count c cs, List.count_cons, one_beq]
theorem ones_V (cs : List Nat) : cs.map sg = (cs.map fun c => (⟨#[c]⟩ : Str)).map V.str := by
  rw [List.map_map]
  rfl
theorem eqV_sg (a b : Nat) : eqV (sg a) (sg b) = (a == b) := one_beq a b
theorem flat_sg (cs : List Nat) : (cs.map sg).all flatV = true := by
  rw [List.all_eq_true]
  intro x hx
  obtain ⟨c, _, rfl⟩ := List.mem_map.mp hx
  rfl
theorem any_sg (c : Nat) (cs : List Nat) : inV (sg c) (cs.map sg) = decide (c ∈ cs) := by
  unfold inV
  rw [Bool.eq_iff_iff, List.any_eq_true, decide_eq_true_iff]
  constructor
  · rintro ⟨x, hx, e⟩
    obtain ⟨d, hd, rfl⟩ := List.mem_map.mp hx
    rw [eqV_sg] at e
    rw [← eq_of_beq e]
    exact hd
  · intro h
    exact ⟨sg c, List.mem_map.mpr ⟨c, h, rfl⟩, by rw [eqV_sg]; exact beq_self_eq_true c⟩
section
variable {X : Cx}
def rCntS (K : PySem.W.Frag) : V → List V → Hp → VK → Prop := fun x xs H Q => ∃ (p : Addr) (cs : List Nat) (c : Nat), x = .ref p ∧ xs = [sg c] ∧ SqL K H p (cs.map sg) ∧ Q (.int (cs.count c : Nat)) H
theorem mt_lcountS {K : PySem.W.Frag} (hK : X.K = K := by rfl) : MtR X "list.count" (rCntS K) := by
  subst hK
  intro pins s σ H x xs v us Q I rx rxs h
  obtain ⟨p, cs, c, rfl, rfl, hs, q⟩ := h
  cases rx
  obtain ⟨u, rfl, ru⟩ := rxs.one
  obtain ⟨t, rfl⟩ := ru
  obtain ⟨its, rv, ⟨⟨cls, dd, data, sl⟩, n, ho, hc, hdn, hd⟩, hlen⟩ := I.list hs
  simp only at hc hd
  subst hc hd
  rw [ones_V] at rv
  have hi := strs_of_vals rv
  refine call_meets PySem.F.slot_list_count ⟨_, ho, rfl⟩ PySem.F.entry_list_count (PySem.F.args_list_count_2 _ _)
    (SeqAt.list_countAt p its.toArray n dd sl (.str ⟨#[c]⟩ t) (eqS ⟨#[c]⟩)) ⟨ho, fun y hy => eqS_at hi y (by simpa using hy), ?_⟩
  have ec : its.toArray.toList.countP (eqS ⟨#[c]⟩) = cs.count c := (eqS_count hi).trans (ones_count c cs)
  refine ⟨.int (cs.count c : Nat), H, I.tok _, ⟨s.toks, ?_⟩, q⟩
  show Value.int ((its.toArray.toList.countP (eqS ⟨#[c]⟩) : Nat) : Int) s.toks = Value.int ((cs.count c : Nat) : Int) s.toks
  rw [ec]
def rIdxS (K : PySem.W.Frag) : V → List V → Hp → VK → Prop := fun x xs H Q => ∃ (p : Addr) (cs : List Nat) (c j : Nat), x = .ref p ∧ xs = [sg c] ∧ SqL K H p (cs.map sg) ∧ cs.findIdx? (· == c) = some j ∧ Q (.int (j : Nat)) H
theorem mt_indexS {K : PySem.W.Frag} (hK : X.K = K := by rfl) : MtR X "list.index" (rIdxS K) := by
  subst hK
  intro pins s σ H x xs v us Q I rx rxs h
  obtain ⟨p, cs, c, j, rfl, rfl, hs, hj, q⟩ := h
  obtain ⟨h1, h2, h3⟩ := List.findIdx?_eq_some_iff_getElem.mp hj
  refine mt_index pins s σ H _ _ v us Q I rx rxs ⟨p, cs.map sg, sg c, j, sg cs[j], rfl, rfl, hs, rfl, flat_sg cs, by rw [List.getElem?_map, List.getElem?_eq_getElem h1]; rfl, by rw [eqV_sg]; exact h2, fun m z' hm hz => ?_, q⟩
  rw [List.getElem?_map, List.getElem?_eq_getElem (by omega)] at hz
  cases hz
  rw [eqV_sg]
  simpa using h3 m hm
end
section
variable {K : PySem.W.Frag} {H : Hp} {Q : VK}
theorem rd_inC {p : Addr} {cs : List Nat} {c : Nat} (h : H p = some (.lst (cs.map sg))) (q : Q (.bl (decide (c ∈ cs))) H) : rIn K false (sg c) (.ref p) H Q :=
  ⟨p, _, rfl, Or.inl (SqL.of h), rfl, flat_sg cs, by
    rw [any_sg, if_neg Bool.false_ne_true]
    exact q⟩
/-- for c in a text -/
theorem for_txt {z : Str} {g : TG} {tb : TS} {D : Ends} {σ : L2.St} {H : Hp} (Pv : Nat → L2.St → Hp → Prop) (h0 : Pv 0 σ H)
    (hs : ∀ i c σ H, z.cps[i]? = some c → Pv i σ H → g (sg c) σ H fun σ2 H2 => tb { D with nx := Pv (i + 1), ct := Pv (i + 1), bk := D.nx } σ2 H2) (hd : ∀ σ H, Pv z.cps.size σ H → D.nx σ H) :
    ∃ W : Nat → Nat → L2.St → Hp → Prop, (∃ m, W 0 m σ H) ∧ ∀ i m σ H, W i m σ H →
      ((Its z).stop i H ∧ D.nx σ H) ∨ ((Its z).go i H ∧ ∃ N : L2.St → Hp → Prop, (∀ σ' H', N σ' H' → ∃ m', m' < m ∧ W (i + 1) m' σ' H') ∧ ∀ x H', (Its z).yld i H x H' → g x σ H' fun σ2 H2 => tb { D with nx := N, ct := N, bk := D.nx } σ2 H2) :=
  for_it walk_str Pv h0 (fun _ _ _ _ _ => True.intro) (fun i x σ H H' _ p y => by
    obtain ⟨rfl, c, hc, rfl⟩ := y
    exact hs i c σ H' hc p) hd
end
end LX

namespace LX
open PySem L2
def oI : Option Nat → V
  | none => .non
  | some j => .int (j : Nat)
theorem fi_some {cs : List Nat} {c i : Nat} (h : cs[i]? = some c) (n : ∀ m, m < i → cs[m]? ≠ some c) : cs.findIdx? (· == c) = some i := by
  obtain ⟨h1, h2⟩ := List.getElem?_eq_some_iff.mp h
  refine List.findIdx?_eq_some_iff_getElem.mpr ⟨h1, by rw [h2]; exact beq_self_eq_true c, fun m hm => ?_⟩
  have := n m hm
  rw [List.getElem?_eq_getElem (by omega)] at this
  simpa using this
theorem fi_none {cs : List Nat} {c : Nat} (n : ∀ m, m < cs.length → cs[m]? ≠ some c) : cs.findIdx? (· == c) = none := by
  rw [List.findIdx?_eq_none_iff]
  intro x hx
  obtain ⟨m, hm, rfl⟩ := List.mem_iff_getElem.mp hx
  have := n m hm
  rw [List.getElem?_eq_getElem hm] at this
  simpa using this
theorem fi_mem {cs : List Nat} {c : Nat} (h : c ∈ cs) : ∃ j, cs.findIdx? (· == c) = some j ∧ j < cs.length := by
  cases e : cs.findIdx? (· == c) with
  | none =>
    rw [List.findIdx?_eq_none_iff] at e
    have := e c h
    simp at this
  | some j => exact ⟨j, rfl, (List.findIdx?_eq_some_iff_getElem.mp e).1⟩
theorem fi_not {cs : List Nat} {c : Nat} (h : c ∉ cs) : cs.findIdx? (· == c) = none := by
  rw [List.findIdx?_eq_none_iff]
  intro x hx
  simp
  intro e
  exact h (e ▸ hx)
/-- the letters below x -/
def below (cs : List Nat) (x : Nat) : Nat := cs.countP (fun c => decide (c < x))
theorem below_succ (cs : List Nat) (x : Nat) : below cs (x + 1) = below cs x + cs.count x := by
  unfold below
  induction cs with
  | nil => rfl
  | cons c cs ih =>
    rw [List.countP_cons, List.countP_cons, List.count_cons, ih]
    by_cases h : c = x
    · subst h
      simp
      omega
    · have e : (c == x) = false := by simpa using h
      rw [e]
      by_cases h2 : c < x
      · rw [if_pos (by simp; omega), if_pos (by simpa using h2)]
        simp
        omega
      · rw [if_neg (by simp; omega), if_neg (by simpa using h2)]
        simp
theorem below_all {cs : List Nat} {x : Nat} (h : ∀ c ∈ cs, c < x) : below cs x = cs.length := by
  unfold below
  rw [List.countP_eq_length]
  intro c hc
  simpa using h c hc
theorem below_none {cs : List Nat} {x : Nat} (h : ∀ c ∈ cs, x ≤ c) : below cs x = 0 := by
  unfold below
  rw [List.countP_eq_zero]
  intro c hc
  have := h c hc
  simp
  omega
theorem rd_forEn {K : PySem.W.Frag} {σ : L2.St} {H : Hp} {ta : TA} {g : TG} {tb : TS} {D : Ends} (M : Addr → List V → Hp → Prop) (h1 : ∀ R : List V → Hp → Prop, (∀ b xs H1, M b xs H1 → R [.ref b] H1) → ta σ H R)
    (h2 : ∀ b xs H1, M b xs H1 → SqL K H1 b xs ∧ ∃ W : Nat → Nat → L2.St → Hp → Prop, (∃ m, W 0 m σ H1) ∧ ∀ i m σ H, W i m σ H →
      ((Ite K b).stop i H ∧ D.nx σ H) ∨ ((Ite K b).go i H ∧ ∃ N : L2.St → Hp → Prop, (∀ σ' H', N σ' H' → ∃ m', m' < m ∧ W (i + 1) m' σ' H') ∧ ∀ x H', (Ite K b).yld i H x H' → g x σ H' fun σ2 H2 => tb { D with nx := N, ct := N, bk := D.nx } σ2 H2)) :
    tFor (iEnum K ta) g tb D σ H := h1 _ fun b xs H1 m => ⟨b, xs, rfl, (h2 b xs H1 m).1, (h2 b xs H1 m).2⟩
theorem rd_teM2 {te : TE} {σ : L2.St} {H : Hp} {Q : VK} (M : VK) (h1 : ∀ R : VK, (∀ x H1, M x H1 → R x H1) → te σ H R) (h2 : ∀ x H1, M x H1 → Q x H1) : te σ H Q := h1 _ h2
end LX
/-! ### data and its shape; comprehensions that make tuples; a dict of letters -/
namespace LX
open PySem L2
theorem u1_of {n m : Nat} (h : n + 64 < m) : n + 1 < m := by omega
def qDictP (K : PySem.W.Frag) : List V → Hp → VK → Prop := fun xs H Q => ∃ (a : Addr) (ps : List Addr) (kvs : List (Key × V)), xs = [.ref a] ∧ SqL K H a (ps.map V.ref) ∧ Paired (fun p kv => SqT K H p [kV kv.1, kv.2]) ps kvs ∧
    ∀ p, H p = none → Q (.ref p) (upd H p (.dK (mergeK [] kvs)))
theorem kdictP {X : Cx} {K : PySem.W.Frag} (hc : X.calm = true) (h : X.K = K := by rfl) : CallR X (.type "dict") (qDictP K) := by
  subst h
  exact call_dictP hc
structure Sd (n : Nat) (d : PyData) : Prop where
  lay : d.canLay0 = true
  dep : d.depth ≤ n
theorem sd_all {n : Nat} : ∀ {xs : List PyData}, (∀ x ∈ xs, Sd n x) → PyData.canLayAll0 xs = true ∧ PyData.depthAll xs ≤ n
  | [], _ => by
    simp only [PyData.canLayAll0, PyData.depthAll]
    exact ⟨trivial, Nat.zero_le _⟩
  | x :: xs, h => by
    obtain ⟨a1, a2⟩ := h x List.mem_cons_self
    obtain ⟨b1, b2⟩ := sd_all fun y hy => h y (List.mem_cons_of_mem _ hy)
    simp only [PyData.canLayAll0, PyData.depthAll, a1, b1, Bool.and_self]
    exact ⟨trivial, by omega⟩
theorem Sd.list {n : Nat} {xs : List PyData} (h : ∀ x ∈ xs, Sd n x) : Sd (n + 1) (.list xs) := by
  obtain ⟨h1, h2⟩ := sd_all h
  exact ⟨by simp only [PyData.canLay0]; exact h1, by simp only [PyData.depth]; omega⟩
theorem Sd.tuple {n : Nat} {xs : List PyData} (h : ∀ x ∈ xs, Sd n x) : Sd (n + 1) (.tuple xs) := by
  obtain ⟨h1, h2⟩ := sd_all h
  exact ⟨by simp only [PyData.canLay0]; exact h1, by simp only [PyData.depth]; omega⟩
theorem Sd.mono {n m : Nat} {d : PyData} (h : Sd n d) (k : n ≤ m) : Sd m d := ⟨h.lay, Nat.le_trans h.dep k⟩
theorem Sd.none {n : Nat} : Sd n .none := ⟨by simp only [PyData.canLay0], by simp only [PyData.depth]; omega⟩
theorem Sd.int {n : Nat} {i : Int} : Sd n (.int i) := ⟨by simp only [PyData.canLay0], by simp only [PyData.depth]; omega⟩
theorem Sd.str {n : Nat} {cs : List Nat} (h : ∀ c ∈ cs, c ≤ 122) : Sd n (.str (txt cs)) := by
  refine ⟨?_, by simp only [PyData.depth]; omega⟩
  simp only [PyData.canLay0]
  show (cs.toArray).all (· < 0x110000) = true
  rw [List.all_toArray, List.all_eq_true]
  intro c hc
  have := h c hc
  simp
  omega
theorem Sd.shaped {n : Nat} {d : PyData} (h : Sd n d) (k : n ≤ 64) : SeqAt.shaped d = true := Bool.and_eq_true_iff.mpr ⟨h.lay, decide_eq_true (Nat.le_trans h.dep k)⟩
section
variable {K : PySem.W.Frag} {a D : Addr} {g : TG} {te : TE} {vs : List Nat} {σ : L2.St} {H1 : Hp} {Qd : Hp → Prop} {α : Type} {J : It} {n : Nat} {Y : Nat → Hp → V → Hp → Prop}
/-- a comprehension whose items are new tuples -/
theorem lc_mk {m : α → List V} {zs : List α} (w : Walk J n (fun H => Same H1 H) Y) (hn : zs.length = n) (hz : n ≤ 1000) (hD : H1 D = none)
    (hs : ∀ i e x H H', zs[i]? = some e → Same H1 H → Y i H x H' → ∀ (R : V → Hp → Prop), (∀ t H4, Same H H4 → H4 t = some (.tup (m e)) → R (.ref t) H4) → g x (wipe σ vs) H' fun σ2 H2 => wipe σ2 vs = wipe σ vs ∧ te σ2 H2 R)
    (hd : ∀ H' us, Same H1 H' → H' D = some (.lst (us.map V.ref)) → TsAt m H' us zs → Qd H') :
    ∃ W : Nat → Nat → Hp → Prop, (∃ m, W 0 m (upd H1 D (.lst []))) ∧ ∀ i m H, W i m H →
      (J.stop i H ∧ Qd H) ∨ (J.go i H ∧ ∃ Nx : Hp → Prop, (∀ H', Nx H' → ∃ m', m' < m ∧ W (i + 1) m' H') ∧ ∀ x H', J.yld i H x H' → g x (wipe σ vs) H' fun σ2 H2 => wipe σ2 vs = wipe σ vs ∧ tYes σ2 H2 fun b H3 =>
        if b = true then te σ2 H3 fun y H4 => ∃ acc, H4 D = some (.lst acc) ∧ acc.length < sizeLine ∧ Nx (upd H4 D (.lst (acc ++ [y]))) else Nx H3) := by
  refine lc_it (tt := tYes) w (fun i H => Same H1 H ∧ ∃ us : List Addr, H D = some (.lst (us.map V.ref)) ∧ TsAt m H us (zs.take i)) ⟨sNew hD, [], upd_same, True.intro⟩ (fun _ _ _ h => h.1) ?_ ?_
  · rintro i x H H' hi ⟨s, us, e, t⟩ y
    have hx : zs[i]? = some (zs[i]'(by omega)) := List.getElem?_eq_getElem _
    have ul := t.len
    rw [List.length_take] at ul
    refine hs i _ x H H' hx s y _ fun t4 H4 s4 ht4 => ⟨_, s4 _ _ e, small1000 (by rw [List.length_map]; omega), sUpd (s.trans s4) hD, us ++ [t4], by rw [upd_same, List.map_append]; rfl, ?_⟩
    have tD : t4 ≠ D := fun z => by
      rw [z, s4 _ _ e] at ht4
      cases ht4
    rw [take_of hx]
    exact ((t.mono (sTups s4)).off (s4 _ _ e)).snoc (by rw [upd_ne tD]; exact ht4)
  · rintro H ⟨s, us, e, t⟩
    rw [← hn, List.take_length] at t
    exact hd H us s e t
/-- a comprehension whose items are known values -/
theorem lc_mv {v : α → V} {zs : List α} (w : Walk J n (fun H => Same H1 H) Y) (hn : zs.length = n) (hz : n ≤ 1000) (hD : H1 D = none)
    (hs : ∀ i e x H H', zs[i]? = some e → Same H1 H → Y i H x H' → ∀ (R : V → Hp → Prop), (∀ H4, Same H H4 → R (v e) H4) → g x (wipe σ vs) H' fun σ2 H2 => wipe σ2 vs = wipe σ vs ∧ te σ2 H2 R)
    (hd : ∀ H', Same H1 H' → H' D = some (.lst (zs.map v)) → Qd H') :
    ∃ W : Nat → Nat → Hp → Prop, (∃ m, W 0 m (upd H1 D (.lst []))) ∧ ∀ i m H, W i m H →
      (J.stop i H ∧ Qd H) ∨ (J.go i H ∧ ∃ Nx : Hp → Prop, (∀ H', Nx H' → ∃ m', m' < m ∧ W (i + 1) m' H') ∧ ∀ x H', J.yld i H x H' → g x (wipe σ vs) H' fun σ2 H2 => wipe σ2 vs = wipe σ vs ∧ tYes σ2 H2 fun b H3 =>
        if b = true then te σ2 H3 fun y H4 => ∃ acc, H4 D = some (.lst acc) ∧ acc.length < sizeLine ∧ Nx (upd H4 D (.lst (acc ++ [y]))) else Nx H3) := by
  refine lc_it (tt := tYes) w (fun i H => Same H1 H ∧ H D = some (.lst ((zs.take i).map v))) ⟨sNew hD, upd_same⟩ (fun _ _ _ h => h.1) ?_ ?_
  · rintro i x H H' hi ⟨s, e⟩ y
    have hx : zs[i]? = some (zs[i]'(by omega)) := List.getElem?_eq_getElem _
    refine hs i _ x H H' hx s y _ fun H4 s4 => ⟨_, s4 _ _ e, small1000 (by rw [List.length_map, List.length_take]; omega), sUpd (s.trans s4) hD, ?_⟩
    rw [upd_same, take_of hx, List.map_append]
    rfl
  · rintro H ⟨s, e⟩
    rw [← hn, List.take_length] at e
    exact hd H s e
theorem wk_txt {z : Str} : Walk (Its z) z.cps.size (fun H => Same H1 H) (fun i H v H' => H' = H ∧ ∃ c, z.cps[i]? = some c ∧ v = .str ⟨#[c]⟩) := walk_str.mono (fun _ _ => True.intro) fun _ _ _ _ _ _ y => y
theorem wk_list {xs : List V} (ha : H1 a = some (.lst xs)) : Walk (Itl K a) xs.length (fun H => Same H1 H) (YAt xs) := walk_list.mono (fun _ s => SqL.of (s _ _ ha)) fun _ _ _ _ _ _ y => y
end
/-- a dict from letters to letters -/
def NmAt (H : Hp) (N : Addr) (f : Nat → Nat) : Prop := ∃ kvs : List (Key × V), H N = some (.dK kvs) ∧ ∀ c, 97 ≤ c → c ≤ 122 → valV kvs (.inr ⟨#[c]⟩) = some (sg (f c))
theorem NmAt.same {H H' : Hp} {N : Addr} {f : Nat → Nat} (h : NmAt H N f) (s : Same H H') : NmAt H' N f :=
  let ⟨k, h1, h2⟩ := h
  ⟨k, s _ _ h1, h2⟩
theorem NmAt.get {H : Hp} {N : Addr} {f : Nat → Nat} (h : NmAt H N f) {c : Nat} (c0 : 97 ≤ c) (c1 : c ≤ 122) : DGet H N (sg c) (some (sg (f c))) := by
  obtain ⟨k, h1, h2⟩ := h
  rw [← h2 c c0 c1]
  exact DGet.k (k := .inr ⟨#[c]⟩) h1
theorem rd_nm {td ty : TE} {σ : L2.St} {H : Hp} {Q : VK} (q : td σ H fun x H1 => ty σ H1 fun y H2 => ∃ a v, x = .ref a ∧ DGet H2 a y (some v) ∧ Q v H2) : tDGet td ty σ H Q := q
theorem merge_other {k : Key} : ∀ {l : List (Key × V)} {acc : List (Key × V)}, (∀ e ∈ l, e.1 ≠ k) → valV (mergeK acc l) k = valV acc k
  | [], _, _ => rfl
  | e :: l, acc, h => by
    show valV (mergeK (L2.putK acc e.1 e.2) l) k = _
    rw [merge_other fun e he => h e (List.mem_cons_of_mem _ he), valV_put, if_neg fun z => h e List.mem_cons_self z.symm]
theorem merge_at : ∀ {l : List (Key × V)} {acc : List (Key × V)} {i : Nat} {e : Key × V}, (l.map (·.1)).Nodup → l[i]? = some e → valV (mergeK acc l) e.1 = some e.2
  | [], _, i, e, _, h => by simp at h
  | d :: l, acc, 0, e, nd, h => by
    have e1 : d = e := by simpa using h
    subst e1
    show valV (mergeK (L2.putK acc d.1 d.2) l) d.1 = _
    rw [List.map_cons, List.nodup_cons] at nd
    refine (merge_other (k := d.1) fun x hx z => nd.1 ?_).trans ?_
    · rw [← z]
      exact List.mem_map_of_mem (f := fun x : Key × V => x.1) hx
    · rw [valV_put, if_pos rfl]
  | d :: l, acc, i + 1, e, nd, h => by
    rw [List.map_cons, List.nodup_cons] at nd
    exact merge_at (l := l) nd.2 (by simpa using h)
theorem rd_iS {te : TE} {σ : L2.St} {H : Hp} {R : It → Hp → Prop} (q : te σ H fun v H1 => ∃ x, v = .str x ∧ R (Its x) H1) : iStr te σ H R := q
abbrev abcZ : Str := Str.ofString "abcdefghijklmnopqrstuvwxyz"
abbrev abcN : List Nat := (List.range 26).map (97 + ·)
theorem abcZ_eq : abcZ.cps.toList = abcN := by decide
theorem abcN_at {i c : Nat} (h : abcN[i]? = some c) : c = 97 + i ∧ i < 26 := by
  rw [List.getElem?_map] at h
  obtain ⟨n, h1, h2⟩ := Option.map_eq_some_iff.mp h
  have hi : i < 26 := by
    have := (List.getElem?_eq_some_iff.mp h1).1
    rwa [List.length_range] at this
  rw [List.getElem?_range hi] at h1
  cases h1
  exact ⟨h2.symm, hi⟩
theorem abcZ_at {i c : Nat} (h : abcZ.cps[i]? = some c) : c = 97 + i ∧ i < 26 := by
  refine abcN_at ?_
  rw [← abcZ_eq]
  simpa using h
theorem mem_abcN {c : Nat} : c ∈ abcN ↔ 97 ≤ c ∧ c ≤ 122 := by
  rw [List.mem_map]
  constructor
  · rintro ⟨n, hn, rfl⟩
    rw [List.mem_range] at hn
    omega
  · intro h
    exact ⟨c - 97, by rw [List.mem_range]; omega, by omega⟩
theorem dp_app {K : PySem.W.Frag} {H : Hp} : ∀ {xs ys : List V} {ds es : List PyData}, DpAll K H xs ds → DpAll K H ys es → DpAll K H (xs ++ ys) (ds ++ es)
  | [], _, [], _, _, h => h
  | _ :: _, _, _ :: _, _, .cons h k, h2 => .cons h (dp_app k h2)
  | [], _, _ :: _, _, h, _ => by cases h
  | _ :: _, _, [], _, h, _ => by cases h
def dOI : Option Nat → PyData
  | none => .none
  | some j => .int (j : Nat)
theorem dp_oI {K : PySem.W.Frag} {H : Hp} (o : Option Nat) : Dp K H (oI o) (dOI o) := by
  cases o with
  | none => exact .non
  | some j => exact .int _
theorem Sd.oI {n : Nat} (o : Option Nat) : Sd n (dOI o) := by
  cases o with
  | none => exact Sd.none
  | some j => exact Sd.int
theorem Sd.opt {n : Nat} {o : Option Nat} (h : ∀ c, o = some c → c ≤ 122) : Sd n (dO o) := by
  cases o with
  | none => exact Sd.none
  | some c =>
    exact Sd.str (cs := [c]) fun d hd => by
      rw [List.mem_singleton] at hd
      rw [hd]
      exact h c rfl
abbrev dRuns (rs : List (Nat × Nat)) : PyData := .list (rs.map fun e => .tuple (dPC e))
theorem Sd.runs {rs : List (Nat × Nat)} (h : ∀ e ∈ rs, e.1 ≤ 122) : Sd 2 (dRuns rs) := by
  refine Sd.list fun x hx => ?_
  obtain ⟨e, he, rfl⟩ := List.mem_map.mp hx
  refine Sd.tuple fun y hy => ?_
  rcases List.mem_cons.mp hy with c | c
  · rw [c]
    exact Sd.str (cs := [e.1]) fun d hd => by
      rw [List.mem_singleton] at hd
      rw [hd]
      exact h e he
  · rw [List.mem_singleton.mp c]
    exact Sd.int
theorem runs_fst (cs : List Nat) : ∀ e ∈ runs cs, e.1 ∈ cs := by
  have go : ∀ k, k ≤ cs.length → ∀ e ∈ runs (cs.take k), e.1 ∈ cs := by
    intro k
    induction k with
    | zero => intro _ e he; cases he
    | succ k ih =>
      intro hk e he
      have hx : cs[k]? = some cs[k] := List.getElem?_eq_getElem (by omega)
      rw [take_of hx, runs_snoc] at he
      have mem : cs[k] ∈ cs := List.getElem_mem _
      have ih := ih (by omega)
      unfold rsn at he
      cases q : (LX.runs (cs.take k)).getLast? with
      | none =>
        rw [q] at he
        rcases List.mem_append.mp he with h | h
        · exact ih e h
        · rw [List.mem_singleton.mp h]
          exact mem
      | some y =>
        obtain ⟨y, m⟩ := y
        rw [q] at he
        dsimp only at he
        by_cases c : y = cs[k]
        · rw [if_pos c] at he
          rcases List.mem_or_eq_of_mem_set he with h | h
          · exact ih e h
          · rw [h]
            exact mem
        · rw [if_neg c] at he
          rcases List.mem_append.mp he with h | h
          · exact ih e h
          · rw [List.mem_singleton.mp h]
            exact mem
  have := go cs.length (Nat.le_refl _)
  rw [List.take_length] at this
  exact this
/-- all that is asked of a lineup, by its colors -/
abbrev dRes (cs : List Nat) : PyData := .list ([.str (txt [cs.headD 0]), dO ((cs.filter fun d => d != cs.headD 0).head?), dRuns (runs cs), .str (txt (firstsOf cs))] ++ abcN.map fun c => .tuple [.int (cs.count c : Nat), dOI (cs.findIdx? (· == c))])
theorem sd_res {cs : List Nat} (h : ∀ c ∈ cs, c ≤ 122) (ne : cs ≠ []) : Sd 3 (dRes cs) := by
  have h0 : cs.headD 0 ≤ 122 := by
    cases cs with
    | nil => exact absurd rfl ne
    | cons c cs => exact h c List.mem_cons_self
  refine Sd.list fun x hx => ?_
  rcases List.mem_append.mp hx with hx | hx
  · rcases List.mem_cons.mp hx with rfl | hx
    · exact Sd.str fun d hd => by
        rw [List.mem_singleton] at hd
        rw [hd]
        exact h0
    rcases List.mem_cons.mp hx with rfl | hx
    · exact Sd.opt fun c e => h c (List.mem_filter.mp (List.mem_of_head? e)).1
    rcases List.mem_cons.mp hx with rfl | hx
    · exact Sd.runs fun e he => h _ (runs_fst cs e he)
    rw [List.mem_singleton.mp hx]
    exact Sd.str fun d hd => h d (mem_firsts.mp hd)
  · obtain ⟨c, _, rfl⟩ := List.mem_map.mp hx
    refine (Sd.tuple (n := 0) fun y hy => ?_).mono (by decide)
    rcases List.mem_cons.mp hy with c | c
    · rw [c]
      exact Sd.int
    · rw [List.mem_singleton.mp c]
      exact Sd.oI _
theorem paired_at {α β : Type} {R : α → β → Prop} : ∀ {xs : List α} {ys : List β}, xs.length = ys.length → (∀ (j : Nat) (x : α) (y : β), xs[j]? = some x → ys[j]? = some y → R x y) → Paired R xs ys
  | [], [], _, _ => .nil
  | x :: xs, y :: ys, h, k => .cons (k 0 x y rfl rfl) (paired_at (by simpa using h) fun j a b ha hb => k (j + 1) a b (by simpa using ha) (by simpa using hb))
  | [], _ :: _, h, _ => by simp at h
  | _ :: _, [], h, _ => by simp at h
theorem merge_some (k : Key) : ∀ (l acc : List (Key × V)), (valV (mergeK acc l) k).isSome = ((valV acc k).isSome || l.any fun e => decide (e.1 = k))
  | [], acc => by simp [mergeK]
  | e :: l, acc => by
    show (valV (mergeK (L2.putK acc e.1 e.2) l) k).isSome = _
    rw [merge_some k l, valV_put, List.any_cons]
    by_cases c : k = e.1
    · rw [if_pos c, decide_eq_true c.symm]
      simp
    · rw [if_neg c, decide_eq_false fun z => c z.symm]
      simp
theorem rd_din {ty td : TE} {σ : L2.St} {H : Hp} {Q : VK} (q : ty σ H fun y H1 => td σ H1 fun x H2 => ∃ a o, x = .ref a ∧ DGet H2 a y o ∧ Q (.bl o.isSome) H2) : tDIn ty td σ H Q := q
end LX

namespace LX
open PySem L2
section
variable {K : PySem.W.Frag} {a D : Addr} {g : TG} {tt : TT} {te : TE} {vs : List Nat} {σ : L2.St} {H1 : Hp} {Qd : Hp → Prop} {J : It} {n : Nat} {Y : Nat → Hp → V → Hp → Prop}
/-- a comprehension with a test, its items known by their numbers -/
theorem lc_f (w : Walk J n (fun H => Same H1 H) Y) (f : Nat → Option V) (hD : H1 D = none) (hz : n ≤ 1000)
    (hs : ∀ i x H H', i < n → Same H1 H → Y i H x H' → ∀ (T : V → Hp → Prop) (F : Hp → Prop), (∀ y H4, f i = some y → Same H H4 → T y H4) → (∀ H4, f i = none → Same H H4 → F H4) →
      g x (wipe σ vs) H' fun σ2 H2 => wipe σ2 vs = wipe σ vs ∧ tt σ2 H2 fun b H3 => if b = true then te σ2 H3 T else F H3)
    (hd : ∀ H', Same H1 H' → H' D = some (.lst ((List.range n).filterMap f)) → Qd H') :
    ∃ W : Nat → Nat → Hp → Prop, (∃ m, W 0 m (upd H1 D (.lst []))) ∧ ∀ i m H, W i m H →
      (J.stop i H ∧ Qd H) ∨ (J.go i H ∧ ∃ Nx : Hp → Prop, (∀ H', Nx H' → ∃ m', m' < m ∧ W (i + 1) m' H') ∧ ∀ x H', J.yld i H x H' → g x (wipe σ vs) H' fun σ2 H2 => wipe σ2 vs = wipe σ vs ∧ tt σ2 H2 fun b H3 =>
        if b = true then te σ2 H3 fun y H4 => ∃ acc, H4 D = some (.lst acc) ∧ acc.length < sizeLine ∧ Nx (upd H4 D (.lst (acc ++ [y]))) else Nx H3) := by
  refine lc_it w (fun i H => Same H1 H ∧ H D = some (.lst ((List.range i).filterMap f))) ⟨sNew hD, upd_same⟩ (fun _ _ _ h => h.1) ?_ ?_
  · rintro i x H H' hi ⟨s, e⟩ y
    have ln : ((List.range i).filterMap f).length ≤ i := by
      have := List.length_filterMap_le f (List.range i)
      rw [List.length_range] at this
      exact this
    refine hs i x H H' hi s y _ _ (fun v H4 hv s4 => ⟨_, s4 _ _ e, small1000 (by omega), sUpd (s.trans s4) hD, ?_⟩) fun H4 hv s4 => ⟨s.trans s4, ?_⟩
    · rw [upd_same, List.range_succ, List.filterMap_append, List.filterMap_cons_some hv]
      rfl
    · rw [s4 _ _ e, List.range_succ, List.filterMap_append, List.filterMap_cons_none hv]
      show _ = some (HO.lst (_ ++ []))
      rw [List.append_nil]
  · rintro H ⟨s, e⟩
    exact hd H s e
theorem wk_enum {xs : List V} (ha : H1 a = some (.lst xs)) : Walk (Ite K a) xs.length (fun H => Same H1 H) (YPair (fun i => some (.int (i : Nat))) (fun i => xs[i]?)) := walk_enum.mono (fun _ s => SqL.of (s _ _ ha)) fun _ _ _ _ _ _ y => y
theorem wk_range {lo : Int} {n : Nat} : Walk (Itr lo n) n (fun H => Same H1 H) (YFn fun i => .int (lo + i)) := walk_range.mono (fun _ _ => True.intro) fun _ _ _ _ _ _ y => y
theorem rd_iEn {ta : TA} {H : Hp} {R : It → Hp → Prop} (q : ta σ H fun vs H1 => ∃ a xs, vs = [.ref a] ∧ SqL K H1 a xs ∧ R (Ite K a) H1) : iEnum K ta σ H R := q
end
theorem rd_inTx {H : Hp} {Q : VK} {c : Nat} {cs : List Nat} (q : Q (.bl (decide (c ∈ cs))) H) : rInT false (sg c) (.str (txt cs)) H Q :=
  ⟨c, _, rfl, rfl, q⟩
theorem rd_notInTx {H : Hp} {Q : VK} {c : Nat} {cs : List Nat} (q : Q (.bl (!decide (c ∈ cs))) H) : rInT true (sg c) (.str (txt cs)) H Q :=
  ⟨c, _, rfl, rfl, q⟩
theorem len_txt (cs : List Nat) : (txt cs).length = cs.length := rfl
end LX
namespace LX
open PySem L2
theorem rd_forR2 {σ : L2.St} {H : Hp} {ta : TA} {g : TG} {tb : TS} {D : Ends} (lo hi : Int) (b1 : -(2 ^ 62) ≤ lo) (b2 : lo < 2 ^ 62) (b3 : -(2 ^ 62) ≤ hi) (b4 : hi < 2 ^ 62) (M : Hp → Prop) (h1 : ∀ R : List V → Hp → Prop, (∀ H1, M H1 → R [.int lo, .int hi] H1) → ta σ H R)
    (h2 : ∀ H1, M H1 → ∃ W : Nat → Nat → L2.St → Hp → Prop, (∃ m, W 0 m σ H1) ∧ ∀ i m σ H, W i m σ H →
      ((Itr lo (hi - lo).toNat).stop i H ∧ D.nx σ H) ∨ ((Itr lo (hi - lo).toNat).go i H ∧ ∃ N : L2.St → Hp → Prop, (∀ σ' H', N σ' H' → ∃ m', m' < m ∧ W (i + 1) m' σ' H') ∧ ∀ x H', (Itr lo (hi - lo).toNat).yld i H x H' → g x σ H' fun σ2 H2 => tb { D with nx := N, ct := N, bk := D.nx } σ2 H2)) :
    tFor (iRng2 ta) g tb D σ H := h1 _ fun H1 m => ⟨lo, hi, rfl, ⟨b1, b2, b3, b4⟩, h2 H1 m⟩
end LX
namespace LX
open PySem L2
section
variable {K : PySem.W.Frag} {a D : Addr} {g : TG} {tt : TT} {te : TE} {vs : List Nat} {σ : L2.St} {H1 : Hp} {Qd : Hp → Prop}
/-- a comprehension over any walk whose items are new tuples (made from some of zs) -/
theorem lc_mkf {J : It} {n : Nat} {Y : Nat → Hp → V → Hp → Prop} {α β : Type} {m : β → List V} {zs : List α} (w : Walk J n (fun H => Same H1 H) Y) (f : α → Option β) (hn : zs.length = n) (hz : n ≤ 1000) (hD : H1 D = none)
    (hs : ∀ i e x H H', zs[i]? = some e → Same H1 H → Y i H x H' → ∀ (T : V → Hp → Prop) (F : Hp → Prop), (∀ t b H4, f e = some b → Same H H4 → H4 t = some (.tup (m b)) → T (.ref t) H4) → (∀ H4, f e = none → Same H H4 → F H4) →
      g x (wipe σ vs) H' fun σ2 H2 => wipe σ2 vs = wipe σ vs ∧ tt σ2 H2 fun b H3 => if b = true then te σ2 H3 T else F H3)
    (hd : ∀ H' us, Same H1 H' → H' D = some (.lst (us.map V.ref)) → TsAt m H' us (zs.filterMap f) → Qd H') :
    ∃ W : Nat → Nat → Hp → Prop, (∃ m, W 0 m (upd H1 D (.lst []))) ∧ ∀ i m H, W i m H →
      (J.stop i H ∧ Qd H) ∨ (J.go i H ∧ ∃ Nx : Hp → Prop, (∀ H', Nx H' → ∃ m', m' < m ∧ W (i + 1) m' H') ∧ ∀ x H', J.yld i H x H' → g x (wipe σ vs) H' fun σ2 H2 => wipe σ2 vs = wipe σ vs ∧ tt σ2 H2 fun b H3 =>
        if b = true then te σ2 H3 fun y H4 => ∃ acc, H4 D = some (.lst acc) ∧ acc.length < sizeLine ∧ Nx (upd H4 D (.lst (acc ++ [y]))) else Nx H3) := by
  refine lc_it w (fun i H => Same H1 H ∧ ∃ us : List Addr, H D = some (.lst (us.map V.ref)) ∧ TsAt m H us ((zs.take i).filterMap f)) ⟨sNew hD, [], upd_same, True.intro⟩ (fun _ _ _ h => h.1) ?_ ?_
  · rintro i x H H' hi ⟨s, us, e, t⟩ y
    have hx : zs[i]? = some (zs[i]'(by omega)) := List.getElem?_eq_getElem _
    have ul := t.len
    have fl := List.length_filterMap_le f (zs.take i)
    rw [List.length_take] at fl
    refine hs i _ x H H' hx s y _ _ (fun t4 b H4 hb s4 ht4 => ⟨_, s4 _ _ e, small1000 (by rw [List.length_map]; omega), sUpd (s.trans s4) hD, us ++ [t4], by rw [upd_same, List.map_append]; rfl, ?_⟩) fun H4 hb s4 => ⟨s.trans s4, us, s4 _ _ e, ?_⟩
    · have tD : t4 ≠ D := fun z => by
        rw [z, s4 _ _ e] at ht4
        cases ht4
      rw [take_of hx, List.filterMap_append, List.filterMap_cons_some hb]
      exact ((t.mono (sTups s4)).off (s4 _ _ e)).snoc (by rw [upd_ne tD]; exact ht4)
    · rw [take_of hx, List.filterMap_append, List.filterMap_cons_none hb]
      show TsAt m H4 us (_ ++ [])
      rw [List.append_nil]
      exact t.mono (sTups s4)
  · rintro H ⟨s, us, e, t⟩
    rw [← hn, List.take_length] at t
    exact hd H us s e t
end
theorem fm_filt {α : Type} (p : α → Bool) : ∀ l : List α, l.filterMap (fun e => if p e = true then some e else none) = l.filter p
  | [] => rfl
  | x :: l => by
    have ih := fm_filt p l
    cases q : p x with
    | true =>
      rw [List.filter_cons_of_pos q, ← ih]
      exact List.filterMap_cons_some (by rw [if_pos q])
    | false =>
      rw [List.filter_cons_of_neg (by rw [q]; exact Bool.false_ne_true), ← ih]
      exact List.filterMap_cons_none (by rw [if_neg (by rw [q]; exact Bool.false_ne_true)])
end LX

namespace LX
open PySem L2
theorem Vr.by_perm {r r' : Row} (V0 : Vr r) (p : r'.Perm r) : Vr r' := by
  have l := p.length_eq
  exact ⟨by rw [l]; exact V0.n1, by rw [l]; exact V0.n2, fun e he => V0.col e (p.mem_iff.mp he), by rw [l]; exact (p.map _).trans V0.perm⟩
theorem TupsAt.rev' {H : Hp} : ∀ {ts : List Addr} {r : Row}, TupsAt H ts r → TupsAt H ts.reverse r.reverse
  | [], [], h => h
  | t :: ts, e :: r, h => by
    rw [List.reverse_cons, List.reverse_cons]
    exact (TupsAt.rev' (ts := ts) (r := r) h.2).app (TupsAt.one h.1)
  | [], _ :: _, h => h.elim
  | _ :: _, [], h => h.elim
/-- the bag, the lineup and the calls, three objects -/
structure Ew (H : Hp) (p l c : Addr) (r : Row) (cs : List Nat) (b : Nat) : Prop where
  S : SrcN H p b
  R : RowAt H l r
  V : Vr r
  gc : H c = some (.lst (cs.map vN))
  hcs : ∀ q ∈ cs, q < r.length
  ncp : c ≠ p
  nlc : l ≠ c
/-- all but these three stay -/
def Off3 (p l c : Addr) (H H' : Hp) : Prop := ∀ b o, H b = some o → b ≠ p → b ≠ l → b ≠ c → H' b = some o
theorem Off3.refl {p l c : Addr} {H : Hp} : Off3 p l c H H := fun _ _ e _ _ _ => e
theorem Off3.same {p l c : Addr} {H H1 H2 : Hp} (a : Off3 p l c H H1) (s : Same H1 H2) : Off3 p l c H H2 := fun x o e n1 n2 n3 => s _ _ (a x o e n1 n2 n3)
theorem Off3.draw {p l c : Addr} {H H1 H2 : Hp} (a : Off3 p l c H H1) (f : ∀ x, x ≠ p → H2 x = H1 x) : Off3 p l c H H2 := fun x o e n1 n2 n3 => by
  rw [f x n1]
  exact a x o e n1 n2 n3
theorem Off3.setc {p l c : Addr} {H H1 : Hp} {o : HO} (a : Off3 p l c H H1) : Off3 p l c H (upd H1 c o) := fun x o e n1 n2 n3 => by
  rw [upd_ne n3]
  exact a x o e n1 n2 n3
theorem Off3.setl {p l c : Addr} {H H1 : Hp} {o : HO} (a : Off3 p l c H H1) : Off3 p l c H (upd H1 l o) := fun x o e n1 n2 n3 => by
  rw [upd_ne n2]
  exact a x o e n1 n2 n3
section
variable {H H' : Hp} {p l c : Addr} {r : Row} {cs : List Nat} {b b' : Nat}
theorem srcLst (S : SrcN H p b) : ∃ xs, H p = some (.lst xs) ∧ xs.length = 3 ∧ ∀ x ∈ xs, ∃ i, x = V.int i := by
  obtain ⟨s0, s1, s2, e, _⟩ := S.ex
  refine ⟨_, e, rfl, fun x hx => ?_⟩
  rcases List.mem_cons.mp hx with z | hx
  · exact ⟨_, z⟩
  rcases List.mem_cons.mp hx with z | hx
  · exact ⟨_, z⟩
  · exact ⟨_, List.mem_singleton.mp hx⟩
theorem row_ne_src (S : SrcN H p b) (h : RowAt H l r) : l ≠ p := fun z => by
  obtain ⟨s0, s1, s2, e, _⟩ := S.ex
  obtain ⟨ts, h1, _⟩ := h
  rw [z, e] at h1
  injection h1 with h1
  injection h1 with h1
  cases ts with
  | nil => cases h1
  | cons t ts => cases h1
theorem RowAt.off' {xs : List V} {o : HO} {q : Addr} (h : RowAt H l r) (hq : H q = some (.lst xs)) (n : l ≠ q) : RowAt (upd H q o) l r := by
  obtain ⟨ts, h1, h2⟩ := h
  refine ⟨ts, by rw [upd_ne n]; exact h1, h2.mono fun x ys e => ?_⟩
  rw [upd_ne fun z => by rw [z, hq] at e; cases e]
  exact e
theorem Ew.nlp (E : Ew H p l c r cs b) : l ≠ p := row_ne_src E.S E.R
theorem Ew.same (E : Ew H p l c r cs b) (s : Same H H') : Ew H' p l c r cs b := ⟨E.S.same s, E.R.same s, E.V, s _ _ E.gc, E.hcs, E.ncp, E.nlc⟩
theorem Ew.draw (E : Ew H p l c r cs b) (S : SrcN H' p b') (f : ∀ x, x ≠ p → H' x = H x) : Ew H' p l c r cs b' := by
  obtain ⟨xs, hp, _⟩ := srcLst E.S
  have nlp := E.nlp
  refine ⟨S, ?_, E.V, by rw [f c E.ncp]; exact E.gc, E.hcs, E.ncp, E.nlc⟩
  obtain ⟨ts, h1, h2⟩ := E.R
  refine ⟨ts, by rw [f l nlp]; exact h1, h2.mono fun x ys e => ?_⟩
  rw [f x fun z => by rw [z, hp] at e; cases e]
  exact e
theorem Ew.setc (E : Ew H p l c r cs b) {cs' : List Nat} (h : ∀ q ∈ cs', q < r.length) {xs : List L2.V} (hx : xs = cs'.map vN) : Ew (upd H c (.lst xs)) p l c r cs' b := by
  subst hx
  obtain ⟨s0, s1, s2, e, h1, h2⟩ := E.S.ex
  exact ⟨⟨s0, s1, s2, by rw [upd_ne (Ne.symm E.ncp)]; exact e, h1, h2⟩, E.R.off' E.gc E.nlc, E.V, upd_same, h, E.ncp, E.nlc⟩
theorem Ew.setl (E : Ew H p l c r cs b) {r' : Row} {ts' : List Addr} (ht : TupsAt H ts' r') (hp : r'.Perm r) {xs : List L2.V} (hx : xs = ts'.map V.ref) : Ew (upd H l (.lst xs)) p l c r' cs b := by
  subst hx
  obtain ⟨ts, h1, h2⟩ := E.R
  obtain ⟨s0, s1, s2, e, h3, h4⟩ := E.S.ex
  have nlp := E.nlp
  refine ⟨⟨s0, s1, s2, by rw [upd_ne nlp.symm]; exact e, h3, h4⟩, ⟨ts', upd_same, ht.mono fun x ys e => ?_⟩, E.V.by_perm hp, by rw [upd_ne E.nlc.symm]; exact E.gc, by rw [hp.length_eq]; exact E.hcs, E.ncp, E.nlc⟩
  rw [upd_ne fun z => by rw [z, h1] at e; cases e]
  exact e
end
abbrev dC (cs : List Nat) : PyData := dI (cs.map fun c : Nat => (c : Int))
section
variable {K : PySem.W.Frag}
theorem dp_cs {H : Hp} {c : Addr} {cs : List Nat} (h : H c = some (.lst (cs.map vN))) : Dp K H (.ref c) (dC cs) := .lst (SqL.of h) (by
  have := dp_ints (K := K) (H := H) (cs.map fun c : Nat => (c : Int))
  rw [List.map_map] at this
  exact this)
abbrev d0 (r : Row) (cs : List Nat) : PyData := .list [dR r, dC cs]
theorem sh_dC {n : Nat} {cs : List Nat} (hn : n ≤ 60) (hcs : ∀ p ∈ cs, p < n) (hz : cs.length ≤ 240) : Sh 13 1 10000 (dC cs) := by
  have h := Sh.list (B := 13) (n := 0) (m := 40) (xs := (cs.map fun c : Nat => (c : Int)).map PyData.int) fun x hx => by
    obtain ⟨i, hi, rfl⟩ := List.mem_map.mp hx
    obtain ⟨q, hq, rfl⟩ := List.mem_map.mp hi
    refine Sh.int ?_
    have := hcs q hq
    have e : (10 : Nat) ^ 12 = 1000000000000 := by decide
    omega
  refine h.mono (by decide) ?_
  rw [List.length_map, List.length_map]
  omega
theorem sh_d0 {r : Row} {cs : List Nat} (V0 : Vr r) (hcs : ∀ p ∈ cs, p < r.length) (hz : cs.length ≤ 240) : Sh 13 3 30000 (d0 r cs) := by
  refine (Sh.list (n := 2) (m := 10000) fun x hx => ?_).mono (Nat.le_refl _) (show 2 * 10001 ≤ 30000 by decide)
  rcases List.mem_cons.mp hx with z | z
  · rw [z]
    exact (sh_row V0).mono (by decide) (by decide)
  · rw [List.mem_singleton.mp z]
    exact (sh_dC V0.n2 hcs hz).mono (by decide) (Nat.le_refl _)
theorem dp_d0 {H : Hp} {N l c : Addr} {r : Row} {cs : List Nat} (h : H N = some (.lst [.ref l, .ref c])) (h1 : RowAt H l r) (h2 : H c = some (.lst (cs.map vN))) : Dp K H (.ref N) (d0 r cs) :=
  .lst (SqL.of h) (.cons h1.dp (.cons (dp_cs h2) .nil))
/-- repr([lineup, calls]) -/
theorem rd_reprE {H : Hp} {Q : VK} {N p l c : Addr} {r : Row} {cs : List Nat} {b : Nat} (E : Ew H p l c r cs b) (hz : cs.length ≤ 240) (h : H N = some (.lst [.ref l, .ref c])) (q : Q (.str (d0 r cs).shown) H) : qRepr K [.ref N] H Q :=
  rd_repr (dp_d0 h E.R E.gc) (sh_d0 E.V E.hcs hz) (by decide) (by decide) q
end
end LX
namespace LX
open PySem L2
theorem _root_.L2.Same.draw {H0 H1 H2 : Hp} {p : Addr} (s : Same H0 H1) (hp : H0 p = none) (f : ∀ x, x ≠ p → H2 x = H1 x) : Same H0 H2 := fun x o e => by
  rw [f x (ne_of_none e hp)]
  exact s _ _ e
theorem _root_.L2.Same.off' {H0 H1 H2 : Hp} {p : Addr} (s : Same H0 H1) (hp : H0 p = none) (f : Same' p H1 H2) : Same H0 H2 := fun x o e => f _ _ (s _ _ e) (ne_of_none e hp)
theorem Ew.off {H : Hp} {p l c q : Addr} {r : Row} {cs : List Nat} {b : Nat} {xs : List L2.V} {o : HO} (E : Ew H p l c r cs b) (hq : H q = some (.lst xs)) (n1 : q ≠ p) (n2 : l ≠ q) (n3 : c ≠ q) : Ew (upd H q o) p l c r cs b := by
  obtain ⟨s0, s1, s2, e, h3, h4⟩ := E.S.ex
  exact ⟨⟨s0, s1, s2, by rw [upd_ne n1.symm]; exact e, h3, h4⟩, E.R.off' hq n2, E.V, by rw [upd_ne n3]; exact E.gc, E.hcs, E.ncp, E.nlc⟩
theorem Ew.le {H : Hp} {p l c : Addr} {r : Row} {cs : List Nat} {b b' : Nat} (E : Ew H p l c r cs b) (h : b ≤ b') : Ew H p l c r cs b' := ⟨E.S.mono h, E.R, E.V, E.gc, E.hcs, E.ncp, E.nlc⟩
end LX

namespace LX
open PySem L2
theorem pickI3 (a b c : Int) {j : Int} (h0 : 0 ≤ j) (h1 : j < 3) : ∃ x : Int, atI [V.int a, V.int b, V.int c] j = some (.int x) ∧ (x = a ∨ x = b ∨ x = c) := by
  have : j = 0 ∨ j = 1 ∨ j = 2 := by omega
  rcases this with e | e | e
  · subst e
    exact ⟨a, rfl, Or.inl rfl⟩
  · subst e
    exact ⟨b, rfl, Or.inr (Or.inl rfl)⟩
  · subst e
    exact ⟨c, rfl, Or.inr (Or.inr rfl)⟩
theorem rd_slI {K : PySem.W.Frag} {H : Hp} {Q : VK} {l : Addr} {ns : List Int} {lo hi : Option Int} (hS : Scr K H l ns) (q : ∀ b (ms : List Int), H b = none → ms.length ≤ ns.length → Q (.ref b) (upd H b (.lst (ms.map V.int)))) : rSlL K (.ref l) lo hi H Q := by
  obtain ⟨ms, e1, e2⟩ := cut_ints ns lo hi
  exact ⟨l, _, rfl, hS.seq, fun b hb => by rw [e1]; exact q b ms hb e2⟩
end LX

namespace K84
open PySem L2 LX
def top (i : Nat) : Stmt := PySem.Challenge.pw_lastother_k84_farthest_reachable_lineups.main.body.getD i (.Pass ⟨0, 0, 0, 0⟩)
abbrev s__law_pool : Stmt := top 24
abbrev s__law_draw : Stmt := top 25
abbrev s__law_lineup : Stmt := top 27
abbrev s__law_called : Stmt := top 28
abbrev s__law_reachable : Stmt := top 29
abbrev s__law_cell_at : Stmt := top 23
abbrev s__law_many : Stmt := top 26
abbrev s_is_integer : Stmt := top 5
abbrev s_is_color : Stmt := top 6
abbrev s_is_colored_integer : Stmt := top 11
abbrev s_is_lineup : Stmt := top 9
abbrev s_check_lineup : Stmt := top 10
abbrev s_check_people : Stmt := top 21
abbrev s_check_small : Stmt := top 20
abbrev s_first_other_color : Stmt := top 12
abbrev s_colors_by_person : Stmt := top 13
abbrev s_apply_call : Stmt := top 15
abbrev s_shortest_calls_to_all : Stmt := top 19
abbrev s_farthest_reachable : Stmt := top 18
abbrev s_law : Stmt := top 30
structure Ad where
  f__law_pool : Addr
  d__law_pool : FuncData
  f__law_draw : Addr
  d__law_draw : FuncData
  f__law_lineup : Addr
  d__law_lineup : FuncData
  f__law_called : Addr
  d__law_called : FuncData
  f__law_reachable : Addr
  d__law_reachable : FuncData
  f__law_cell_at : Addr
  d__law_cell_at : FuncData
  f__law_many : Addr
  d__law_many : FuncData
  f_is_integer : Addr
  d_is_integer : FuncData
  f_is_color : Addr
  d_is_color : FuncData
  f_is_colored_integer : Addr
  d_is_colored_integer : FuncData
  f_is_lineup : Addr
  d_is_lineup : FuncData
  f_check_lineup : Addr
  d_check_lineup : FuncData
  f_check_people : Addr
  d_check_people : FuncData
  f_check_small : Addr
  d_check_small : FuncData
  f_first_other_color : Addr
  d_first_other_color : FuncData
  f_colors_by_person : Addr
  d_colors_by_person : FuncData
  f_apply_call : Addr
  d_apply_call : FuncData
  f_shortest_calls_to_all : Addr
  d_shortest_calls_to_all : FuncData
  f_farthest_reachable : Addr
  d_farthest_reachable : FuncData
  f_law : Addr
  d_law : FuncData
  t_MOST_PEOPLE : Tok
  t_SMALL : Tok
structure Txt (K : PySem.W.Frag) (mg : Str → Option Value) (a : Ad) : Prop where
  b_bool : mg "bool" = none
  b_int : mg "int" = none
  b_isinstance : mg "isinstance" = none
  b_len : mg "len" = none
  b_list : mg "list" = none
  b_max : mg "max" = none
  b_min : mg "min" = none
  b_range : mg "range" = none
  b_repr : mg "repr" = none
  b_sorted : mg "sorted" = none
  b_str : mg "str" = none
  b_tuple : mg "tuple" = none
  b_type : mg "type" = none
  c_MOST_PEOPLE : mg "MOST_PEOPLE" = some (.int 60 a.t_MOST_PEOPLE)
  c_SMALL : mg "SMALL" = some (.int 4 a.t_SMALL)
  F__law_pool : Fun K "_law_pool" "_law_pool" s__law_pool a.f__law_pool a.d__law_pool
  n__law_pool : Binds K a.d__law_pool ["cell", "place"] []
  g__law_pool : mg "_law_pool" = some (.ref a.f__law_pool)
  k__law_pool : PySem.W.keepIn K (.ref a.f__law_pool) = true
  F__law_draw : Fun K "_law_draw" "_law_draw" s__law_draw a.f__law_draw a.d__law_draw
  n__law_draw : Binds K a.d__law_draw ["pool", "many"] []
  g__law_draw : mg "_law_draw" = some (.ref a.f__law_draw)
  k__law_draw : PySem.W.keepIn K (.ref a.f__law_draw) = true
  F__law_lineup : Fun K "_law_lineup" "_law_lineup" s__law_lineup a.f__law_lineup a.d__law_lineup
  n__law_lineup : Binds K a.d__law_lineup ["pool", "many"] []
  g__law_lineup : mg "_law_lineup" = some (.ref a.f__law_lineup)
  k__law_lineup : PySem.W.keepIn K (.ref a.f__law_lineup) = true
  F__law_called : Fun K "_law_called" "_law_called" s__law_called a.f__law_called a.d__law_called
  n__law_called : Binds K a.d__law_called ["start", "who"] []
  g__law_called : mg "_law_called" = some (.ref a.f__law_called)
  k__law_called : PySem.W.keepIn K (.ref a.f__law_called) = true
  F__law_reachable : Fun K "_law_reachable" "_law_reachable" s__law_reachable a.f__law_reachable a.d__law_reachable
  n__law_reachable : Binds K a.d__law_reachable ["start"] []
  g__law_reachable : mg "_law_reachable" = some (.ref a.f__law_reachable)
  k__law_reachable : PySem.W.keepIn K (.ref a.f__law_reachable) = true
  F__law_cell_at : Fun K "_law_cell_at" "_law_cell_at" s__law_cell_at a.f__law_cell_at a.d__law_cell_at
  n__law_cell_at : Binds K a.d__law_cell_at ["script", "k"] []
  g__law_cell_at : mg "_law_cell_at" = some (.ref a.f__law_cell_at)
  k__law_cell_at : PySem.W.keepIn K (.ref a.f__law_cell_at) = true
  F__law_many : Fun K "_law_many" "_law_many" s__law_many a.f__law_many a.d__law_many
  n__law_many : Binds K a.d__law_many ["pool", "script"] []
  g__law_many : mg "_law_many" = some (.ref a.f__law_many)
  k__law_many : PySem.W.keepIn K (.ref a.f__law_many) = true
  F_is_integer : Fun K "is_integer" "is_integer" s_is_integer a.f_is_integer a.d_is_integer
  n_is_integer : Binds K a.d_is_integer ["value"] []
  g_is_integer : mg "is_integer" = some (.ref a.f_is_integer)
  k_is_integer : PySem.W.keepIn K (.ref a.f_is_integer) = true
  F_is_color : Fun K "is_color" "is_color" s_is_color a.f_is_color a.d_is_color
  n_is_color : Binds K a.d_is_color ["value"] []
  g_is_color : mg "is_color" = some (.ref a.f_is_color)
  k_is_color : PySem.W.keepIn K (.ref a.f_is_color) = true
  F_is_colored_integer : Fun K "is_colored_integer" "is_colored_integer" s_is_colored_integer a.f_is_colored_integer a.d_is_colored_integer
  n_is_colored_integer : Binds K a.d_is_colored_integer ["value"] []
  g_is_colored_integer : mg "is_colored_integer" = some (.ref a.f_is_colored_integer)
  k_is_colored_integer : PySem.W.keepIn K (.ref a.f_is_colored_integer) = true
  F_is_lineup : Fun K "is_lineup" "is_lineup" s_is_lineup a.f_is_lineup a.d_is_lineup
  n_is_lineup : Binds K a.d_is_lineup ["value"] []
  g_is_lineup : mg "is_lineup" = some (.ref a.f_is_lineup)
  k_is_lineup : PySem.W.keepIn K (.ref a.f_is_lineup) = true
  F_check_lineup : Fun K "check_lineup" "check_lineup" s_check_lineup a.f_check_lineup a.d_check_lineup
  n_check_lineup : Binds K a.d_check_lineup ["value"] []
  g_check_lineup : mg "check_lineup" = some (.ref a.f_check_lineup)
  k_check_lineup : PySem.W.keepIn K (.ref a.f_check_lineup) = true
  F_check_people : Fun K "check_people" "check_people" s_check_people a.f_check_people a.d_check_people
  n_check_people : Binds K a.d_check_people ["lineup"] []
  g_check_people : mg "check_people" = some (.ref a.f_check_people)
  k_check_people : PySem.W.keepIn K (.ref a.f_check_people) = true
  F_check_small : Fun K "check_small" "check_small" s_check_small a.f_check_small a.d_check_small
  n_check_small : Binds K a.d_check_small ["lineup"] []
  g_check_small : mg "check_small" = some (.ref a.f_check_small)
  k_check_small : PySem.W.keepIn K (.ref a.f_check_small) = true
  F_first_other_color : Fun K "first_other_color" "first_other_color" s_first_other_color a.f_first_other_color a.d_first_other_color
  n_first_other_color : Binds K a.d_first_other_color ["lineup", "color"] []
  g_first_other_color : mg "first_other_color" = some (.ref a.f_first_other_color)
  k_first_other_color : PySem.W.keepIn K (.ref a.f_first_other_color) = true
  F_colors_by_person : Fun K "colors_by_person" "colors_by_person" s_colors_by_person a.f_colors_by_person a.d_colors_by_person
  n_colors_by_person : Binds K a.d_colors_by_person ["lineup"] []
  g_colors_by_person : mg "colors_by_person" = some (.ref a.f_colors_by_person)
  k_colors_by_person : PySem.W.keepIn K (.ref a.f_colors_by_person) = true
  F_apply_call : Fun K "apply_call" "apply_call" s_apply_call a.f_apply_call a.d_apply_call
  n_apply_call : Binds K a.d_apply_call ["lineup", "person"] []
  g_apply_call : mg "apply_call" = some (.ref a.f_apply_call)
  k_apply_call : PySem.W.keepIn K (.ref a.f_apply_call) = true
  F_shortest_calls_to_all : Fun K "shortest_calls_to_all" "shortest_calls_to_all" s_shortest_calls_to_all a.f_shortest_calls_to_all a.d_shortest_calls_to_all
  n_shortest_calls_to_all : Binds K a.d_shortest_calls_to_all ["lineup"] []
  g_shortest_calls_to_all : mg "shortest_calls_to_all" = some (.ref a.f_shortest_calls_to_all)
  k_shortest_calls_to_all : PySem.W.keepIn K (.ref a.f_shortest_calls_to_all) = true
  F_farthest_reachable : Fun K "farthest_reachable" "farthest_reachable" s_farthest_reachable a.f_farthest_reachable a.d_farthest_reachable
  n_farthest_reachable : Binds K a.d_farthest_reachable ["lineup"] []
  g_farthest_reachable : mg "farthest_reachable" = some (.ref a.f_farthest_reachable)
  k_farthest_reachable : PySem.W.keepIn K (.ref a.f_farthest_reachable) = true
  F_law : Fun K "law" "law" s_law a.f_law a.d_law
  n_law : Binds K a.d_law ["script"] []
  g_law : mg "law" = some (.ref a.f_law)
  k_law : PySem.W.keepIn K (.ref a.f_law) = true
theorem sc__law_pool : FnScope ["cell", "place"] ["cell", "place"] (defScope s__law_pool) := ⟨rfl, rfl, rfl, by decide +kernel, rfl, by decide +kernel, by decide +kernel⟩
theorem sc__law_draw : FnScope ["pool", "many", "stir", "found"] ["pool", "many"] (defScope s__law_draw) := ⟨rfl, rfl, rfl, by decide +kernel, rfl, by decide +kernel, by decide +kernel⟩
theorem sc__law_lineup : FnScope ["pool", "many", "left", "order", "colors_here", "k", "person"] ["pool", "many"] (defScope s__law_lineup) := ⟨rfl, rfl, rfl, by decide +kernel, rfl, by decide +kernel, by decide +kernel⟩
theorem sc__law_called : FnScope ["start", "who", "own", "others_there", "one", "color", "pair"] ["start", "who"] (defScope s__law_called) := ⟨rfl, rfl, rfl, by decide +kernel, rfl, by decide +kernel, by decide +kernel⟩
theorem sc__law_reachable : FnScope ["start", "found", "layer", "turn", "later", "here", "calls_so_far", "who", "there"] ["start"] (defScope s__law_reachable) := ⟨rfl, rfl, rfl, by decide +kernel, rfl, by decide +kernel, by decide +kernel⟩
theorem sc__law_cell_at : FnScope ["script", "k"] ["script", "k"] (defScope s__law_cell_at) := ⟨rfl, rfl, rfl, by decide +kernel, rfl, by decide +kernel, by decide +kernel⟩
theorem sc__law_many : FnScope ["pool", "script"] ["pool", "script"] (defScope s__law_many) := ⟨rfl, rfl, rfl, by decide +kernel, rfl, by decide +kernel, by decide +kernel⟩
theorem sc_is_integer : FnScope ["value"] ["value"] (defScope s_is_integer) := ⟨rfl, rfl, rfl, by decide +kernel, rfl, by decide +kernel, by decide +kernel⟩
theorem sc_is_color : FnScope ["value"] ["value"] (defScope s_is_color) := ⟨rfl, rfl, rfl, by decide +kernel, rfl, by decide +kernel, by decide +kernel⟩
theorem sc_is_colored_integer : FnScope ["value"] ["value"] (defScope s_is_colored_integer) := ⟨rfl, rfl, rfl, by decide +kernel, rfl, by decide +kernel, by decide +kernel⟩
theorem sc_is_lineup : FnScope ["value", "item", "person", "_"] ["value"] (defScope s_is_lineup) := ⟨rfl, rfl, rfl, by decide +kernel, rfl, by decide +kernel, by decide +kernel⟩
theorem sc_check_lineup : FnScope ["value"] ["value"] (defScope s_check_lineup) := ⟨rfl, rfl, rfl, by decide +kernel, rfl, by decide +kernel, by decide +kernel⟩
theorem sc_check_people : FnScope ["lineup"] ["lineup"] (defScope s_check_people) := ⟨rfl, rfl, rfl, by decide +kernel, rfl, by decide +kernel, by decide +kernel⟩
theorem sc_check_small : FnScope ["lineup"] ["lineup"] (defScope s_check_small) := ⟨rfl, rfl, rfl, by decide +kernel, rfl, by decide +kernel, by decide +kernel⟩
theorem sc_first_other_color : FnScope ["lineup", "color", "_", "worn"] ["lineup", "color"] (defScope s_first_other_color) := ⟨rfl, rfl, rfl, by decide +kernel, rfl, by decide +kernel, by decide +kernel⟩
theorem sc_colors_by_person : FnScope ["lineup", "colors", "person", "color"] ["lineup"] (defScope s_colors_by_person) := ⟨rfl, rfl, rfl, by decide +kernel, rfl, by decide +kernel, by decide +kernel⟩
theorem sc_apply_call : FnScope ["lineup", "person", "color", "taken", "others", "pair"] ["lineup", "person"] (defScope s_apply_call) := ⟨rfl, rfl, rfl, by decide +kernel, rfl, by decide +kernel, by decide +kernel⟩
theorem sc_shortest_calls_to_all : FnScope ["lineup", "start", "ways", "newest", "found", "current", "person", "after"] ["lineup"] (defScope s_shortest_calls_to_all) := ⟨rfl, rfl, rfl, by decide +kernel, rfl, by decide +kernel, by decide +kernel⟩
theorem sc_farthest_reachable : FnScope ["lineup", "ways", "lengths", "target"] ["lineup"] (defScope s_farthest_reachable) := ⟨rfl, rfl, rfl, by decide +kernel, rfl, by decide +kernel, by decide +kernel⟩
theorem sc_law : FnScope ["script", "k", "pool", "start", "known", "lengths", "due", "kept", "mark"] ["script"] (defScope s_law) := ⟨rfl, rfl, rfl, by decide +kernel, rfl, by decide +kernel, by decide +kernel⟩
end K84

/-! ### sorted of a list of tuples that are data -/
namespace LX
open PySem PySem.Spec PyProof.Rows L2
section
variable {α : Type}
/-- the order by data -/
abbrev leD (enc : α → List PyData) : α → α → Bool := PySem.W.dataLe false fun e => PyData.tuple (enc e)
/-- what must be told of the items -/
structure Srt1 (enc : α → List PyData) : Prop where
  alike : ∀ x y, PySem.W.alike (.tuple (enc x)) (.tuple (enc y)) = true
  first : ∀ x, ∃ d ds, enc x = d :: ds
  flat : ∀ x, (PyData.tuple (enc x)).depth ≤ 1
variable {X : Cx}
def rSortT (m : α → List V) (enc : α → List PyData) (K : PySem.W.Frag) : List V → Hp → VK → Prop := fun xs H Q => ∃ (a : Addr) (ts : List Addr) (zs : List α), xs = [.ref a] ∧ SqL K H a (ts.map V.ref) ∧ TsAt m H ts zs ∧ (∀ e, DpAll K H (m e) (enc e)) ∧ zs.length ≤ 1000 ∧
  ∀ (p : Addr) (us : List Addr) (ys : List α), H p = none → ys.Perm zs → ys.Pairwise (fun x y => leD enc x y = true) → TsAt m H us ys → Q (.ref p) (upd H p (.lst (us.map V.ref)))
theorem ts_zip {m : α → List V} {H : Hp} : ∀ {ts : List Addr} {zs : List α}, TsAt m H ts zs → ∀ b ∈ ts.zip zs, H b.1 = some (.tup (m b.2))
  | [], [], _, b, hb => by cases hb
  | t :: ts, z :: zs, h, b, hb => by
    rcases List.mem_cons.mp hb with e | e
    · rw [e]
      exact h.1
    · exact ts_zip (ts := ts) (zs := zs) h.2 b e
  | [], _ :: _, h, _, _ => h.elim
  | _ :: _, [], h, _, _ => h.elim
theorem zip_ts {m : α → List V} {H : Hp} : ∀ {bs : List (Addr × α)}, (∀ b ∈ bs, H b.1 = some (.tup (m b.2))) → TsAt m H (bs.map (·.1)) (bs.map (·.2))
  | [], _ => True.intro
  | b :: bs, h => ⟨h b List.mem_cons_self, zip_ts (bs := bs) fun c hc => h c (List.mem_cons_of_mem _ hc)⟩
theorem vals_refs1 : ∀ {ts : List Addr} {us : List Value}, Vals (ts.map V.ref) us → us = ts.map Value.ref
  | [], _, .nil => rfl
  | t :: ts, _, .cons r rs => by
    rw [List.map_cons, ← vals_refs1 rs]
    exact congrArg (· :: _) r
theorem each_zip {R : Value → Addr × α → Prop} : ∀ {ts : List Addr} {zs : List α}, ts.length = zs.length → (∀ b ∈ ts.zip zs, R (.ref b.1) b) → PySem.W.EachIs R (ts.map Value.ref) (ts.zip zs)
  | [], [], _, _ => .nil
  | t :: ts, z :: zs, h, k => .cons (k _ List.mem_cons_self) (each_zip (by simpa using h) fun b hb => k b (List.mem_cons_of_mem _ hb))
  | [], _ :: _, h, _ => by cases h
  | _ :: _, [], h, _ => by cases h
theorem each_refs {bs : List (Addr × α)} {out : List Value} (h : PySem.W.EachIs (fun v (b : Addr × α) => v = Value.ref b.1) out bs) : out = (bs.map (·.1)).map Value.ref := by
  induction h with
  | nil => rfl
  | cons h1 _ ih => rw [h1, ih]; rfl
theorem cr_sortT {m : α → List V} {enc : α → List PyData} (o : Srt1 enc) (hu : X.A.units + 64 < cLine) : CallR X (.builtin "sorted") (rSortT m enc X.K) := by
  intro pins s σ H xs us Q I r h
  obtain ⟨a, ts, zs, rfl, hs, ht, hd, hz, q⟩ := h
  obtain ⟨its, rv, pl, _⟩ := I.list hs
  rw [Vals.ref1 r]
  obtain rfl := vals_refs1 rv
  have tl := ht.len
  have reads : ∀ b ∈ ts.zip zs, ∃ as, Reads s.heap (.ref b.1) (.tuple (enc b.2)) as := fun b hb => Dp.reads I (.tuple (enc b.2)) (.ref b.1) (.ref b.1) (.tup (SqT.of (ts_zip ht b hb)) (hd b.2)) rfl
  have wide : ∀ b : Addr × α, X.A.units + 2 + (PyData.tuple (enc b.2)).depth < cLine := fun b => by
    have := o.flat b.2
    omega
  refine PySem.W.sorted_data (β := Addr × α) (enc := fun b => .tuple (enc b.2)) (R := fun v b => v = Value.ref b.1) (bs := ts.zip zs) pl.isList (each_zip tl fun b _ => rfl) (each_zip tl reads)
    (PySem.W.AllAlike.of fun b b' => o.alike b.2 b'.2) (PySem.W.Sortable.tuples fun b => ?_) (Nat.le_of_lt (small1000 ?_)) (fun b _ => wide b) fun out lo eo => ?_
  · obtain ⟨d, ds, e⟩ := o.first b.2
    exact ⟨d, ds, by rw [e]⟩
  · rw [List.length_zip]
    omega
  · obtain rfl := each_refs eo
    have pm := List.mergeSort_perm (ts.zip zs) (PySem.W.dataLe false fun b => PyData.tuple (enc b.2))
    have pw := PySem.W.sort_pairwise (PySem.W.sortLe_total (PyProof.Rows.listOrd PyProof.Rows.itemOrd) false fun b : Addr × α => PySem.W.keyToks (PyData.tuple (enc b.2))) (ts.zip zs)
    change List.Pairwise (fun x y : Addr × α => leD enc x.2 y.2 = true) ((ts.zip zs).mergeSort (PySem.W.dataLe false fun b => PyData.tuple (enc b.2))) at pw
    generalize (ts.zip zs).mergeSort (PySem.W.dataLe false fun b => PyData.tuple (enc b.2)) = bs at pm pw lo eo
    have back : (ts.zip zs).map (·.2) = zs := by
      rw [List.map_snd_zip (by omega)]
    have sz : ((bs.map (·.1)).map V.ref).length ≤ sizeLine := by
      refine Nat.le_of_lt (small1000 ?_)
      rw [List.length_map, List.length_map, pm.length_eq, List.length_zip]
      omega
    obtain ⟨c, at_⟩ := sortedAll_at s.heap (ts.map Value.ref) (((bs.map (·.1)).map Value.ref).toArray)
    have keep : ∀ b o, s.heap.get? b = some o → (sortedAll s.heap (ts.map Value.ref) (((bs.map (·.1)).map Value.ref).toArray)).get? b = some o := fun b o e => sortedAll_old e
    refine ⟨.ref (s.heap.objs.size + 1), upd H (s.heap.objs.size + 1) (.lst ((bs.map (·.1)).map V.ref)), I.laid (t' := s.toks) keep (Nat.le_succ _) ⟨sz, _, c, vals_refs _, by simpa using at_⟩, rfl, ?_⟩
    refine q _ _ (bs.map (·.2)) (I.hok.fresh (Nat.le_succ _)) ?_ (List.pairwise_map.mpr pw) (zip_ts fun b hb => ts_zip ht b (pm.mem_iff.mp hb))
    rw [← back]
    exact pm.map _
end
/-- tuples of a person and a letter -/
abbrev encP (e : Nat × Nat) : List PyData := [.int (e.1 : Int), .str ⟨#[e.2]⟩]
theorem leP {x y : Nat × Nat} (h : leD encP x y = true) : x.1 ≤ y.1 := by
  have h2 : (!PySem.W.dataLt (.tuple (encP y)) (.tuple (encP x))) = true := h
  have h3 : PySem.W.dataLt (.tuple (encP y)) (.tuple (encP x)) = false := by
    cases e : PySem.W.dataLt (.tuple (encP y)) (.tuple (encP x)) with
    | false => rfl
    | true =>
      rw [e] at h2
      cases h2
  by_cases c : x.1 ≤ y.1
  · exact c
  · rw [PySem.W.dataLt_pair (by simp [PySem.W.alike]) (by simp [PySem.W.alike]), PySem.W.dataLt_int] at h3
    have : ¬ ((y.1 : Int) = (x.1 : Int)) := by omega
    simp only [PyData.eqv, beq_iff_eq, this, if_false, decide_eq_false_iff_not] at h3
    omega
theorem srtP : Srt1 encP where
  alike := fun x y => by simp [PySem.W.alike, PySem.W.alikeAll]
  first := fun x => ⟨_, _, rfl⟩
  flat := fun x => by simp [PyData.depth, PyData.depthAll]
theorem ksortT {X : Cx} {α : Type} {K : PySem.W.Frag} {m : α → List V} {enc : α → List PyData} (o : Srt1 enc) (hu : X.A.units + 64 < cLine) (h : X.K = K := by rfl) : CallR X (.builtin "sorted") (rSortT m enc K) := by
  subst h
  exact cr_sortT o hu
/-- the people by their numbers -/
def bp (r : Row) : Row := (List.range r.length).map fun p => (p, colOf r p)
theorem bp_len (r : Row) : (bp r).length = r.length := by
  unfold bp
  rw [List.length_map, List.length_range]
theorem up_range : ∀ {l : List Nat} {n : Nat}, l.Perm (List.range n) → l.Pairwise (· ≤ ·) → l = List.range n := by
  intro l n p w
  exact p.eq_of_pairwise (le := (· ≤ ·)) (fun a b _ _ h1 h2 => Nat.le_antisymm h1 h2) w (List.pairwise_lt_range.imp fun h => Nat.le_of_lt h)
theorem bp_is {r ys : Row} (V0 : Vr r) (p : ys.Perm r) (w : ys.Pairwise (fun x y => leD encP x y = true)) : ys = bp r := by
  have e : ys.map (·.1) = List.range r.length := up_range ((p.map _).trans V0.perm) (List.pairwise_map.mpr (w.imp fun h => leP h))
  have l := p.length_eq
  apply List.ext_getElem?
  intro i
  unfold bp
  rw [List.getElem?_map]
  have ei : (ys.map (·.1))[i]? = (List.range r.length)[i]? := by rw [e]
  rw [List.getElem?_map] at ei
  cases q : ys[i]? with
  | none =>
    rw [q] at ei
    rw [← ei]
    rfl
  | some x =>
    rw [q] at ei
    rw [← ei]
    show some x = some (x.1, colOf r x.1)
    rw [colOf_is V0.nodup (p.mem_iff.mp (List.mem_of_getElem? q))]
theorem ts_row {H : Hp} : ∀ {ts : List Addr} {r : Row}, TupsAt H ts r → TsAt (fun e : Nat × Nat => pr e) H ts r
  | [], [], _ => True.intro
  | _ :: ts, _ :: r, h => ⟨h.1, ts_row (ts := ts) (r := r) h.2⟩
  | [], _ :: _, h => h.elim
  | _ :: _, [], h => h.elim
theorem row_ts {H : Hp} : ∀ {ts : List Addr} {r : Row}, TsAt (fun e : Nat × Nat => pr e) H ts r → TupsAt H ts r
  | [], [], _ => True.intro
  | _ :: ts, _ :: r, h => ⟨h.1, row_ts (ts := ts) (r := r) h.2⟩
  | [], _ :: _, h => h.elim
  | _ :: _, [], h => h.elim
theorem bp_vr {r : Row} (V0 : Vr r) : (bp r).Perm r := by
  have h := List.mergeSort_perm r (leD encP)
  have w := PySem.W.sort_pairwise (PySem.W.sortLe_total (PyProof.Rows.listOrd PyProof.Rows.itemOrd) false fun b : Nat × Nat => PySem.W.keyToks (PyData.tuple (encP b))) r
  change List.Pairwise (fun x y : Nat × Nat => leD encP x y = true) (r.mergeSort (leD encP)) at w
  rw [bp_is V0 h w] at h
  exact h
theorem rd_sortRow {K : PySem.W.Frag} {H : Hp} {Q : VK} {a : Addr} {r : Row} (hR : RowAt H a r) (V0 : Vr r) (q : ∀ p H', H p = none → Same H H' → RowAt H' p (bp r) → Q (.ref p) H') : rSortT (fun e : Nat × Nat => pr e) encP K [.ref a] H Q := by
  obtain ⟨ts, hl, ht⟩ := hR
  have n2 := V0.n2
  refine ⟨a, ts, r, rfl, SqL.of hl, ts_row ht, fun e => .cons (.int _) (.cons (.str _) .nil), by omega, fun p us ys hp pm pw hU => ?_⟩
  obtain rfl := bp_is V0 pm pw
  have s := sNew (o := .lst (us.map V.ref)) hp
  exact q p _ hp s ⟨us, upd_same, (row_ts hU).mono (sTups s)⟩
end LX

/-! Values by what they hold (Fr), objects that a def owns (Sep), what a call leaves (Ret). -/
namespace LQ
open PySem L2 LX
def dKey : Key → PyData
  | .inl i => .int i
  | .inr s => .str s
mutual
/-- v holds d; lists and dicts reached are none of H0's -/
inductive Fr (H0 H : Hp) : V → PyData → Prop
  | non : Fr H0 H .non .none
  | bl (b : Bool) : Fr H0 H (.bl b) (.bool b)
  | int (i : Int) : Fr H0 H (.int i) (.int i)
  | str (x : Str) : Fr H0 H (.str x) (.str x)
  | lst {a : Addr} {xs : List V} {ds : List PyData} : H a = some (.lst xs) → H0 a = none → FrL H0 H xs ds → Fr H0 H (.ref a) (.list ds)
  | tup {a : Addr} {xs : List V} {ds : List PyData} : H a = some (.tup xs) → FrL H0 H xs ds → Fr H0 H (.ref a) (.tuple ds)
  | dic {a : Addr} {kvs : List (Key × V)} {ds : List (PyData × PyData)} : Rd H a (.dK kvs) → H0 a = none → FrK H0 H kvs ds → Fr H0 H (.ref a) (.dict ds)
inductive FrL (H0 H : Hp) : List V → List PyData → Prop
  | nil : FrL H0 H [] []
  | cons {v : V} {vs : List V} {d : PyData} {ds : List PyData} : Fr H0 H v d → FrL H0 H vs ds → FrL H0 H (v :: vs) (d :: ds)
inductive FrK (H0 H : Hp) : List (Key × V) → List (PyData × PyData) → Prop
  | nil : FrK H0 H [] []
  | cons {k : Key} {v : V} {vs : List (Key × V)} {d : PyData} {ds : List (PyData × PyData)} : Fr H0 H v d → FrK H0 H vs ds → FrK H0 H ((k, v) :: vs) ((dKey k, d) :: ds)
end
theorem nodup_ix {α : Type} : ∀ {l : List α} {i j : Nat} {a : α}, l.Nodup → l[i]? = some a → l[j]? = some a → i = j
  | [], i, _, _, _, h, _ => by simp at h
  | x :: l, 0, 0, _, _, _, _ => rfl
  | x :: l, 0, j + 1, a, nd, h, k => by
    have e : x = a := by simpa using h
    exact absurd (e ▸ List.mem_of_getElem? (by simpa using k)) (List.nodup_cons.mp nd).1
  | x :: l, i + 1, 0, a, nd, h, k => by
    have e : x = a := by simpa using k
    exact absurd (e ▸ List.mem_of_getElem? (by simpa using h)) (List.nodup_cons.mp nd).1
  | x :: l, i + 1, j + 1, a, nd, h, k => congrArg (· + 1) (nodup_ix (List.nodup_cons.mp nd).2 (by simpa using h) (by simpa using k))
/-- the heap that holds nothing -/
def E0h : Hp := fun _ => none
mutual
/-- what the cells of the value need: each list, dict or tuple cell that is read in H and allowed by H0 is so in H', H0' -/
theorem Fr.move {H0 H H0' H' : Hp} (kl : ∀ a xs, H a = some (.lst xs) → H0 a = none → H' a = some (.lst xs) ∧ H0' a = none) (kt : ∀ a xs, H a = some (.tup xs) → H' a = some (.tup xs))
    (kd : ∀ a xs, Rd H a (.dK xs) → H0 a = none → Rd H' a (.dK xs) ∧ H0' a = none) : ∀ {v : V} {d : PyData}, Fr H0 H v d → Fr H0' H' v d
  | _, _, .non => .non
  | _, _, .bl b => .bl b
  | _, _, .int i => .int i
  | _, _, .str x => .str x
  | _, _, .lst h n hs => .lst (kl _ _ h n).1 (kl _ _ h n).2 (FrL.move kl kt kd hs)
  | _, _, .tup h hs => .tup (kt _ _ h) (FrL.move kl kt kd hs)
  | _, _, .dic h n hs => .dic (kd _ _ h n).1 (kd _ _ h n).2 (FrK.move kl kt kd hs)
theorem FrL.move {H0 H H0' H' : Hp} (kl : ∀ a xs, H a = some (.lst xs) → H0 a = none → H' a = some (.lst xs) ∧ H0' a = none) (kt : ∀ a xs, H a = some (.tup xs) → H' a = some (.tup xs))
    (kd : ∀ a xs, Rd H a (.dK xs) → H0 a = none → Rd H' a (.dK xs) ∧ H0' a = none) : ∀ {v : List V} {d : List PyData}, FrL H0 H v d → FrL H0' H' v d
  | _, _, .nil => .nil
  | _, _, .cons h hs => .cons (Fr.move kl kt kd h) (FrL.move kl kt kd hs)
theorem FrK.move {H0 H H0' H' : Hp} (kl : ∀ a xs, H a = some (.lst xs) → H0 a = none → H' a = some (.lst xs) ∧ H0' a = none) (kt : ∀ a xs, H a = some (.tup xs) → H' a = some (.tup xs))
    (kd : ∀ a xs, Rd H a (.dK xs) → H0 a = none → Rd H' a (.dK xs) ∧ H0' a = none) : ∀ {v : List (Key × V)} {d : List (PyData × PyData)}, FrK H0 H v d → FrK H0' H' v d
  | _, _, .nil => .nil
  | _, _, .cons h hs => .cons (Fr.move kl kt kd h) (FrK.move kl kt kd hs)
end
section
variable {H0 H H' G : Hp} {v : V} {d : PyData} {vs : List V} {ds : List PyData} {K : PySem.W.Frag}
theorem rd_same {a : Addr} {u : HO} (h : Rd H a u) (s : Same H H') : Rd H' a u := h.imp (fun e => s _ _ e) fun ⟨o, e⟩ => ⟨o, s _ _ e⟩
theorem Fr.same (h : Fr H0 H v d) (s : Same H H') : Fr H0 H' v d := h.move (fun _ _ e n => ⟨s _ _ e, n⟩) (fun _ _ e => s _ _ e) fun _ _ e n => ⟨rd_same e s, n⟩
theorem FrL.same (h : FrL H0 H vs ds) (s : Same H H') : FrL H0 H' vs ds := h.move (fun _ _ e n => ⟨s _ _ e, n⟩) (fun _ _ e => s _ _ e) fun _ _ e n => ⟨rd_same e s, n⟩
theorem Fr.rp (h : Fr H0 H v d) : Fr E0h H v d := h.move (fun _ _ e _ => ⟨e, rfl⟩) (fun _ _ e => e) fun _ _ e _ => ⟨e, rfl⟩
theorem FrL.rp (h : FrL H0 H vs ds) : FrL E0h H vs ds := h.move (fun _ _ e _ => ⟨e, rfl⟩) (fun _ _ e => e) fun _ _ e _ => ⟨e, rfl⟩
theorem FrL.len : ∀ {vs : List V} {ds : List PyData}, FrL H0 H vs ds → vs.length = ds.length
  | _, _, .nil => rfl
  | _, _, .cons _ hs => congrArg (· + 1) (FrL.len hs)
theorem FrL.app : ∀ {vs us : List V} {ds es : List PyData}, FrL H0 H vs ds → FrL H0 H us es → FrL H0 H (vs ++ us) (ds ++ es)
  | _, _, _, _, .nil, k => k
  | _, _, _, _, .cons h hs, k => .cons h (FrL.app hs k)
theorem FrL.get : ∀ {vs : List V} {ds : List PyData} {i : Nat} {d : PyData}, FrL H0 H vs ds → ds[i]? = some d → ∃ v, vs[i]? = some v ∧ Fr H0 H v d
  | _, _, i, _, .nil, e => by simp at e
  | _, _, 0, _, .cons h _, e => by
    simp at e
    subst e
    exact ⟨_, rfl, h⟩
  | _, _, i + 1, d, .cons _ hs, e => by
    obtain ⟨v, h1, h2⟩ := FrL.get (i := i) hs (by simpa using e)
    exact ⟨v, by simpa using h1, h2⟩
theorem FrL.get' : ∀ {vs : List V} {ds : List PyData} {i : Nat} {v : V}, FrL H0 H vs ds → vs[i]? = some v → ∃ d, ds[i]? = some d ∧ Fr H0 H v d
  | _, _, i, _, .nil, e => by simp at e
  | _, _, 0, _, .cons h _, e => by
    simp at e
    subst e
    exact ⟨_, rfl, h⟩
  | _, _, i + 1, v, .cons _ hs, e => by
    obtain ⟨d, h1, h2⟩ := FrL.get' (i := i) hs (by simpa using e)
    exact ⟨d, by simpa using h1, h2⟩
theorem FrL.set : ∀ {vs : List V} {ds : List PyData} {v : V} {d : PyData} (i : Nat), FrL H0 H vs ds → Fr H0 H v d → FrL H0 H (vs.set i v) (ds.set i d)
  | _, _, _, _, _, .nil, _ => .nil
  | _, _, _, _, 0, .cons _ hs, k => .cons k hs
  | _, _, _, _, i + 1, .cons h hs, k => .cons h (FrL.set i hs k)
theorem FrL.take : ∀ {vs : List V} {ds : List PyData} (n : Nat), FrL H0 H vs ds → FrL H0 H (vs.take n) (ds.take n)
  | _, _, 0, _ => .nil
  | _, _, _ + 1, .nil => .nil
  | _, _, n + 1, .cons h hs => .cons h (FrL.take n hs)
theorem FrL.drop : ∀ {vs : List V} {ds : List PyData} (n : Nat), FrL H0 H vs ds → FrL H0 H (vs.drop n) (ds.drop n)
  | _, _, 0, h => h
  | _, _, _ + 1, .nil => .nil
  | _, _, n + 1, .cons _ hs => FrL.drop n hs
theorem FrL.erase : ∀ {vs : List V} {ds : List PyData} (n : Nat), FrL H0 H vs ds → FrL H0 H (vs.eraseIdx n) (ds.eraseIdx n)
  | _, _, _, .nil => .nil
  | _, _, 0, .cons _ hs => hs
  | _, _, n + 1, .cons h hs => .cons h (FrL.erase n hs)
theorem FrL.rev : ∀ {vs : List V} {ds : List PyData}, FrL H0 H vs ds → FrL H0 H vs.reverse ds.reverse
  | _, _, .nil => .nil
  | _, _, .cons h hs => by
    rw [List.reverse_cons, List.reverse_cons]
    exact (FrL.rev hs).app (.cons h .nil)
theorem FrL.insert : ∀ {vs : List V} {ds : List PyData} {v : V} {d : PyData} (i : Nat), FrL H0 H vs ds → Fr H0 H v d → FrL H0 H (vs.insertIdx i v) (ds.insertIdx i d)
  | _, _, _, _, 0, hs, k => .cons k hs
  | _, _, _, _, _ + 1, .nil, _ => .nil
  | _, _, _, _, i + 1, .cons h hs, k => .cons h (FrL.insert i hs k)
theorem FrL.rep (h : Fr H0 H v d) : ∀ n : Nat, FrL H0 H (List.replicate n v) (List.replicate n d)
  | 0 => .nil
  | n + 1 => .cons h (FrL.rep h n)
mutual
theorem Fr.dp : ∀ {v : V} {d : PyData}, Fr H0 H v d → d.hasDict = false → Dp K H v d
  | _, _, .non, _ => .non
  | _, _, .bl b, _ => .bl b
  | _, _, .int i, _ => .int i
  | _, _, .str x, _ => .str x
  | _, _, .lst h _ hs, e => .lst (SqL.of h) (FrL.dp hs (by simpa only [PyData.hasDict] using e))
  | _, _, .tup h hs, e => .tup (SqT.of h) (FrL.dp hs (by simpa only [PyData.hasDict] using e))
  | _, _, .dic _ _ _, e => by simp [PyData.hasDict] at e
theorem FrL.dp : ∀ {v : List V} {d : List PyData}, FrL H0 H v d → PyData.hasDictAll d = false → DpAll K H v d
  | _, _, .nil, _ => .nil
  | _, _, .cons h hs, e => by
    simp only [PyData.hasDictAll, Bool.or_eq_false_iff] at e
    exact .cons (Fr.dp h e.1) (FrL.dp hs e.2)
end
end
/-- G: what stands and is never written; cs: the objects that are written, with what they hold; ms: those of them that the caller has handed over -/
structure Sep (ms : List Addr) (H0 G H : Hp) (cs : List (Addr × HO)) : Prop where
  sub : ∀ b o, G b = some o → H b = some o
  cel : ∀ c ∈ cs, H c.1 = some c.2 ∧ G c.1 = none ∧ ∀ xs, c.2 ≠ .tup xs
  nd : (cs.map (·.1)).Nodup
  msc : ∀ p ∈ ms, p ∈ cs.map (·.1)
  hms : ∀ p ∈ ms, H0 p ≠ none
  old : ∀ b, H b = none → H0 b = none
  base : ∀ b o, H0 b = some o → b ∉ ms → G b = some o
  tups : ∀ b xs, H b = some (.tup xs) → G b = some (.tup xs)
/-- what a call leaves: G holds what its value needs, and all of H but ms -/
structure Ret (ms : List Addr) (H G H' : Hp) : Prop where
  sub : ∀ b o, G b = some o → H' b = some o
  non : ∀ p ∈ ms, G p = none
  base : ∀ b o, H b = some o → b ∉ ms → G b = some o
  old : ∀ b, H' b = none → H b = none
  tups : ∀ b xs, H' b = some (.tup xs) → G b = some (.tup xs)
section
variable {ms ns : List Addr} {H0 G H H' G1 : Hp} {cs : List (Addr × HO)} {p : Addr} {o o' : HO} {v : V} {d : PyData} {vs : List V} {ds : List PyData}
theorem Sep.start (H : Hp) : Sep [] H H H [] := ⟨fun _ _ e => e, fun _ h => absurd h List.not_mem_nil, List.nodup_nil, fun _ h => absurd h List.not_mem_nil, fun _ h => absurd h List.not_mem_nil, fun _ e => e, fun _ _ e _ => e, fun _ _ e => e⟩
/-- a def's start: the objects that it may write, the rest -/
def hid (H : Hp) (ps : List Addr) : Hp := fun b => if b ∈ ps then none else H b
theorem hid_some {ps : List Addr} {b : Addr} (h : hid H ps b = some o) : b ∉ ps ∧ H b = some o := by
  unfold hid at h
  by_cases c : b ∈ ps
  · rw [if_pos c] at h
    cases h
  · rw [if_neg c] at h
    exact ⟨c, h⟩
theorem hid_in {ps : List Addr} {b : Addr} (h : b ∈ ps) : hid H ps b = none := if_pos h
theorem hid_out {ps : List Addr} {b : Addr} (h : b ∉ ps) : hid H ps b = H b := if_neg h
theorem Sep.startM (H : Hp) (cs : List (Addr × HO)) (h : ∀ c ∈ cs, H c.1 = some c.2 ∧ ∀ xs, c.2 ≠ .tup xs) (nd : (cs.map (·.1)).Nodup) : Sep (cs.map (·.1)) H (hid H (cs.map (·.1))) H cs :=
  { sub := fun _ _ e => (hid_some e).2
    cel := fun c hc => ⟨(h c hc).1, hid_in (List.mem_map_of_mem hc), (h c hc).2⟩
    nd := nd
    msc := fun _ h => h
    hms := fun p hp => by
      obtain ⟨c, hc, rfl⟩ := List.mem_map.mp hp
      rw [(h c hc).1]
      exact fun z => by cases z
    old := fun _ e => e
    base := fun _ _ e n => by rw [hid_out n]; exact e
    tups := fun b xs e => by
      rw [hid_out]
      · exact e
      · intro z
        obtain ⟨c, hc, rfl⟩ := List.mem_map.mp z
        have k := h c hc
        rw [e] at k
        exact k.2 xs (Option.some.inj k.1).symm }
theorem Sep.get (S : Sep ms H0 G H cs) (i : Nat) (h : cs[i]? = some (p, o)) : H p = some o := (S.cel _ (List.mem_of_getElem? h)).1
theorem Sep.gnone (S : Sep ms H0 G H cs) (i : Nat) (h : cs[i]? = some (p, o)) : G p = none := (S.cel _ (List.mem_of_getElem? h)).2.1
theorem Sep.gfree (S : Sep ms H0 G H cs) (h : H p = none) : G p = none := by
  cases e : G p with
  | none => rfl
  | some u =>
    rw [S.sub _ _ e] at h
    cases h
theorem Sep.cne (S : Sep ms H0 G H cs) (h : H p = none) : p ∉ cs.map (·.1) := fun z => by
  obtain ⟨c, hc, rfl⟩ := List.mem_map.mp z
  rw [(S.cel c hc).1] at h
  cases h
theorem Sep.same (S : Sep ms H0 G H cs) : Same G H := S.sub
/-- a new object, never written -/
theorem Sep.sh (S : Sep ms H0 G H cs) (h : H p = none) : Sep ms H0 (upd G p o) (upd H p o) cs where
  sub := fun b u e => by
    by_cases c : b = p
    · subst c
      rw [upd_same] at e ⊢
      exact e
    · rw [upd_ne c] at e ⊢
      exact S.sub b u e
  cel := fun c hc => by
    have n : c.1 ≠ p := fun z => S.cne h (List.mem_map.mpr ⟨c, hc, z⟩)
    rw [upd_ne n, upd_ne n]
    exact S.cel c hc
  nd := S.nd
  msc := S.msc
  hms := S.hms
  old := fun b e => by
    by_cases c : b = p
    · subst c
      exact S.old b h
    · rw [upd_ne c] at e
      exact S.old b e
  base := fun b u e n => by
    have c : b ≠ p := fun z => by
      subst z
      rw [S.old b h] at e
      cases e
    rw [upd_ne c]
    exact S.base b u e n
  tups := fun b xs e => by
    by_cases c : b = p
    · subst c
      rw [upd_same] at e ⊢
      exact e
    · rw [upd_ne c] at e ⊢
      exact S.tups b xs e
/-- a new object that will be written -/
theorem Sep.own (S : Sep ms H0 G H cs) (h : H p = none) (k : ∀ xs, o ≠ .tup xs) : Sep ms H0 G (upd H p o) ((p, o) :: cs) where
  sub := fun b u e => by
    rw [upd_ne (ne_of_none (S.sub b u e) h)]
    exact S.sub b u e
  cel := fun c hc => by
    rcases List.mem_cons.mp hc with rfl | hc
    · exact ⟨upd_same, S.gfree h, k⟩
    · have n : c.1 ≠ p := fun z => S.cne h (List.mem_map.mpr ⟨c, hc, z⟩)
      rw [upd_ne n]
      exact S.cel c hc
  nd := List.nodup_cons.mpr ⟨S.cne h, S.nd⟩
  msc := fun q hq => List.mem_cons_of_mem _ (S.msc q hq)
  hms := S.hms
  old := fun b e => by
    by_cases c : b = p
    · subst c
      exact S.old b h
    · rw [upd_ne c] at e
      exact S.old b e
  base := S.base
  tups := fun b xs e => by
    by_cases c : b = p
    · subst c
      rw [upd_same] at e
      exact absurd (Option.some.inj e) (k xs)
    · rw [upd_ne c] at e
      exact S.tups b xs e
/-- an owned object is written -/
theorem Sep.put (S : Sep ms H0 G H cs) (i : Nat) (h : cs[i]? = some (p, o)) (k : ∀ xs, o' ≠ .tup xs) : Sep ms H0 G (upd H p o') (cs.set i (p, o')) := by
  have il := (List.getElem?_eq_some_iff.mp h).1
  have ie := (List.getElem?_eq_some_iff.mp h).2
  have em : (cs.set i (p, o')).map (·.1) = cs.map (·.1) := by
    rw [List.map_set]
    apply List.ext_getElem?
    intro j
    by_cases c : i = j
    · subst c
      rw [List.getElem?_set_self (by rw [List.length_map]; exact il), List.getElem?_map, h]
      rfl
    · rw [List.getElem?_set_ne c]
  refine ⟨fun b u e => ?_, fun c hc => ?_, by rw [em]; exact S.nd, by rw [em]; exact S.msc, S.hms, fun b e => ?_, S.base, fun b xs e => ?_⟩
  · have n : b ≠ p := fun z => by
      subst z
      rw [S.gnone i h] at e
      cases e
    rw [upd_ne n]
    exact S.sub b u e
  · obtain ⟨j, hj⟩ := List.getElem?_of_mem hc
    by_cases c2 : i = j
    · subst c2
      rw [List.getElem?_set_self il] at hj
      cases hj
      exact ⟨upd_same, S.gnone i h, k⟩
    · rw [List.getElem?_set_ne c2] at hj
      have n : c.1 ≠ p := fun z => by
        have h1 : (cs.map (·.1))[j]? = some p := by rw [List.getElem?_map, hj, ← z]; rfl
        have h2 : (cs.map (·.1))[i]? = some p := by rw [List.getElem?_map, h]; rfl
        exact c2 (nodup_ix S.nd h2 h1)
      rw [upd_ne n]
      exact S.cel c (List.mem_of_getElem? hj)
  · have n : b ≠ p := fun z => by
      subst z
      rw [upd_same] at e
      cases e
    rw [upd_ne n] at e
    exact S.old b e
  · by_cases c : b = p
    · subst c
      rw [upd_same] at e
      exact absurd (Option.some.inj e) (k xs)
    · rw [upd_ne c] at e
      exact S.tups b xs e
/-- an owned object is written no more -/
theorem Sep.fix (S : Sep ms H0 G H cs) (i : Nat) (h : cs[i]? = some (p, o)) (hm : p ∉ ms) : Sep ms H0 (upd G p o) H (cs.eraseIdx i) := by
  have il := (List.getElem?_eq_some_iff.mp h).1
  have hp : p ∉ (cs.eraseIdx i).map (·.1) := by
    have nd := S.nd
    have pm : (cs.map (·.1)).Perm (p :: (cs.eraseIdx i).map (·.1)) := by
      have := (erase_perm h).symm.map (·.1)
      exact this
    exact (List.nodup_cons.mp (pm.nodup_iff.mp nd)).1
  refine ⟨fun b u e => ?_, fun c hc => ?_, ?_, fun q hq => ?_, S.hms, S.old, fun b u e n => ?_, fun b xs e => ?_⟩
  · by_cases c : b = p
    · subst c
      rw [upd_same] at e
      cases e
      exact S.get i h
    · rw [upd_ne c] at e
      exact S.sub b u e
  · have n : c.1 ≠ p := fun z => hp (List.mem_map.mpr ⟨c, hc, z⟩)
    rw [upd_ne n]
    exact S.cel c (List.mem_of_mem_eraseIdx hc)
  · exact S.nd.sublist ((List.eraseIdx_sublist cs i).map _)
  · have n : q ≠ p := fun z => hm (z ▸ hq)
    obtain ⟨c, hc, rfl⟩ := List.mem_map.mp (S.msc q hq)
    have pm := erase_perm h
    rcases List.mem_cons.mp (pm.mem_iff.mpr hc) with z | z
    · exact absurd (by rw [z]) n
    · exact List.mem_map_of_mem z
  · have n2 : b ≠ p := fun z => by
      subst z
      have q := S.gnone i h
      rw [S.base b u e n] at q
      cases q
    rw [upd_ne n2]
    exact S.base b u e n
  · have g := S.tups b xs e
    have n2 : b ≠ p := fun z => by
      subst z
      rw [S.gnone i h] at g
      cases g
    rw [upd_ne n2]
    exact g
theorem Sep.notms (S : Sep ms H0 G H cs) (n : H0 p = none) : p ∉ ms := fun z => S.hms p z n
/-- an owned object is forgotten -/
theorem Sep.drop (S : Sep ms H0 G H cs) (i : Nat) (h : cs[i]? = some (p, o)) (n : H0 p = none) : Sep ms H0 G H (cs.eraseIdx i) where
  sub := S.sub
  cel := fun c hc => S.cel c (List.mem_of_mem_eraseIdx hc)
  nd := S.nd.sublist ((List.eraseIdx_sublist cs i).map _)
  msc := fun q hq => by
    have k : q ≠ p := fun z => S.hms q hq (z ▸ n)
    obtain ⟨c, hc, rfl⟩ := List.mem_map.mp (S.msc q hq)
    rcases List.mem_cons.mp ((erase_perm h).mem_iff.mpr hc) with z | z
    · exact absurd (by rw [z]) k
    · exact List.mem_map_of_mem z
  hms := S.hms
  old := S.old
  base := S.base
  tups := S.tups
theorem same_upd (h : G p = none) : Same G (upd G p o) := sNew h
end
end LQ

/-! What defs compute, as functions that may be undefined (Option): the parts they are made of. -/
namespace LQ
open PySem L2
abbrev LIM : Nat := 100000
theorem lim_le {n : Nat} (h : n ≤ LIM) : n ≤ sizeLine := Nat.le_trans h (by decide)
theorem lim_lt {n : Nat} (h : n < LIM) : n < sizeLine := Nat.lt_of_lt_of_le h (by decide)
theorem bnd {α β : Type} {o : Option α} {f : α → Option β} {r : β} (h : o.bind f = some r) : ∃ x, o = some x ∧ f x = some r := by
  cases o with
  | none => cases h
  | some x => exact ⟨x, rfl, h⟩
theorem cnd {α : Type} {c : Bool} {a b : Option α} {r : α} (h : cond c a b = some r) : (c = true ∧ a = some r) ∨ (c = false ∧ b = some r) := by
  cases c with
  | true => exact Or.inl ⟨rfl, h⟩
  | false => exact Or.inr ⟨rfl, h⟩
theorem grd {α : Type} {c : Bool} {a : Option α} {r : α} (h : cond c a none = some r) : c = true ∧ a = some r := by
  cases c with
  | true => exact ⟨rfl, h⟩
  | false => cases h
theorem som {α : Type} {x y : α} (h : some x = some y) : x = y := Option.some.inj h
/-- how a block ends: it gives r back, goes on, breaks off -/
inductive Ctl (R S : Type) where
  | ret (r : R) | nx (s : S) | bk (s : S)
def loopF {α S : Type} (step : α → S → Option S) : List α → S → Option S
  | [], s => some s
  | x :: xs, s => (step x s).bind (loopF step xs)
def loopC {α R S : Type} (step : α → S → Option (Ctl R S)) : List α → S → Option (Ctl R S)
  | [], s => some (.nx s)
  | x :: xs, s => (step x s).bind fun c => match c with
    | .ret r => some (.ret r)
    | .nx s' => loopC step xs s'
    | .bk s' => some (.nx s')
def whileF {S : Type} (c : S → Option Bool) (b : S → Option S) : Nat → S → Option S
  | 0, _ => none
  | n + 1, s => (c s).bind fun t => cond t ((b s).bind (whileF c b n)) (some s)
def whileC {R S : Type} (c : S → Option Bool) (b : S → Option (Ctl R S)) : Nat → S → Option (Ctl R S)
  | 0, _ => none
  | n + 1, s => (c s).bind fun t => cond t ((b s).bind fun k => match k with
    | .ret r => some (.ret r)
    | .nx s' => whileC c b n s'
    | .bk s' => some (.nx s')) (some (.nx s))
/-- a comprehension, with the state that its parts change -/
def compS {α β S : Type} (f : α → S → Option (Option β × S)) : List α → S → Option (List β × S)
  | [], s => some ([], s)
  | x :: xs, s => (f x s).bind fun p => (compS f xs p.2).bind fun q => some ((match p.1 with | none => q.1 | some y => y :: q.1), q.2)
def compF {α β : Type} (f : α → Option (Option β)) : List α → Option (List β)
  | [] => some []
  | x :: xs => (f x).bind fun p => (compF f xs).bind fun q => some (match p with | none => q | some y => y :: q)
/-! ### numbers -/
def mulF (a b : Int) : Option Int := cond (decide (a.natAbs < 2 ^ 100000) && decide (b.natAbs < 2 ^ 100000)) (some (a * b)) none
def modF (a b : Int) : Option Int := cond (decide (0 < b)) (some (a % b)) none
def divF (a b : Int) : Option Int := cond (decide (0 < b) && decide (b.natAbs < 2 ^ 1000)) (some (a / b)) none
def powF (a b : Int) : Option Int := cond (decide (0 ≤ b) && decide (b ≤ 1000) && decide (a.natAbs < 2 ^ 1000)) (some (a ^ b.toNat)) none
def maxI (a b : Int) : Int := if b > a then b else a
def minI (a b : Int) : Int := if b < a then b else a
def b2I (b : Bool) : Int := if b then 1 else 0
/-! ### lists -/
def ix {α : Type} (l : List α) (i : Int) : Option α := atI l i
def lenI {α : Type} (l : List α) : Int := (l.length : Int)
def appF {α : Type} (l : List α) (x : α) : Option (List α) := cond (decide (l.length < LIM)) (some (l ++ [x])) none
def catF {α : Type} (l m : List α) : Option (List α) := cond (decide (l.length + m.length ≤ LIM)) (some (l ++ m)) none
def repF {α : Type} (l : List α) (k : Int) : Option (List α) := cond (decide (-(2 ^ 63) ≤ k) && decide (k < 2 ^ 63) && decide (l.length * k.toNat ≤ LIM)) (some (List.replicate k.toNat l).flatten) none
def setF {α : Type} (l : List α) (i : Int) (x : α) : Option (List α) := (ixN l.length i).bind fun j => some (l.set j x)
def popF {α : Type} (l : List α) : Option (α × List α) := (l[l.length - 1]?).bind fun x => some (x, l.dropLast)
def popAtF {α : Type} (l : List α) (i : Int) : Option (α × List α) := cond (decide (-(2 ^ 63) ≤ i) && decide (i < 2 ^ 63)) ((seqIndex? i l.length).bind fun k => (l[k]?).bind fun x => some (x, l.eraseIdx k)) none
def cutL {α : Type} (xs : List α) (lo hi : Option Int) : List α := (xs.drop (HT.sIx xs.length 0 lo)).take (HT.sIx xs.length xs.length hi - HT.sIx xs.length 0 lo)
theorem cutL_map {α : Type} (f : α → V) (xs : List α) (lo hi : Option Int) : cutV (xs.map f) lo hi = (cutL xs lo hi).map f := by
  unfold cutV cutL
  rw [List.length_map, List.map_take, List.map_drop]
/-- the numbers from a to below b -/
def rgI (a b : Int) : List Int := (List.range (b - a).toNat).map fun i : Nat => a + (i : Int)
def rngF (a b : Int) : Option (List Int) := cond (decide (-(2 ^ 62) ≤ a) && decide (a < 2 ^ 62) && decide (-(2 ^ 62) ≤ b) && decide (b < 2 ^ 62)) (some (rgI a b)) none
def enumI {α : Type} (l : List α) : List (Int × α) := List.zipWith (fun (i : Nat) x => ((i : Int), x)) (List.range l.length) l
/-! ### texts -/
def lenS (z : Str) : Option Int := cond (decide (z.length ≤ LIM)) (some (z.length : Int)) none
def ixS (z : Str) (i : Int) : Option Str := cond (decide (z.length ≤ LIM)) ((atI z.cps.toList i).bind fun c => some ⟨#[c]⟩) none
def catS (a b : Str) : Option Str := cond (decide (a.length + b.length ≤ LIM)) (some (a ++ b)) none
def ltS (a b : Str) : Bool := decide (a.cps.toList < b.cps.toList)
/-! ### data -/
@[reducible] def eI (i : Int) : PyData := .int i
@[reducible] def eS (s : Str) : PyData := .str s
@[reducible] def eB (b : Bool) : PyData := .bool b
@[reducible] def eN (_ : Unit) : PyData := .none
@[reducible] def eL {α : Type} (f : α → PyData) (l : List α) : PyData := .list (l.map f)
@[reducible] def eT2 {α β : Type} (f : α → PyData) (g : β → PyData) (p : α × β) : PyData := .tuple [f p.1, g p.2]
@[reducible] def eT3 {α β γ : Type} (f : α → PyData) (g : β → PyData) (h : γ → PyData) (p : α × β × γ) : PyData := .tuple [f p.1, g p.2.1, h p.2.2]
@[reducible] def eT1 {α : Type} (f : α → PyData) (p : α) : PyData := .tuple [f p]
def eO {α : Type} (f : α → PyData) : Option α → PyData
  | none => .none
  | some x => f x
@[reducible] def eA (d : PyData) : PyData := d
def vO {α : Type} (f : α → V) : Option α → V
  | none => .non
  | some x => f x
mutual
def flatD : PyData → Bool
  | .list _ => false
  | .dict _ => false
  | .tuple xs => flatDs xs
  | _ => true
def flatDs : List PyData → Bool
  | [] => true
  | x :: xs => flatD x && flatDs xs
end
def isNoneD : PyData → Bool
  | .none => true
  | _ => false
def eqvF (d e : PyData) : Option Bool := cond (SeqAt.shaped d && SeqAt.shaped e && !d.hasDict && !e.hasDict) (some (PyData.eqv d e)) none
def reprF (d : PyData) : Option Str := cond (d.showable && !d.hasDict && decide (d.depth ≤ 20) && decide (d.shown.length ≤ sizeLine)) (some d.shown) none
end LQ

/-! Readings by what is held. -/
namespace LQ
open PySem L2 LX
section
variable {H0 F0 H G : Hp} {v w : V} {d e : PyData} {a : Addr} {vs : List V} {ds : List PyData}
theorem fr_int {i : Int} (f : Fr F0 G v (.int i)) : v = .int i := by cases f; rfl
theorem fr_str {i : Str} (f : Fr F0 G v (.str i)) : v = .str i := by cases f; rfl
theorem fr_bl {i : Bool} (f : Fr F0 G v (.bool i)) : v = .bl i := by cases f; rfl
theorem fr_non (f : Fr F0 G v .none) : v = .non := by cases f; rfl
theorem fr_lst (f : Fr F0 G v (.list ds)) : ∃ a, v = .ref a := by cases f; exact ⟨_, rfl⟩
theorem fr_tup (f : Fr F0 G v (.tuple ds)) : ∃ a, v = .ref a := by cases f; exact ⟨_, rfl⟩
theorem fr_dic {kvs : List (PyData × PyData)} (f : Fr F0 G v (.dict kvs)) : ∃ a, v = .ref a := by cases f; exact ⟨_, rfl⟩
theorem fr_oI {o : Option Int} (f : Fr F0 G v (eO eI o)) : v = vO V.int o := by
  cases o with
  | none => exact fr_non f
  | some x => exact fr_int f
theorem fr_oS {o : Option Str} (f : Fr F0 G v (eO eS o)) : v = vO V.str o := by
  cases o with
  | none => exact fr_non f
  | some x => exact fr_str f
theorem fr_oB {o : Option Bool} (f : Fr F0 G v (eO eB o)) : v = vO V.bl o := by
  cases o with
  | none => exact fr_non f
  | some x => exact fr_bl f
theorem oI_fr (o : Option Int) : Fr F0 G (vO V.int o) (eO eI o) := by
  cases o with
  | none => exact .non
  | some x => exact .int x
theorem oS_fr (o : Option Str) : Fr F0 G (vO V.str o) (eO eS o) := by
  cases o with
  | none => exact .non
  | some x => exact .str x
theorem oB_fr (o : Option Bool) : Fr F0 G (vO V.bl o) (eO eB o) := by
  cases o with
  | none => exact .non
  | some x => exact .bl x
theorem li (f : Fr F0 G (.ref a) (.list ds)) : ∃ vs, G a = some (.lst vs) ∧ FrL F0 G vs ds := by
  cases f with
  | lst h _ hs => exact ⟨_, h, hs⟩
theorem li0 (f : Fr F0 G (.ref a) (.list ds)) : F0 a = none := by
  cases f with
  | lst _ n _ => exact n
theorem tu (f : Fr F0 G (.ref a) (.tuple ds)) : ∃ vs, G a = some (.tup vs) ∧ FrL F0 G vs ds := by
  cases f with
  | tup h hs => exact ⟨_, h, hs⟩
theorem tu1 {d : PyData} (f : Fr F0 G (.ref a) (.tuple [d])) : ∃ v, G a = some (.tup [v]) ∧ Fr F0 G v d := by
  obtain ⟨vs, h, hs⟩ := tu f
  cases hs with
  | cons f1 hs => cases hs; exact ⟨_, h, f1⟩
theorem tu2 {d e : PyData} (f : Fr F0 G (.ref a) (.tuple [d, e])) : ∃ v w, G a = some (.tup [v, w]) ∧ Fr F0 G v d ∧ Fr F0 G w e := by
  obtain ⟨vs, h, hs⟩ := tu f
  cases hs with
  | cons f1 hs => cases hs with
    | cons f2 hs => cases hs; exact ⟨_, _, h, f1, f2⟩
theorem tu3 {d e c : PyData} (f : Fr F0 G (.ref a) (.tuple [d, e, c])) : ∃ v w x, G a = some (.tup [v, w, x]) ∧ Fr F0 G v d ∧ Fr F0 G w e ∧ Fr F0 G x c := by
  obtain ⟨vs, h, hs⟩ := tu f
  cases hs with
  | cons f1 hs => cases hs with
    | cons f2 hs => cases hs with
      | cons f3 hs => cases hs; exact ⟨_, _, _, h, f1, f2, f3⟩
theorem fl1 (f : Fr F0 G v d) : FrL F0 G [v] [d] := .cons f .nil
theorem fl2 {v2 : V} {d2 : PyData} (f : Fr F0 G v d) (f2 : Fr F0 G v2 d2) : FrL F0 G [v, v2] [d, d2] := .cons f (.cons f2 .nil)
theorem fl3 {v2 v3 : V} {d2 d3 : PyData} (f : Fr F0 G v d) (f2 : Fr F0 G v2 d2) (f3 : Fr F0 G v3 d3) : FrL F0 G [v, v2, v3] [d, d2, d3] := .cons f (.cons f2 (.cons f3 .nil))
mutual
theorem Fr.imm : ∀ {v : V} {d : PyData}, Fr F0 G v d → flatD d = true → Fr H0 G v d
  | _, _, .non, _ => .non
  | _, _, .bl b, _ => .bl b
  | _, _, .int i, _ => .int i
  | _, _, .str x, _ => .str x
  | _, _, .lst _ _ _, e => by simp [flatD] at e
  | _, _, .tup h hs, e => .tup h (FrL.imm hs (by simpa only [flatD] using e))
  | _, _, .dic _ _ _, e => by simp [flatD] at e
theorem FrL.imm : ∀ {v : List V} {d : List PyData}, FrL F0 G v d → flatDs d = true → FrL H0 G v d
  | _, _, .nil, _ => .nil
  | _, _, .cons h hs, e => by
    simp only [flatDs, Bool.and_eq_true] at e
    exact .cons (Fr.imm h e.1) (FrL.imm hs e.2)
end
theorem flat_map {α : Type} {f : α → PyData} (h : ∀ x, flatD (f x) = true) : ∀ l : List α, flatDs (l.map f) = true
  | [] => by simp only [List.map_nil, flatDs]
  | x :: l => by simp only [List.map_cons, flatDs, h x, flat_map h l, Bool.and_self]
theorem flI (i : Int) : flatD (eI i) = true := by simp only [flatD]
theorem flS (i : Str) : flatD (eS i) = true := by simp only [flatD]
theorem flB (i : Bool) : flatD (eB i) = true := by simp only [flatD]
theorem flN (i : Unit) : flatD (eN i) = true := by simp only [flatD]
theorem flO {α : Type} {f : α → PyData} (h : ∀ x, flatD (f x) = true) (o : Option α) : flatD (eO f o) = true := by
  cases o with
  | none => simp only [eO, flatD]
  | some x => exact h x
theorem flT1 {α : Type} {f : α → PyData} (h : ∀ x, flatD (f x) = true) (p : α) : flatD (eT1 f p) = true := by simp only [eT1, flatD, flatDs, h, Bool.and_self]
theorem flT2 {α β : Type} {f : α → PyData} {g : β → PyData} (h : ∀ x, flatD (f x) = true) (k : ∀ x, flatD (g x) = true) (p : α × β) : flatD (eT2 f g p) = true := by simp only [eT2, flatD, flatDs, h, k, Bool.and_self]
theorem flT3 {α β γ : Type} {f : α → PyData} {g : β → PyData} {c : γ → PyData} (h : ∀ x, flatD (f x) = true) (k : ∀ x, flatD (g x) = true) (l : ∀ x, flatD (c x) = true) (p : α × β × γ) : flatD (eT3 f g c p) = true := by simp only [eT3, flatD, flatDs, h, k, l, Bool.and_self]
theorem frl_ints {l : List Int} (h : FrL F0 G vs (l.map eI)) : vs = l.map V.int := by
  induction l generalizing vs with
  | nil => cases h; rfl
  | cons x l ih => cases h with
    | cons f hs => rw [List.map_cons, ih hs, fr_int f]
theorem frl_strs {l : List Str} (h : FrL F0 G vs (l.map eS)) : vs = l.map V.str := by
  induction l generalizing vs with
  | nil => cases h; rfl
  | cons x l ih => cases h with
    | cons f hs => rw [List.map_cons, ih hs, fr_str f]
theorem frl_bls {l : List Bool} (h : FrL F0 G vs (l.map eB)) : vs = l.map V.bl := by
  induction l generalizing vs with
  | nil => cases h; rfl
  | cons x l ih => cases h with
    | cons f hs => rw [List.map_cons, ih hs, fr_bl f]
theorem ints_frl (l : List Int) : FrL F0 G (l.map V.int) (l.map eI) := by
  induction l with
  | nil => exact .nil
  | cons x l ih => exact .cons (.int x) ih
theorem strs_frl (l : List Str) : FrL F0 G (l.map V.str) (l.map eS) := by
  induction l with
  | nil => exact .nil
  | cons x l ih => exact .cons (.str x) ih
theorem bls_frl (l : List Bool) : FrL F0 G (l.map V.bl) (l.map eB) := by
  induction l with
  | nil => exact .nil
  | cons x l ih => exact .cons (.bl x) ih
end
section
variable {ms ns : List Addr} {H0 F0 G H H' G1 : Hp} {cs : List (Addr × HO)} {p a b : Addr} {o o' : HO} {v x y : V} {d : PyData} {vs us xs : List V} {ds : List PyData} {K : PySem.W.Frag} {Q : VK} {α β : Type} {e : α → PyData} {l m : List α}
theorem Sep.toRet (S : Sep ms H0 G H cs) : Ret ms H0 G H := ⟨S.sub, fun p hp => by
  obtain ⟨c, hc, rfl⟩ := List.mem_map.mp (S.msc p hp)
  exact (S.cel c hc).2.1, S.base, S.old, S.tups⟩
theorem Sep.ret {cs' : List (Addr × HO)} (S : Sep ms H0 G H cs) (R : Ret ns H G1 H') (hn : ∀ p ∈ ns, p ∈ cs.map (·.1)) (hm : cs'.map (·.1) = cs.map (·.1)) (hc : ∀ c ∈ cs', H' c.1 = some c.2 ∧ ∀ xs, c.2 ≠ .tup xs) :
    ∃ G', Sep ms H0 G' H' cs' ∧ Same G G' ∧ (∀ v d, Fr H G1 v d → Fr H0 G' v d) ∧ ∀ v d, FrL H G1 v d → FrL H0 G' v d := by
  have sG : Same G (hid G1 (cs.map (·.1))) := fun b o e => by
    have n : b ∉ cs.map (·.1) := fun z => by
      obtain ⟨c, hc, rfl⟩ := List.mem_map.mp z
      rw [(S.cel c hc).2.1] at e
      cases e
    rw [hid_out n]
    exact R.base b o (S.sub b o e) fun z => n (hn b z)
  have k1 : ∀ a xs, G1 a = some (.lst xs) → H a = none → hid G1 (cs.map (·.1)) a = some (.lst xs) ∧ H0 a = none := fun a xs e n => ⟨by rw [hid_out (S.cne n)]; exact e, S.old a n⟩
  have k2 : ∀ a xs, G1 a = some (.tup xs) → hid G1 (cs.map (·.1)) a = some (.tup xs) := fun a xs e => by
    rw [hid_out ?_]
    · exact e
    · intro z
      rw [← hm] at z
      obtain ⟨c, hc', rfl⟩ := List.mem_map.mp z
      have := (hc c hc').1
      rw [R.sub _ _ e] at this
      exact (hc c hc').2 xs (Option.some.inj this).symm
  have k3 : ∀ a xs, Rd G1 a (.dK xs) → H a = none → Rd (hid G1 (cs.map (·.1))) a (.dK xs) ∧ H0 a = none := fun a xs e n => ⟨by unfold Rd; rw [hid_out (S.cne n)]; exact e, S.old a n⟩
  refine ⟨hid G1 (cs.map (·.1)), ⟨fun b o e => R.sub b o (hid_some e).2, fun c hc' => ⟨(hc c hc').1, hid_in (by rw [← hm]; exact List.mem_map_of_mem hc'), (hc c hc').2⟩, by rw [hm]; exact S.nd, by rw [hm]; exact S.msc, S.hms, fun b e => S.old b (R.old b e), fun b o e n => sG b o (S.base b o e n), fun b xs e => k2 b xs (R.tups b xs e)⟩, sG, fun v d f => f.move k1 k2 k3, fun v d f => f.move k1 k2 k3⟩
theorem Sep.ret0 (S : Sep ms H0 G H cs) (R : Ret [] H G1 H') : ∃ G', Sep ms H0 G' H' cs ∧ Same G G' ∧ (∀ v d, Fr H G1 v d → Fr H0 G' v d) ∧ ∀ v d, FrL H G1 v d → FrL H0 G' v d :=
  S.ret R (fun _ h => absurd h List.not_mem_nil) rfl fun c hc => ⟨R.sub _ _ (R.base _ _ (S.cel c hc).1 List.not_mem_nil), (S.cel c hc).2.2⟩
theorem map_fst_set {cs : List (Addr × HO)} {i : Nat} (h : cs[i]? = some (p, o)) : (cs.set i (p, o')).map (·.1) = cs.map (·.1) := by
  rw [List.map_set]
  apply List.ext_getElem?
  intro j
  by_cases c : i = j
  · subst c
    rw [List.getElem?_set_self (by rw [List.length_map]; exact (List.getElem?_eq_some_iff.mp h).1), List.getElem?_map, h]
    rfl
  · rw [List.getElem?_set_ne c]
theorem Sep.ret1 (S : Sep ms H0 G H cs) (i : Nat) (h : cs[i]? = some (p, o)) (R : Ret [p] H G1 H') (hp : H' p = some o') (k : ∀ xs, o' ≠ .tup xs) :
    ∃ G', Sep ms H0 G' H' (cs.set i (p, o')) ∧ Same G G' ∧ (∀ v d, Fr H G1 v d → Fr H0 G' v d) ∧ ∀ v d, FrL H G1 v d → FrL H0 G' v d := by
  refine S.ret R (fun q hq => ?_) (map_fst_set h) fun c hc => ?_
  · rw [List.mem_singleton.mp hq]
    exact List.mem_map.mpr ⟨_, List.mem_of_getElem? h, rfl⟩
  · by_cases z : c.1 = p
    · obtain ⟨j, hj⟩ := List.getElem?_of_mem hc
      have il := (List.getElem?_eq_some_iff.mp h).1
      have e : i = j := by
        have h1 : ((cs.set i (p, o')).map (·.1))[j]? = some p := by rw [List.getElem?_map, hj, ← z]; rfl
        rw [map_fst_set h] at h1
        exact nodup_ix S.nd (by rw [List.getElem?_map, h]; rfl) h1
      subst e
      rw [List.getElem?_set_self il] at hj
      cases hj
      exact ⟨hp, k⟩
    · have hc2 : c ∈ cs := by
        rcases List.mem_or_eq_of_mem_set hc with q | q
        · exact q
        · exact absurd (by rw [q]) z
      exact ⟨R.sub _ _ (R.base _ _ (S.cel c hc2).1 fun q => z (List.mem_singleton.mp q)), (S.cel c hc2).2.2⟩
/-- an owned list, read -/
theorem Sep.rd (S : Sep ms H0 G H cs) (i : Nat) (h : cs[i]? = some (p, .lst vs)) (f : FrL F0 G vs ds) : Fr E0h H (.ref p) (.list ds) := .lst (S.get i h) rfl ((f.rp).same S.sub)
theorem Sep.hidS (S : Sep ms H0 G H cs) (h : ∀ p ∈ ns, G p = none) : Same G (hid H ns) := fun b o e => by
  rw [hid_out]
  · exact S.sub b o e
  · intro z
    rw [h b z] at e
    cases e
theorem lst_tup {vs : List V} : ∀ xs, HO.lst vs ≠ .tup xs := fun _ z => by cases z
theorem dk_tup {vs : List (Key × V)} : ∀ xs, HO.dK vs ≠ .tup xs := fun _ z => by cases z
theorem Sep.ne (S : Sep ms H0 G H cs) {i j : Nat} (hi : cs[i]? = some (p, o)) (hj : cs[j]? = some (b, o')) (n : i ≠ j) : p ≠ b := fun z => by
  subst z
  exact n (nodup_ix S.nd (show (cs.map (·.1))[i]? = some p by rw [List.getElem?_map, hi]; rfl) (by rw [List.getElem?_map, hj]; rfl))
/-! ### new objects -/
def zTup (xs : List V) (H : Hp) (Q : VK) : Prop := xs.length ≤ sizeLine ∧ ∀ p, H p = none → Q (.ref p) (upd H p (.tup xs))
def zLst (xs : List V) (H : Hp) (Q : VK) : Prop := xs.length ≤ sizeLine ∧ ∀ p, H p = none → Q (.ref p) (upd H p (.lst xs))
def zNew (xs : List V) (H : Hp) (Q : VK) : Prop := ∀ p, H p = none → Q (.ref p) (upd H p (.lst xs))
theorem rd_tupZ {tr : TA} {σ : L2.St} (q : tr σ H fun xs H1 => zTup xs H1 Q) : tTup tr σ H Q := q
theorem rd_lstZ {tr : TA} {σ : L2.St} (q : tr σ H fun xs H1 => zLst xs H1 Q) : tLst tr σ H Q := q
theorem q_tup (S : Sep ms H0 G H cs) (z : xs.length ≤ LIM) (f : FrL F0 G xs ds) (q : ∀ p G' H', Sep ms H0 G' H' cs → Same G G' → Fr F0 G' (.ref p) (.tuple ds) → Q (.ref p) H') : zTup xs H Q :=
  ⟨lim_le z, fun p hp => q p _ _ (S.sh hp) (sNew (S.gfree hp)) (.tup upd_same (f.same (sNew (S.gfree hp))))⟩
theorem q_lst (S : Sep ms H0 G H cs) (z : xs.length ≤ LIM) (f : FrL F0 G xs ds) (hF : ∀ b, H b = none → F0 b = none) (q : ∀ p G' H', Sep ms H0 G' H' cs → Same G G' → Fr F0 G' (.ref p) (.list ds) → Q (.ref p) H') : zLst xs H Q :=
  ⟨lim_le z, fun p hp => q p _ _ (S.sh hp) (sNew (S.gfree hp)) (.lst upd_same (hF p hp) (f.same (sNew (S.gfree hp))))⟩
theorem q_lstO (S : Sep ms H0 G H cs) (z : xs.length ≤ LIM) (q : ∀ p H', Sep ms H0 G H' ((p, .lst xs) :: cs) → H0 p = none → Q (.ref p) H') : zLst xs H Q :=
  ⟨lim_le z, fun p hp => q p _ (S.own hp lst_tup) (S.old p hp)⟩
/-- what a rule leaves that makes a new list of what is held -/
theorem q_new (S : Sep ms H0 G H cs) (f : FrL F0 G xs ds) (hF : ∀ b, H b = none → F0 b = none) (q : ∀ p G' H', Sep ms H0 G' H' cs → Same G G' → Fr F0 G' (.ref p) (.list ds) → Q (.ref p) H') : zNew xs H Q :=
  fun p hp => q p _ _ (S.sh hp) (sNew (S.gfree hp)) (.lst upd_same (hF p hp) (f.same (sNew (S.gfree hp))))
theorem q_newO (S : Sep ms H0 G H cs) (q : ∀ p H', Sep ms H0 G H' ((p, .lst xs) :: cs) → H0 p = none → Q (.ref p) H') : zNew xs H Q :=
  fun p hp => q p _ (S.own hp lst_tup) (S.old p hp)
/-- an owned list becomes one that is only read -/
theorem Sep.fixL (S : Sep ms H0 G H cs) (i : Nat) (h : cs[i]? = some (p, .lst vs)) (hm : p ∉ ms) (f : FrL H0 G vs ds) (n : H0 p = none) : ∃ G', Sep ms H0 G' H (cs.eraseIdx i) ∧ Same G G' ∧ Fr H0 G' (.ref p) (.list ds) :=
  ⟨_, S.fix i h hm, sNew (S.gnone i h), .lst upd_same n (f.same (sNew (S.gnone i h)))⟩
/-! ### lists -/
theorem ix_get {l : List α} {i : Int} {x : α} (h : ix l i = some x) (f : FrL F0 G vs (l.map e)) : ∃ v, atI vs i = some v ∧ Fr F0 G v (e x) := by
  unfold ix atI at h
  obtain ⟨j, h1, h2⟩ := Option.bind_eq_some_iff.mp h
  obtain ⟨v, h3, h4⟩ := f.get (i := j) (d := e x) (by rw [List.getElem?_map, h2]; rfl)
  refine ⟨v, ?_, h4⟩
  unfold atI
  rw [f.len, List.length_map, h1]
  exact h3
theorem q_ixL {i : Int} {x : α} (ha : H a = some (.lst vs)) (f : FrL F0 G vs (l.map e)) (h : ix l i = some x) (q : ∀ v, Fr F0 G v (e x) → Q v H) : rIxL K (.ref a) (.int i) H Q := by
  obtain ⟨v, h1, h2⟩ := ix_get h f
  exact rd_ixL ha h1 (q v h2)
theorem frl_cut {lo hi : Option Int} (f : FrL F0 G vs (l.map e)) : FrL F0 G (cutV vs lo hi) ((cutL l lo hi).map e) := by
  unfold cutV cutL
  rw [f.len, List.length_map, List.map_take, List.map_drop]
  exact (f.drop _).take _
theorem q_slL {lo hi : Option Int} (S : Sep ms H0 G H cs) (ha : H a = some (.lst vs)) (f : FrL F0 G vs (l.map e)) (hF : ∀ b, H b = none → F0 b = none) (q : ∀ p G' H', Sep ms H0 G' H' cs → Same G G' → Fr F0 G' (.ref p) (eL e (cutL l lo hi)) → Q (.ref p) H') : rSlL K (.ref a) lo hi H Q :=
  rd_slL ha (q_new S (frl_cut f) hF q)
theorem q_slLO {lo hi : Option Int} (S : Sep ms H0 G H cs) (ha : H a = some (.lst vs)) (f : FrL F0 G vs (l.map e)) (q : ∀ p us H', Sep ms H0 G H' ((p, .lst us) :: cs) → H0 p = none → FrL F0 G us ((cutL l lo hi).map e) → Q (.ref p) H') : rSlL K (.ref a) lo hi H Q :=
  rd_slL ha (q_newO S fun p H' S' n => q p _ H' S' n (frl_cut f))
theorem q_len (ha : H a = some (.lst vs)) (f : FrL F0 G vs (l.map e)) (q : Q (.int (lenI l)) H) : qLen K [.ref a] H Q := by
  refine rd_len ha ?_
  rw [f.len, List.length_map]
  exact q
theorem q_list (S : Sep ms H0 G H cs) (ha : H a = some (.lst vs)) (f : FrL F0 G vs ds) (hF : ∀ b, H b = none → F0 b = none) (q : ∀ p G' H', Sep ms H0 G' H' cs → Same G G' → Fr F0 G' (.ref p) (.list ds) → Q (.ref p) H') : qList K [.ref a] H Q :=
  rd_listOf ha (q_new S f hF q)
theorem q_listO (S : Sep ms H0 G H cs) (ha : H a = some (.lst vs)) (q : ∀ p H', Sep ms H0 G H' ((p, .lst vs) :: cs) → H0 p = none → Q (.ref p) H') : qList K [.ref a] H Q :=
  rd_listOf ha (q_newO S q)
theorem cat_ok {l m r : List α} (h : catF l m = some r) : l.length + m.length ≤ LIM ∧ r = l ++ m := by
  unfold catF at h
  obtain ⟨h1, h2⟩ := grd h
  exact ⟨of_decide_eq_true h1, (som h2).symm⟩
theorem q_cat {r : List α} (S : Sep ms H0 G H cs) (ha : H a = some (.lst vs)) (f : FrL F0 G vs (l.map e)) (hb : H b = some (.lst us)) (f2 : FrL F0 G us (m.map e)) (h : catF l m = some r) (hF : ∀ b, H b = none → F0 b = none)
    (q : ∀ p G' H', Sep ms H0 G' H' cs → Same G G' → Fr F0 G' (.ref p) (eL e r) → Q (.ref p) H') : rCat (.ref a) (.ref b) H Q := by
  obtain ⟨h1, rfl⟩ := cat_ok h
  refine rd_cat ha hb (lim_le (by rw [f.len, f2.len, List.length_map, List.length_map]; exact h1)) (q_new S ?_ hF q)
  rw [List.map_append]
  exact f.app f2
theorem q_catO {r : List α} (S : Sep ms H0 G H cs) (ha : H a = some (.lst vs)) (f : FrL F0 G vs (l.map e)) (hb : H b = some (.lst us)) (f2 : FrL F0 G us (m.map e)) (h : catF l m = some r)
    (q : ∀ p ws H', Sep ms H0 G H' ((p, .lst ws) :: cs) → H0 p = none → FrL F0 G ws (r.map e) → Q (.ref p) H') : rCat (.ref a) (.ref b) H Q := by
  obtain ⟨h1, rfl⟩ := cat_ok h
  refine rd_cat ha hb (lim_le (by rw [f.len, f2.len, List.length_map, List.length_map]; exact h1)) (q_newO S fun p H' S' n => q p _ H' S' n ?_)
  rw [List.map_append]
  exact f.app f2
theorem frl_rep {k : Nat} (f : FrL F0 G vs (l.map e)) : FrL F0 G (List.replicate k vs).flatten ((List.replicate k l).flatten.map e) := by
  induction k with
  | zero => exact .nil
  | succ k ih =>
    rw [List.replicate_succ, List.replicate_succ, List.flatten_cons, List.flatten_cons, List.map_append]
    exact f.app ih
theorem q_repN {r : List α} {k : Int} (S : Sep ms H0 G H cs) (ha : H a = some (.lst vs)) (f : FrL F0 G vs (l.map e)) (h : repF l k = some r) (q : ∀ p, H p = none → FrL F0 G (List.replicate k.toNat vs).flatten (r.map e) → Q (.ref p) (upd H p (.lst (List.replicate k.toNat vs).flatten))) : rRep (.ref a) (.int k) H Q := by
  unfold repF at h
  obtain ⟨h1, h2⟩ := grd h
  rw [Bool.and_eq_true, Bool.and_eq_true, decide_eq_true_iff, decide_eq_true_iff, decide_eq_true_iff] at h1
  obtain ⟨⟨h3, h4⟩, h5⟩ := h1
  refine ⟨a, k, vs, rfl, rfl, ha, h3, h4, lim_le (by rw [f.len, List.length_map]; exact h5), fun p hp => q p hp ?_⟩
  rw [← som h2]
  exact frl_rep f
theorem q_rep {r : List α} {k : Int} (S : Sep ms H0 G H cs) (ha : H a = some (.lst vs)) (f : FrL F0 G vs (l.map e)) (h : repF l k = some r) (hF : ∀ b, H b = none → F0 b = none)
    (q : ∀ p G' H', Sep ms H0 G' H' cs → Same G G' → Fr F0 G' (.ref p) (eL e r) → Q (.ref p) H') : rRep (.ref a) (.int k) H Q :=
  q_repN S ha f h fun p hp f2 => q_new S f2 hF q p hp
theorem q_repO {r : List α} {k : Int} (S : Sep ms H0 G H cs) (ha : H a = some (.lst vs)) (f : FrL F0 G vs (l.map e)) (h : repF l k = some r)
    (q : ∀ p ws H', Sep ms H0 G H' ((p, .lst ws) :: cs) → H0 p = none → FrL F0 G ws (r.map e) → Q (.ref p) H') : rRep (.ref a) (.int k) H Q :=
  q_repN S ha f h fun p hp f2 => q_newO S (fun p H' S' n => q p _ H' S' n f2) p hp
/-! ### changes of owned lists -/
theorem q_app {r : List α} {x : α} (S : Sep ms H0 G H cs) (i : Nat) (hi : cs[i]? = some (a, .lst vs)) (f : FrL F0 G vs (l.map e)) (fy : Fr F0 G y (e x)) (h : appF l x = some r)
    (q : ∀ us H', Sep ms H0 G H' (cs.set i (a, .lst us)) → FrL F0 G us (r.map e) → Q .non H') : rAppend (.ref a) [y] H Q := by
  unfold appF at h
  obtain ⟨h1, h2⟩ := grd h
  refine ⟨a, vs, y, rfl, rfl, S.get i hi, lim_lt (by rw [f.len, List.length_map]; exact of_decide_eq_true h1), q _ _ (S.put i hi lst_tup) ?_⟩
  rw [← som h2, List.map_append]
  exact f.app (.cons fy .nil)
theorem q_pop {r : List α} {x : α} (S : Sep ms H0 G H cs) (i : Nat) (hi : cs[i]? = some (a, .lst vs)) (f : FrL F0 G vs (l.map e)) (h : popF l = some (x, r))
    (q : ∀ y us H', Sep ms H0 G H' (cs.set i (a, .lst us)) → FrL F0 G us (r.map e) → Fr F0 G y (e x) → Q y H') : rPop (.ref a) [] H Q := by
  unfold popF at h
  obtain ⟨z, h1, h2⟩ := bnd h
  cases h2
  obtain ⟨w, h3, h4⟩ := f.get (i := l.length - 1) (d := e x) (by rw [List.getElem?_map, h1]; rfl)
  refine ⟨a, vs, w, rfl, rfl, S.get i hi, by rw [f.len, List.length_map]; exact h3, q w _ _ (S.put i hi lst_tup) ?_ h4⟩
  rw [List.dropLast_eq_take, List.dropLast_eq_take, f.len, List.length_map, List.map_take]
  exact f.take _
theorem q_popAt {r : List α} {x : α} {j : Int} (S : Sep ms H0 G H cs) (i : Nat) (hi : cs[i]? = some (a, .lst vs)) (f : FrL F0 G vs (l.map e)) (h : popAtF l j = some (x, r))
    (q : ∀ y us H', Sep ms H0 G H' (cs.set i (a, .lst us)) → FrL F0 G us (r.map e) → Fr F0 G y (e x) → Q y H') : rPopAt (.ref a) [.int j] H Q := by
  unfold popAtF at h
  obtain ⟨h0, h⟩ := grd h
  rw [Bool.and_eq_true, decide_eq_true_iff, decide_eq_true_iff] at h0
  obtain ⟨k, h1, h⟩ := bnd h
  obtain ⟨z, h2, h3⟩ := bnd h
  cases h3
  obtain ⟨w, h4, h5⟩ := f.get (i := k) (d := e x) (by rw [List.getElem?_map, h2]; rfl)
  refine ⟨a, vs, j, k, w, rfl, rfl, S.get i hi, h0.1, h0.2, by rw [f.len, List.length_map]; exact h1, h4, q w _ _ (S.put i hi lst_tup) ?_ h5⟩
  rw [← erase_map]
  exact f.erase _
theorem q_setL {r : List α} {x : α} {j : Int} {R : Hp → Prop} (S : Sep ms H0 G H cs) (i : Nat) (hi : cs[i]? = some (a, .lst vs)) (f : FrL F0 G vs (l.map e)) (fy : Fr F0 G y (e x)) (h : setF l j x = some r)
    (q : ∀ us H', Sep ms H0 G H' (cs.set i (a, .lst us)) → FrL F0 G us (r.map e) → R H') : rSetL (.ref a) (.int j) y H R := by
  unfold setF at h
  obtain ⟨k, h1, h2⟩ := bnd h
  cases h2
  refine rd_setL (S.get i hi) (j := k) (by rw [f.len, List.length_map]; exact h1) (q _ _ (S.put i hi lst_tup) ?_)
  rw [List.map_set]
  exact f.set _ fy
theorem q_rev (S : Sep ms H0 G H cs) (i : Nat) (hi : cs[i]? = some (a, .lst vs)) (f : FrL F0 G vs (l.map e))
    (q : ∀ us H', Sep ms H0 G H' (cs.set i (a, .lst us)) → FrL F0 G us (l.reverse.map e) → Q .non H') : rReverse (.ref a) [] H Q := by
  refine ⟨a, vs, rfl, rfl, S.get i hi, q _ _ (S.put i hi lst_tup) ?_⟩
  rw [List.map_reverse]
  exact f.rev
theorem q_clear (S : Sep ms H0 G H cs) (i : Nat) (hi : cs[i]? = some (a, .lst vs))
    (q : ∀ H', Sep ms H0 G H' (cs.set i (a, .lst [])) → Q .non H') : rClear (.ref a) [] H Q :=
  ⟨a, vs, rfl, rfl, S.get i hi, q _ (S.put i hi lst_tup)⟩
theorem q_ext {r : List α} (S : Sep ms H0 G H cs) (i : Nat) (hi : cs[i]? = some (a, .lst vs)) (f : FrL F0 G vs (l.map e)) (hb : H b = some (.lst us)) (f2 : FrL F0 G us (m.map e)) (h : catF l m = some r)
    (q : ∀ ws H', Sep ms H0 G H' (cs.set i (a, .lst ws)) → FrL F0 G ws (r.map e) → Q .non H') : rExtend (.ref a) [.ref b] H Q := by
  obtain ⟨h1, rfl⟩ := cat_ok h
  refine ⟨a, b, vs, us, rfl, rfl, S.get i hi, hb, lim_le (by rw [f.len, f2.len, List.length_map, List.length_map]; exact h1), q _ _ (S.put i hi lst_tup) ?_⟩
  rw [List.map_append]
  exact f.app f2
/-! ### numbers -/
theorem q_mulW {i j k : Int} (h : mulF i j = some k) (q : Q (.int k) H) : rI CMulW (fun i j => .int (i * j)) (.int i) (.int j) H Q := by
  unfold mulF at h
  obtain ⟨h1, h2⟩ := grd h
  rw [Bool.and_eq_true, decide_eq_true_iff, decide_eq_true_iff] at h1
  cases som h2
  exact ⟨i, j, rfl, rfl, wide_mul h1.1 h1.2 (by decide) (by decide) (by decide), q⟩
theorem q_mod {i j k : Int} (h : modF i j = some k) (q : Q (.int k) H) : rI (fun _ j => 0 < j) (fun i j => .int (i % j)) (.int i) (.int j) H Q := by
  unfold modF at h
  obtain ⟨h1, h2⟩ := grd h
  cases som h2
  exact ⟨i, j, rfl, rfl, of_decide_eq_true h1, q⟩
theorem q_div {i j k : Int} (h : divF i j = some k) (q : Q (.int k) H) : rI CDivW (fun i j => .int (i / j)) (.int i) (.int j) H Q := by
  unfold divF at h
  obtain ⟨h1, h2⟩ := grd h
  rw [Bool.and_eq_true, decide_eq_true_iff, decide_eq_true_iff] at h1
  cases som h2
  exact ⟨i, j, rfl, rfl, wide_div h1.1 h1.2 (by decide) (by decide), q⟩
theorem q_pow {i j k : Int} (h : powF i j = some k) (q : Q (.int k) H) : rI CPowW (fun i j => .int (i ^ j.toNat)) (.int i) (.int j) H Q := by
  unfold powF at h
  obtain ⟨h1, h2⟩ := grd h
  rw [Bool.and_eq_true, Bool.and_eq_true, decide_eq_true_iff, decide_eq_true_iff, decide_eq_true_iff] at h1
  cases som h2
  exact ⟨i, j, rfl, rfl, ⟨h1.1.1, h1.1.2, h1.2⟩, q⟩
theorem q_eqI {i j : Int} (q : Q (.bl (decide (i = j))) H) : rEq (.int i) (.int j) H Q := by
  refine ⟨rfl, ?_⟩
  rw [dec_int]
  exact q
end
end LQ

/-! Loops and comprehensions by what they compute. -/
namespace LQ
open PySem L2 LX
section
variable {ms : List Addr} {H0 F0 G H H1 H' : Hp} {cs : List (Addr × HO)} {D : Ends} {σ : L2.St} {g : TG} {tb : TS} {J : It} {Gd : Hp → Prop} {Y : Nat → Hp → V → Hp → Prop} {α β S R : Type} {K : PySem.W.Frag}
/-- the reading of a for over J -/
abbrev ForG (J : It) (g : TG) (tb : TS) (D : Ends) (σ : L2.St) (H : Hp) : Prop := ∃ W : Nat → Nat → L2.St → Hp → Prop, (∃ m, W 0 m σ H) ∧ ∀ i m σ H, W i m σ H →
  (J.stop i H ∧ D.nx σ H) ∨ (J.go i H ∧ ∃ N : L2.St → Hp → Prop, (∀ σ' H', N σ' H' → ∃ m', m' < m ∧ W (i + 1) m' σ' H') ∧ ∀ x H', J.yld i H x H' → g x σ H' fun σ2 H2 => tb { D with nx := N, ct := N, bk := D.nx } σ2 H2)
theorem loopF_drop {step : α → S → Option S} {xs : List α} {i : Nat} {a : α} {s r : S} (hi : xs[i]? = some a) (h : loopF step (xs.drop i) s = some r) : ∃ s', step a s = some s' ∧ loopF step (xs.drop (i + 1)) s' = some r := by
  rw [drop_of hi] at h
  exact bnd h
theorem loopC_drop {step : α → S → Option (Ctl R S)} {xs : List α} {i : Nat} {a : α} {s : S} {r : Ctl R S} (hi : xs[i]? = some a) (h : loopC step (xs.drop i) s = some r) :
    ∃ c, step a s = some c ∧ (∀ q, c = .ret q → r = .ret q) ∧ (∀ s', c = .nx s' → loopC step (xs.drop (i + 1)) s' = some r) ∧ (∀ s', c = .bk s' → r = .nx s') := by
  rw [drop_of hi] at h
  obtain ⟨c, h1, h2⟩ := bnd h
  refine ⟨c, h1, fun q e => ?_, fun s' e => ?_, fun s' e => ?_⟩
  · subst e
    exact (som h2).symm
  · subst e
    exact h2
  · subst e
    exact (som h2).symm
/-- a for whose body neither gives back nor breaks off -/
theorem q_forF {step : α → S → Option S} {xs : List α} {s0 r : S} (hf : loopF step xs s0 = some r) (w : Walk J xs.length Gd Y) (Pv : S → L2.St → Hp → Prop) (h0 : Pv s0 σ H) (hG : ∀ s σ H, Pv s σ H → Gd H)
    (hs : ∀ i a s s' x σ H H', xs[i]? = some a → step a s = some s' → Pv s σ H → Y i H x H' → g x σ H' fun σ2 H2 => tb { D with nx := Pv s', ct := Pv s', bk := D.nx } σ2 H2) (hd : ∀ σ H, Pv r σ H → D.nx σ H) : ForG J g tb D σ H := by
  refine ⟨fun i m σ H => m = xs.length - i ∧ i ≤ xs.length ∧ ∃ s, loopF step (xs.drop i) s = some r ∧ Pv s σ H, ⟨_, rfl, Nat.zero_le _, s0, hf, h0⟩, ?_⟩
  rintro i m σ H ⟨rfl, hi, s, hl, p⟩
  have q := hG s σ H p
  by_cases hlt : i < xs.length
  · obtain ⟨s', h1, h2⟩ := loopF_drop (List.getElem?_eq_getElem hlt) hl
    refine .inr ⟨w.goes i H hlt q, Pv s', fun σ' H' p' => ⟨xs.length - (i + 1), by omega, rfl, hlt, s', h2, p'⟩, fun x H' y => hs i _ s s' x σ H H' (List.getElem?_eq_getElem hlt) h1 p (w.yields i H x H' hlt q y)⟩
  · have e : i = xs.length := by omega
    subst e
    rw [List.drop_length] at hl
    cases hl
    exact .inl ⟨w.stops H q, hd σ H p⟩
/-- a for whose body may give back or break off -/
theorem q_forC {step : α → S → Option (Ctl R S)} {xs : List α} {s0 : S} {out : Ctl R S} (hf : loopC step xs s0 = some out) (w : Walk J xs.length Gd Y) (Pv : S → L2.St → Hp → Prop) (h0 : Pv s0 σ H) (hG : ∀ s σ H, Pv s σ H → Gd H)
    (hs : ∀ i a s c x σ H H', xs[i]? = some a → step a s = some c → Pv s σ H → Y i H x H' → (∀ q, c = .ret q → out = .ret q) → (∀ s' σ H, c = .bk s' → Pv s' σ H → D.nx σ H) →
      g x σ H' fun σ2 H2 => tb { D with nx := fun σ H => ∃ s', c = .nx s' ∧ Pv s' σ H, ct := fun σ H => ∃ s', c = .nx s' ∧ Pv s' σ H, bk := D.nx } σ2 H2)
    (hd : ∀ s σ H, out = .nx s → Pv s σ H → D.nx σ H) : ForG J g tb D σ H := by
  refine ⟨fun i m σ H => m = xs.length - i ∧ i ≤ xs.length ∧ ∃ s, loopC step (xs.drop i) s = some out ∧ Pv s σ H, ⟨_, rfl, Nat.zero_le _, s0, hf, h0⟩, ?_⟩
  rintro i m σ H ⟨rfl, hi, s, hl, p⟩
  have q := hG s σ H p
  by_cases hlt : i < xs.length
  · obtain ⟨c, h1, h2, h3, h4⟩ := loopC_drop (List.getElem?_eq_getElem hlt) hl
    refine .inr ⟨w.goes i H hlt q, fun σ H => ∃ s', c = .nx s' ∧ Pv s' σ H, fun σ' H' ⟨s', e, p'⟩ => ⟨xs.length - (i + 1), by omega, rfl, hlt, s', h3 s' e, p'⟩, fun x H' y => ?_⟩
    exact hs i _ s c x σ H H' (List.getElem?_eq_getElem hlt) h1 p (w.yields i H x H' hlt q y) h2 fun s' σ H e p' => hd s' σ H (h4 s' e) p'
  · have e : i = xs.length := by omega
    subst e
    rw [List.drop_length] at hl
    cases hl
    exact .inl ⟨w.stops H q, hd s σ H rfl p⟩
/-- while, neither giving back nor breaking off -/
theorem q_whileF {c : S → Option Bool} {b : S → Option S} {n : Nat} {s0 r : S} {tc : TT} (hf : whileF c b n s0 = some r) (Pv : S → L2.St → Hp → Prop) (h0 : Pv s0 σ H)
    (hc : ∀ s t σ H, c s = some t → Pv s σ H → ∀ Q : Bool → Hp → Prop, (∀ H', Pv s σ H' → Q t H') → tc σ H Q)
    (hs : ∀ s s' σ H, b s = some s' → c s = some true → Pv s σ H → tb { D with nx := Pv s', ct := Pv s', bk := D.nx } σ H) (hd : ∀ σ H, Pv r σ H → D.nx σ H) : tWhile tc tb D σ H := by
  refine ⟨fun m σ H => ∃ s, whileF c b m s = some r ∧ Pv s σ H, ⟨n, s0, hf, h0⟩, ?_⟩
  rintro m σ H ⟨s, hl, p⟩
  cases m with
  | zero => cases hl
  | succ m =>
    obtain ⟨t, h1, h2⟩ := bnd hl
    refine hc s t σ H h1 p _ fun H' p' => ?_
    rcases cnd h2 with ⟨rfl, h3⟩ | ⟨rfl, h3⟩
    · obtain ⟨s', h4, h5⟩ := bnd h3
      exact iteT ⟨Pv s', fun σ' H' p2 => ⟨m, Nat.lt_succ_self m, s', h5, p2⟩, hs s s' σ H' h4 h1 p'⟩
    · cases h3
      exact iteF (hd σ H' p')
theorem q_whileC {c : S → Option Bool} {b : S → Option (Ctl R S)} {n : Nat} {s0 : S} {out : Ctl R S} {tc : TT} (hf : whileC c b n s0 = some out) (Pv : S → L2.St → Hp → Prop) (h0 : Pv s0 σ H)
    (hc : ∀ s t σ H, c s = some t → Pv s σ H → ∀ Q : Bool → Hp → Prop, (∀ H', Pv s σ H' → Q t H') → tc σ H Q)
    (hs : ∀ s k σ H, b s = some k → c s = some true → Pv s σ H → (∀ q, k = .ret q → out = .ret q) → (∀ s' σ H, k = .bk s' → Pv s' σ H → D.nx σ H) →
      tb { D with nx := fun σ H => ∃ s', k = .nx s' ∧ Pv s' σ H, ct := fun σ H => ∃ s', k = .nx s' ∧ Pv s' σ H, bk := D.nx } σ H) (hd : ∀ s σ H, out = .nx s → Pv s σ H → D.nx σ H) : tWhile tc tb D σ H := by
  refine ⟨fun m σ H => ∃ s, whileC c b m s = some out ∧ Pv s σ H, ⟨n, s0, hf, h0⟩, ?_⟩
  rintro m σ H ⟨s, hl, p⟩
  cases m with
  | zero => cases hl
  | succ m =>
    obtain ⟨t, h1, h2⟩ := bnd hl
    refine hc s t σ H h1 p _ fun H' p' => ?_
    rcases cnd h2 with ⟨rfl, h3⟩ | ⟨rfl, h3⟩
    · obtain ⟨k, h4, h5⟩ := bnd h3
      refine iteT ⟨fun σ H => ∃ s', k = .nx s' ∧ Pv s' σ H, fun σ' H' ⟨s', e, p2⟩ => ⟨m, Nat.lt_succ_self m, s', ?_, p2⟩, hs s k σ H' h4 h1 p' (fun q e => ?_) fun s' σ H e p2 => hd s' σ H ?_ p2⟩
      · subst e
        exact h5
      · subst e
        exact (som h5).symm
      · subst e
        exact (som h5).symm
    · cases h3
      exact iteF (hd s σ H' rfl p')
/-- the reading of a comprehension over J -/
abbrev LcG (J : It) (g : TG) (tt : TT) (te : TE) (vs : List Nat) (σ : L2.St) (H1 : Hp) (D : Addr) (Qd : Hp → Prop) : Prop := ∃ W : Nat → Nat → Hp → Prop, (∃ m, W 0 m (upd H1 D (.lst []))) ∧ ∀ i m H, W i m H →
  (J.stop i H ∧ Qd H) ∨ (J.go i H ∧ ∃ Nx : Hp → Prop, (∀ H', Nx H' → ∃ m', m' < m ∧ W (i + 1) m' H') ∧ ∀ x H', J.yld i H x H' → g x (wipe σ vs) H' fun σ2 H2 => wipe σ2 vs = wipe σ vs ∧ tt σ2 H2 fun b H3 =>
    if b = true then te σ2 H3 fun y H4 => ∃ acc, H4 D = some (.lst acc) ∧ acc.length < sizeLine ∧ Nx (upd H4 D (.lst (acc ++ [y]))) else Nx H3)
theorem compS_len {f : α → S → Option (Option β × S)} : ∀ {xs : List α} {s s' : S} {ys : List β}, compS f xs s = some (ys, s') → ys.length ≤ xs.length
  | [], s, s', ys, h => by
    cases h
    exact Nat.le_refl _
  | x :: xs, s, s', ys, h => by
    obtain ⟨p, h1, h2⟩ := bnd h
    obtain ⟨q, h3, h4⟩ := bnd h2
    have := compS_len (ys := q.1) (s' := q.2) h3
    cases h4
    cases p.1 with
    | none =>
      show q.1.length ≤ _
      rw [List.length_cons]
      omega
    | some y =>
      show (y :: q.1).length ≤ _
      rw [List.length_cons, List.length_cons]
      omega
theorem compS_drop {f : α → S → Option (Option β × S)} {xs : List α} {i : Nat} {a : α} {s s' : S} {ys : List β} (hi : xs[i]? = some a) (h : compS f (xs.drop i) s = some (ys, s')) :
    ∃ o s1 zs, f a s = some (o, s1) ∧ compS f (xs.drop (i + 1)) s1 = some (zs, s') ∧ ys = (match o with | none => zs | some y => y :: zs) := by
  rw [drop_of hi] at h
  obtain ⟨p, h1, h2⟩ := bnd h
  obtain ⟨q, h3, h4⟩ := bnd h2
  cases h4
  exact ⟨p.1, p.2, q.1, h1, h3, rfl⟩
/-- a comprehension, with the state that it changes -/
theorem q_lcS {f : α → S → Option (Option β × S)} {xs : List α} {ys : List β} {s0 s1 : S} {enc : β → PyData} {c : S → List (Addr × HO)} {A : Addr} {Qd : Hp → Prop} {tt : TT} {te : TE} {vs : List Nat}
    (hf : compS f xs s0 = some (ys, s1)) (hz : xs.length ≤ LIM) (w : Walk J xs.length Gd Y) (S0 : Sep ms H0 G H (c s0)) (hA : H A = none) (hF : ∀ b, H b = none → F0 b = none)
    (hg : ∀ s G' H' acc, Sep ms H0 G' H' ((A, .lst acc) :: c s) → Same G G' → Gd H')
    (hs : ∀ i x a s o s' G1 H1 H2 acc, xs[i]? = some a → f a s = some (o, s') → Sep ms H0 G1 H1 ((A, .lst acc) :: c s) → Same G G1 → Y i H1 x H2 →
      ∀ (T : V → Hp → Prop) (F : Hp → Prop), (∀ y b G' H', o = some b → Sep ms H0 G' H' ((A, .lst acc) :: c s') → Same G1 G' → Fr F0 G' y (enc b) → T y H') → (∀ G' H', o = none → Sep ms H0 G' H' ((A, .lst acc) :: c s') → Same G1 G' → F H') →
      g x (wipe σ vs) H2 fun σ2 H2 => wipe σ2 vs = wipe σ vs ∧ tt σ2 H2 fun b H3 => if b = true then te σ2 H3 T else F H3)
    (hd : ∀ G' H' us, Sep ms H0 G' H' ((A, .lst us) :: c s1) → Same G G' → FrL F0 G' us (ys.map enc) → H0 A = none → F0 A = none → Qd H') : LcG J g tt te vs σ H A Qd := by
  have yl := compS_len hf
  refine ⟨fun i m H' => m = xs.length - i ∧ i ≤ xs.length ∧ ∃ s zs acc ws G', compS f (xs.drop i) s = some (zs, s1) ∧ ys = ws ++ zs ∧ Sep ms H0 G' H' ((A, .lst acc) :: c s) ∧ Same G G' ∧ FrL F0 G' acc (ws.map enc),
    ⟨_, rfl, Nat.zero_le _, s0, ys, [], [], G, hf, rfl, S0.own hA lst_tup, Same.refl _, .nil⟩, ?_⟩
  rintro i m H1 ⟨rfl, hi, s, zs, acc, ws, G1, hl, rfl, S1, s1', fa⟩
  have q := hg s G1 H1 acc S1 s1'
  by_cases hlt : i < xs.length
  · obtain ⟨o, s2, zs2, h1, h2, h3⟩ := compS_drop (List.getElem?_eq_getElem hlt) hl
    refine .inr ⟨w.goes i H1 hlt q, fun H' => ∃ s zs acc ws' G', compS f (xs.drop (i + 1)) s = some (zs, s1) ∧ ws ++ (match o with | none => zs2 | some y => y :: zs2) = ws' ++ zs ∧ Sep ms H0 G' H' ((A, .lst acc) :: c s) ∧ Same G G' ∧ FrL F0 G' acc (ws'.map enc), ?_, ?_⟩
    · rintro H' ⟨s, zs3, acc', ws', G', k1, k2, k3, k4, k5⟩
      exact ⟨xs.length - (i + 1), by omega, rfl, hlt, s, zs3, acc', ws', G', k1, by rw [h3]; exact k2, k3, k4, k5⟩
    · intro x H2 y
      refine hs i x _ s o s2 G1 H1 H2 acc (List.getElem?_eq_getElem hlt) h1 S1 s1' (w.yields i H1 x H2 hlt q y) _ _ (fun y b G' H' e S' sG fy => ?_) fun G' H' e S' sG => ?_
      · subst e
        have la : acc.length < sizeLine := by
          rw [fa.len, List.length_map]
          refine lim_lt ?_
          rw [h3] at yl
          simp only [List.length_append, List.length_cons] at yl
          omega
        refine ⟨acc, S'.get 0 rfl, la, s2, zs2, acc ++ [y], ws ++ [b], G', h2, by rw [List.append_assoc]; rfl, S'.put 0 rfl lst_tup, s1'.trans sG, ?_⟩
        rw [List.map_append]
        exact (fa.same sG).app (.cons fy .nil)
      · subst e
        exact ⟨s2, zs2, acc, ws, G', h2, rfl, S', s1'.trans sG, fa.same sG⟩
  · have e : i = xs.length := by omega
    subst e
    rw [List.drop_length] at hl
    cases hl
    rw [List.append_nil] at hd
    exact .inl ⟨w.stops H1 q, hd G1 H1 acc S1 s1' fa (S0.old A hA) (hF A hA)⟩
theorem compF_S {f : α → Option (Option β)} : ∀ {xs : List α} {ys : List β}, compF f xs = some ys → compS (fun a (_ : Unit) => (f a).bind fun o => some (o, ())) xs () = some (ys, ())
  | [], ys, h => by
    cases h
    rfl
  | x :: xs, ys, h => by
    obtain ⟨p, h1, h2⟩ := bnd h
    obtain ⟨q, h3, h4⟩ := bnd h2
    cases h4
    show ((f x).bind fun o => some (o, ())).bind _ = _
    rw [h1]
    show (compS _ xs ()).bind _ = _
    rw [compF_S h3]
    rfl
theorem q_lc {f : α → Option (Option β)} {xs : List α} {ys : List β} {enc : β → PyData} {A : Addr} {Qd : Hp → Prop} {tt : TT} {te : TE} {vs : List Nat}
    (hf : compF f xs = some ys) (hz : xs.length ≤ LIM) (w : Walk J xs.length Gd Y) (S0 : Sep ms H0 G H cs) (hA : H A = none) (hF : ∀ b, H b = none → F0 b = none)
    (hg : ∀ G' H' acc, Sep ms H0 G' H' ((A, .lst acc) :: cs) → Same G G' → Gd H')
    (hs : ∀ i x a o G1 H1 H2 acc, xs[i]? = some a → f a = some o → Sep ms H0 G1 H1 ((A, .lst acc) :: cs) → Same G G1 → Y i H1 x H2 →
      ∀ (T : V → Hp → Prop) (F : Hp → Prop), (∀ y b G' H', o = some b → Sep ms H0 G' H' ((A, .lst acc) :: cs) → Same G1 G' → Fr F0 G' y (enc b) → T y H') → (∀ G' H', o = none → Sep ms H0 G' H' ((A, .lst acc) :: cs) → Same G1 G' → F H') →
      g x (wipe σ vs) H2 fun σ2 H2 => wipe σ2 vs = wipe σ vs ∧ tt σ2 H2 fun b H3 => if b = true then te σ2 H3 T else F H3)
    (hd : ∀ G' H' us, Sep ms H0 G' H' ((A, .lst us) :: cs) → Same G G' → FrL F0 G' us (ys.map enc) → H0 A = none → F0 A = none → Qd H') : LcG J g tt te vs σ H A Qd := by
  refine q_lcS (c := fun _ => cs) (compF_S hf) hz w S0 hA hF (fun _ => hg) (fun i x a s o s' G1 H1 H2 acc hi ho => ?_) hd
  obtain ⟨p, h1, h2⟩ := bnd ho
  cases h2
  exact hs i x a _ G1 H1 H2 acc hi h1
end
/-! ### what is walked -/
section
variable {F0 H0 G H : Hp} {a b : Addr} {vs us : List V} {α β : Type} {e : α → PyData} {e2 : β → PyData} {l : List α} {m : List β} {K : PySem.W.Frag} {ms : List Addr} {cs : List (Addr × HO)}
theorem rgI_len (a b : Int) : (rgI a b).length = (b - a).toNat := by
  unfold rgI
  rw [List.length_map, List.length_range]
theorem rgI_get {a b : Int} {i : Nat} {x : Int} (h : (rgI a b)[i]? = some x) : x = a + i := by
  unfold rgI at h
  rw [List.getElem?_map] at h
  obtain ⟨j, h1, h2⟩ := Option.map_eq_some_iff.mp h
  have := List.getElem?_eq_some_iff.mp h1
  obtain ⟨h3, h4⟩ := this
  rw [List.getElem_range] at h4
  rw [← h2, h4]
/-- a range by ones -/
theorem w_rng (lo hi : Int) : Walk (Itr lo (hi - lo).toNat) (rgI lo hi).length (fun _ => True) (YFn fun i => .int (lo + i)) := by
  rw [rgI_len]
  exact walk_range
theorem w_list (f : FrL F0 G vs (l.map e)) : Walk (Itl K a) l.length (fun H => H a = some (.lst vs)) (YAt vs) := by
  have h : l.length = vs.length := by rw [f.len, List.length_map]
  rw [h]
  exact walk_list.mono (fun _ h => SqL.of h) fun _ _ _ _ _ _ y => y
theorem w_tup (f : FrL F0 G vs (l.map e)) : Walk (Itt K a) l.length (fun H => H a = some (.tup vs)) (YAt vs) := by
  have h : l.length = vs.length := by rw [f.len, List.length_map]
  rw [h]
  exact walk_tup.mono (fun _ h => SqT.of h) fun _ _ _ _ _ _ y => y
theorem w_enum (f : FrL F0 G vs (l.map e)) : Walk (Ite K a) l.length (fun H => H a = some (.lst vs)) (YPair (fun i => some (.int (i : Nat))) (fun i => vs[i]?)) := by
  have h : l.length = vs.length := by rw [f.len, List.length_map]
  rw [h]
  exact walk_enum.mono (fun _ h => SqL.of h) fun _ _ _ _ _ _ y => y
theorem w_str (z : Str) : Walk (Its z) (z.cps.toList.map fun c => (⟨#[c]⟩ : Str)).length (fun _ => True) (fun i H v H' => H' = H ∧ ∃ c, z.cps[i]? = some c ∧ v = .str ⟨#[c]⟩) := by
  have h : (z.cps.toList.map fun c => (⟨#[c]⟩ : Str)).length = z.cps.size := by rw [List.length_map, Array.length_toList]
  rw [h]
  exact walk_str
theorem frl_at {i : Nat} {x : α} {v : V} (f : FrL F0 G vs (l.map e)) (hx : l[i]? = some x) (hv : vs[i]? = some v) : Fr F0 G v (e x) := by
  obtain ⟨w, h1, h2⟩ := f.get (i := i) (d := e x) (by rw [List.getElem?_map, hx]; rfl)
  rw [hv] at h1
  cases h1
  exact h2
theorem enumI_len (l : List α) : (enumI l).length = l.length := by
  unfold enumI
  rw [List.length_zipWith, List.length_range, Nat.min_self]
theorem enumI_get {i : Nat} {p : Int × α} (h : (enumI l)[i]? = some p) : p.1 = (i : Int) ∧ l[i]? = some p.2 := by
  unfold enumI at h
  rw [List.getElem?_zipWith] at h
  obtain ⟨hl, _⟩ : i < l.length ∧ True := by
    refine ⟨?_, trivial⟩
    by_cases c : i < l.length
    · exact c
    · rw [List.getElem?_eq_none (l := List.range l.length) (by rw [List.length_range]; omega)] at h
      simp at h
  rw [List.getElem?_range hl, List.getElem?_eq_getElem hl] at h
  simp only [Option.some.injEq] at h
  rw [← h]
  exact ⟨rfl, List.getElem?_eq_getElem hl⟩
end
end LQ

/-! What gen2 writes. -/
namespace LQ
open PySem L2 LX
def ctlK {R S β : Type} (k : Ctl R S) (fr : R → Option β) (fn : S → Option β) : Option β := match k with
  | .ret r => fr r
  | .nx s => fn s
  | .bk _ => none
def fuelW : Nat := 100000
/-- a comprehension over a list that is not too long -/
def compL {α β : Type} (f : α → Option (Option β)) (l : List α) : Option (List β) := cond (decide (l.length ≤ LIM)) (compF f l) none
def chars (z : Str) : List Str := z.cps.toList.map fun c => (⟨#[c]⟩ : Str)
def zipL {α β : Type} (l : List α) (m : List β) : List (α × β) := l.zip m
def repSF (z : Str) (n : Int) : Option Str := cond (decide (0 ≤ n) && decide (n ≤ 1000) && decide (z.length ≤ 1000)) (some (repS z n.toNat)) none
def sliceS (z : Str) (lo hi : Option Int) : Option Str := cond (decide (z.length ≤ LIM)) (some (cutS z lo hi)) none
/-- one sign in a text -/
def inSF (c z : Str) : Option Bool := match c.cps.toList with
  | [k] => some (decide (k ∈ z.cps.toList))
  | _ => none
def lrgF (a b : Int) : Option (List Int) := cond (decide (-(2 ^ 62) ≤ a) && decide (a < 2 ^ 62) && decide (-(2 ^ 62) ≤ b) && decide (b < 2 ^ 62) && decide ((b - a).toNat ≤ LIM)) (some (rgI a b)) none
def joinF (a : Str) (ys : List Str) : Option Str := cond (decide ((ys.map (·.length)).sum + ys.length * a.length ≤ 16777216)) (some (Txt.join a ys)) none
def insF {α : Type} (l : List α) (i : Int) (x : α) : Option (List α) := cond (decide (l.length < LIM) && decide (0 ≤ i) && decide (i < 2 ^ 63)) (some (l.take i.toNat ++ [x] ++ l.drop i.toNat)) none
def sortI (l : List Int) : List Int := l.mergeSort
section
variable {σ σ' : L2.St} {H H1 G G' : Hp} {Q : VK} {v w x y : V} {i : Nat} {t : TT} {te : TE} {D : Ends} {A B : Prop} {b b1 b2 : Bool}
theorem rd_varE (e : σ[i]? = some (some v)) (h : v = w) (q : Q w H) : tVar i σ H Q := ⟨v, e, h ▸ q⟩
theorem rd_nameS {R : L2.St → Hp → Prop} (e : σ.set i (some v) = σ') (q : R σ' H) : gName i v σ H R := by
  subst e
  exact q
theorem rd_setS {R : L2.St → Hp → Prop} {s : L2.St} (e : s = σ') (q : R σ' H) : R s H := by
  subst e
  exact q
theorem rd_twoS {v w : V} {i j : Nat} (e : (σ.set i (some v)).set j (some w) = σ') (q : D.nx σ' H) : ∃ a b, [v, w] = [a, b] ∧ D.nx ((σ.set i (some a)).set j (some b)) H := by
  subst e
  exact ⟨v, w, rfl, q⟩
theorem rd_mk {f ct bk : L2.St → Hp → Prop} {rt : VK} (q : f σ H) : (Ends.mk f rt bk ct).nx σ H := q
theorem rd_ttM {QB : Bool → Hp → Prop} (M : Bool → Hp → Prop) (h1 : ∀ R : Bool → Hp → Prop, (∀ x H1, M x H1 → R x H1) → t σ H R) (h2 : ∀ x H1, M x H1 → QB x H1) : t σ H QB := h1 _ h2
theorem ite_by (h1 : b = true → A) (h2 : b = false → B) : if b = true then A else B := by
  cases b with
  | true => exact L2.iteT (h1 rfl)
  | false => exact L2.iteF (h2 rfl)
theorem iteY (h : b = true) (q : A) : if b = true then A else B := by
  rw [if_pos h]
  exact q
theorem iteN (h : b = false) (q : B) : if b = true then A else B := by
  rw [if_neg (by rw [h]; decide)]
  exact q
theorem andT {x y : Bool} (h : b = true) (e : x = y) : x = (b && y) := by rw [h, e, Bool.true_and]
theorem andF {y : Bool} (h : b = false) : false = (b && y) := by rw [h, Bool.false_and]
theorem orT {y : Bool} (h : b = true) : true = (b || y) := by rw [h, Bool.true_or]
theorem orF {x y : Bool} (h : b = false) (e : x = y) : x = (b || y) := by rw [h, e, Bool.false_or]
def zIsN : R2 := fun x y H Q => y = V.non ∧ Q (.bl (decide (x = .non))) H
def zNotN : R2 := fun x y H Q => y = V.non ∧ Q (.bl (!decide (x = .non))) H
theorem kisN {X : Cx} : OpR X (compareOp .Is) zIsN := op_isN
theorem knotN {X : Cx} : OpR X (compareOp .IsNot) zNotN := op_notN
def zLenS : List V → Hp → VK → Prop := fun xs H Q => ∃ z, xs = [.str z] ∧ z.length ≤ sizeLine ∧ Q (.int z.length) H
theorem klenS {X : Cx} : CallR X (.builtin "len") zLenS := call_len_str
def zMax2 : List V → Hp → VK → Prop := fun xs H Q => ∃ i j, xs = [.int i, .int j] ∧ Q (.int (if j > i then j else i)) H
def zMin2 : List V → Hp → VK → Prop := fun xs H Q => ∃ i j, xs = [.int i, .int j] ∧ Q (.int (if j < i then j else i)) H
theorem kmax2 {X : Cx} (hc : X.calm = true) : CallR X (.builtin "max") zMax2 := call_max2 hc
theorem kmin2 {X : Cx} (hc : X.calm = true) : CallR X (.builtin "min") zMin2 := call_min2 hc
def zInt1 : List V → Hp → VK → Prop := fun xs H Q => (∃ i, xs = [.int i] ∧ Q (.int i) H) ∨ ∃ k, xs = [.bl k] ∧ Q (.int (if k then 1 else 0)) H
theorem kint1 {X : Cx} : CallR X (.type "int") zInt1 := call_int1
def zAddS : R2 := fun x y H Q => ∃ i j, x = .str i ∧ y = .str j ∧ i.length + j.length ≤ sizeLine ∧ Q (.str (i ++ j)) H
theorem kaddS {X : Cx} : OpR X (binaryOp .Add) zAddS := op_add_str
theorem kiaddS {X : Cx} : OpR X (inplaceOp .Add) zAddS := iop_add_str
theorem q_isN {t : Bool} (h : decide (x = V.non) = t) (q : Q (.bl t) H) : zIsN x .non H Q := ⟨rfl, by rw [h]; exact q⟩
theorem q_notN {t : Bool} (h : decide (x = V.non) = t) (q : Q (.bl (!t)) H) : zNotN x .non H Q := ⟨rfl, by rw [h]; exact q⟩
theorem isO {α : Type} {f : α → V} (hf : ∀ a, f a ≠ .non) (o : Option α) : decide (vO f o = V.non) = o.isNone := by
  cases o with
  | none => rfl
  | some a => exact decide_eq_false (hf a)
theorem q_isNI {o : Option Int} (q : Q (.bl o.isNone) H) : zIsN (vO V.int o) .non H Q := q_isN (isO (fun _ z => by cases z) o) q
theorem q_isNS {o : Option Str} (q : Q (.bl o.isNone) H) : zIsN (vO V.str o) .non H Q := q_isN (isO (fun _ z => by cases z) o) q
theorem q_isNB {o : Option Bool} (q : Q (.bl o.isNone) H) : zIsN (vO V.bl o) .non H Q := q_isN (isO (fun _ z => by cases z) o) q
theorem q_notNI {o : Option Int} (q : Q (.bl (!o.isNone)) H) : zNotN (vO V.int o) .non H Q := q_notN (isO (fun _ z => by cases z) o) q
theorem q_notNS {o : Option Str} (q : Q (.bl (!o.isNone)) H) : zNotN (vO V.str o) .non H Q := q_notN (isO (fun _ z => by cases z) o) q
theorem q_notNB {o : Option Bool} (q : Q (.bl (!o.isNone)) H) : zNotN (vO V.bl o) .non H Q := q_notN (isO (fun _ z => by cases z) o) q
theorem isNo {α : Type} {e : α → PyData} {o : Option α} {F0 : Hp} (f : Fr F0 G v (eO e o)) (he : ∀ a, isNoneD (e a) = false) : decide (v = V.non) = o.isNone := by
  cases o with
  | none =>
    rw [fr_non f]
    rfl
  | some a =>
    refine decide_eq_false fun z => ?_
    subst z
    have h := he a
    change Fr F0 G .non (e a) at f
    generalize e a = d at f h
    cases f
    cases h
theorem isAny {d : PyData} {F0 : Hp} (f : Fr F0 G v d) : decide (v = V.non) = isNoneD d := by
  cases f <;> first | rfl | exact decide_eq_false fun z => by cases z
theorem q_neI {i j : Int} (q : Q (.bl (!decide (i = j))) H) : rNe (.int i) (.int j) H Q := by
  refine ⟨rfl, ?_⟩
  rw [dec_int]
  exact q
theorem dec_strV {i j : Str} : decide (V.str i = V.str j) = decide (i = j) := by
  by_cases h : i = j
  · rw [decide_eq_true h, decide_eq_true (congrArg V.str h)]
  · rw [decide_eq_false h, decide_eq_false fun z => h (V.str.inj z)]
theorem dec_blV {i j : Bool} : decide (V.bl i = V.bl j) = decide (i = j) := by
  by_cases h : i = j
  · rw [decide_eq_true h, decide_eq_true (congrArg V.bl h)]
  · rw [decide_eq_false h, decide_eq_false fun z => h (V.bl.inj z)]
theorem q_eqS {i j : Str} (q : Q (.bl (decide (i = j))) H) : rEq (.str i) (.str j) H Q := ⟨rfl, by rw [dec_strV]; exact q⟩
theorem q_neS {i j : Str} (q : Q (.bl (!decide (i = j))) H) : rNe (.str i) (.str j) H Q := ⟨rfl, by rw [dec_strV]; exact q⟩
theorem q_eqB {i j : Bool} (q : Q (.bl (decide (i = j))) H) : rEq (.bl i) (.bl j) H Q := ⟨rfl, by rw [dec_blV]; exact q⟩
theorem q_neB {i j : Bool} (q : Q (.bl (!decide (i = j))) H) : rNe (.bl i) (.bl j) H Q := ⟨rfl, by rw [dec_blV]; exact q⟩
theorem dec_vO {α : Type} [DecidableEq α] {f : α → V} (hf : ∀ a, f a ≠ .non) (hi : ∀ a b, f a = f b → a = b) (o p : Option α) : decide (vO f o = vO f p) = decide (o = p) := by
  cases o with
  | none =>
    cases p with
    | none => rfl
    | some b =>
      show decide (V.non = f b) = _
      rw [decide_eq_false (fun z => hf b z.symm), decide_eq_false (fun z => by cases z)]
  | some a =>
    cases p with
    | none =>
      show decide (f a = V.non) = _
      rw [decide_eq_false (hf a), decide_eq_false (fun z => by cases z)]
    | some b =>
      by_cases h : a = b
      · subst h
        rw [decide_eq_true rfl, decide_eq_true rfl]
      · show decide (f a = f b) = _
        rw [decide_eq_false fun z => h (hi a b z), decide_eq_false fun z => h (Option.some.inj z)]
theorem scal_vOS (o p : Option Str) : scal (vO V.str o) (vO V.str p) = true := by cases o <;> cases p <;> rfl
theorem scal_vOI (o p : Option Int) : scal (vO V.int o) (vO V.int p) = true := by cases o <;> cases p <;> rfl
theorem q_eqOS {o p : Option Str} (q : Q (.bl (decide (o = p))) H) : rEq (vO V.str o) (vO V.str p) H Q := ⟨scal_vOS o p, by rw [dec_vO (fun _ z => by cases z) (fun _ _ z => V.str.inj z)]; exact q⟩
theorem q_neOS {o p : Option Str} (q : Q (.bl (!decide (o = p))) H) : rNe (vO V.str o) (vO V.str p) H Q := ⟨scal_vOS o p, by rw [dec_vO (fun _ z => by cases z) (fun _ _ z => V.str.inj z)]; exact q⟩
theorem q_eqOI {o p : Option Int} (q : Q (.bl (decide (o = p))) H) : rEq (vO V.int o) (vO V.int p) H Q := ⟨scal_vOI o p, by rw [dec_vO (fun _ z => by cases z) (fun _ _ z => V.int.inj z)]; exact q⟩
theorem q_neOI {o p : Option Int} (q : Q (.bl (!decide (o = p))) H) : rNe (vO V.int o) (vO V.int p) H Q := ⟨scal_vOI o p, by rw [dec_vO (fun _ z => by cases z) (fun _ _ z => V.int.inj z)]; exact q⟩
theorem eqv_ok {d e : PyData} {b : Bool} (h : eqvF d e = some b) : SeqAt.shaped d = true ∧ SeqAt.shaped e = true ∧ d.hasDict = false ∧ e.hasDict = false ∧ PyData.eqv d e = b := by
  unfold eqvF at h
  obtain ⟨h1, h2⟩ := grd h
  rw [Bool.and_eq_true, Bool.and_eq_true, Bool.and_eq_true, Bool.not_eq_true', Bool.not_eq_true'] at h1
  exact ⟨h1.1.1.1, h1.1.1.2, h1.1.2, h1.2, som h2⟩
theorem q_eqD {K : PySem.W.Frag} {F0 F1 : Hp} {d e : PyData} (f : Fr F0 H x d) (g : Fr F1 H y e) (h : eqvF d e = some b) (q : Q (.bl b) H) : rEqD K x y H Q := by
  obtain ⟨h1, h2, h3, h4, h5⟩ := eqv_ok h
  exact ⟨d, e, f.dp h3, g.dp h4, h1, h2, by rw [h5]; exact q⟩
theorem q_neD {K : PySem.W.Frag} {F0 F1 : Hp} {d e : PyData} (f : Fr F0 H x d) (g : Fr F1 H y e) (h : eqvF d e = some b) (q : Q (.bl (!b)) H) : rNeD K x y H Q := by
  obtain ⟨h1, h2, h3, h4, h5⟩ := eqv_ok h
  exact ⟨d, e, f.dp h3, g.dp h4, h1, h2, by rw [h5]; exact q⟩
theorem flat_ints (l : List Int) : (l.map V.int).all flatV = true := by
  rw [List.all_map]
  exact List.all_eq_true.mpr fun _ _ => rfl
theorem flat_strs (l : List Str) : (l.map V.str).all flatV = true := by
  rw [List.all_map]
  exact List.all_eq_true.mpr fun _ _ => rfl
theorem inV_ints (i : Int) (l : List Int) : inV (.int i) (l.map V.int) = decide (i ∈ l) := by
  unfold inV
  rw [List.any_map]
  by_cases h : i ∈ l
  · rw [decide_eq_true h]
    exact List.any_eq_true.mpr ⟨i, h, by simp [Function.comp, eqV]⟩
  · rw [decide_eq_false h]
    refine Bool.eq_false_iff.mpr fun z => h ?_
    obtain ⟨k, h1, h2⟩ := List.any_eq_true.mp z
    simp [Function.comp, eqV] at h2
    exact h2 ▸ h1
theorem inV_strs (i : Str) (l : List Str) : inV (.str i) (l.map V.str) = decide (i ∈ l) := by
  unfold inV
  rw [List.any_map]
  by_cases h : i ∈ l
  · rw [decide_eq_true h]
    exact List.any_eq_true.mpr ⟨i, h, by simp [Function.comp, eqV]⟩
  · rw [decide_eq_false h]
    refine Bool.eq_false_iff.mpr fun z => h ?_
    obtain ⟨k, h1, h2⟩ := List.any_eq_true.mp z
    simp [Function.comp, eqV] at h2
    exact h2 ▸ h1
section
variable {K : PySem.W.Frag} {F0 : Hp} {a : Addr} {vs : List V}
theorem q_inI {i : Int} {l : List Int} (h : H a = some (.lst vs)) (f : FrL F0 G vs (l.map eI)) (q : Q (.bl (decide (i ∈ l))) H) : rIn K false (.int i) (.ref a) H Q := by
  rw [frl_ints f] at h
  exact rd_isin h rfl (flat_ints l) (inV_ints i l) q
theorem q_niI {i : Int} {l : List Int} (h : H a = some (.lst vs)) (f : FrL F0 G vs (l.map eI)) (q : Q (.bl (!decide (i ∈ l))) H) : rIn K true (.int i) (.ref a) H Q := by
  rw [frl_ints f] at h
  exact rd_notin h rfl (flat_ints l) (inV_ints i l) q
theorem q_inS {i : Str} {l : List Str} (h : H a = some (.lst vs)) (f : FrL F0 G vs (l.map eS)) (q : Q (.bl (decide (i ∈ l))) H) : rIn K false (.str i) (.ref a) H Q := by
  rw [frl_strs f] at h
  exact rd_isin h rfl (flat_strs l) (inV_strs i l) q
theorem q_niS {i : Str} {l : List Str} (h : H a = some (.lst vs)) (f : FrL F0 G vs (l.map eS)) (q : Q (.bl (!decide (i ∈ l))) H) : rIn K true (.str i) (.ref a) H Q := by
  rw [frl_strs f] at h
  exact rd_notin h rfl (flat_strs l) (inV_strs i l) q
theorem inS_ok {c z : Str} (h : inSF c z = some b) : ∃ k, c = ⟨#[k]⟩ ∧ b = decide (k ∈ z.cps.toList) := by
  unfold inSF at h
  split at h
  · rename_i k hk
    refine ⟨k, ?_, (som h).symm⟩
    obtain ⟨a⟩ := c
    congr 1
    apply Array.toList_inj.mp
    exact hk
  · cases h
theorem q_inT {c z : Str} (h : inSF c z = some b) (q : Q (.bl b) H) : rInT false (.str c) (.str z) H Q := by
  obtain ⟨k, rfl, rfl⟩ := inS_ok h
  exact ⟨k, z, rfl, rfl, q⟩
theorem q_niT {c z : Str} (h : inSF c z = some b) (q : Q (.bl (!b)) H) : rInT true (.str c) (.str z) H Q := by
  obtain ⟨k, rfl, rfl⟩ := inS_ok h
  exact ⟨k, z, rfl, rfl, q⟩
theorem q_truL {α : Type} {e : α → PyData} {l : List α} {R : Bool → Prop} (h : H a = some (.lst vs)) (f : FrL F0 G vs (l.map e)) (q : R (!l.isEmpty)) : ∃ k, TruV K (.ref a) H k ∧ R k := by
  refine rd_truL h ?_
  have e1 : vs.isEmpty = l.isEmpty := by
    have := f.len
    rw [List.length_map] at this
    cases l <;> cases vs <;> simp_all
  rw [e1]
  exact q
end
/-! ### texts -/
theorem q_catS {i j k : Str} (h : catS i j = some k) (q : Q (.str k) H) : zAddS (.str i) (.str j) H Q := by
  unfold catS at h
  obtain ⟨h1, h2⟩ := grd h
  cases som h2
  exact ⟨i, j, rfl, rfl, lim_le (of_decide_eq_true h1), q⟩
theorem q_ixS {z c : Str} {i : Int} (h : ixS z i = some c) (q : Q (.str c) H) : rIxS (.str z) (.int i) H Q := by
  unfold ixS at h
  obtain ⟨h1, h2⟩ := grd h
  obtain ⟨k, h3, h4⟩ := bnd h2
  cases som h4
  exact ⟨z, i, k, rfl, rfl, lim_le (of_decide_eq_true h1), h3, q⟩
theorem q_slS {z c : Str} {lo hi : Option Int} (h : sliceS z lo hi = some c) (q : Q (.str c) H) : rSlS (.str z) lo hi H Q := by
  unfold sliceS at h
  obtain ⟨h1, h2⟩ := grd h
  cases som h2
  exact ⟨z, rfl, lim_le (of_decide_eq_true h1), q⟩
theorem q_repS {z r : Str} {n : Int} (h : repSF z n = some r) (q : Q (.str r) H) : rRepS (.str z) (.int n) H Q := by
  unfold repSF at h
  obtain ⟨h1, h2⟩ := grd h
  rw [Bool.and_eq_true, Bool.and_eq_true, decide_eq_true_iff, decide_eq_true_iff, decide_eq_true_iff] at h1
  cases som h2
  refine ⟨z, n.toNat, rfl, ?_, by omega, h1.2, q⟩
  rw [show ((n.toNat : Nat) : Int) = n by omega]
theorem q_lenS {z : Str} {n : Int} (h : lenS z = some n) (q : Q (.int n) H) : zLenS [.str z] H Q := by
  unfold lenS at h
  obtain ⟨h1, h2⟩ := grd h
  cases som h2
  exact ⟨z, rfl, lim_le (of_decide_eq_true h1), q⟩
/-! ### calls -/
theorem q_max2 {i j : Int} (q : Q (.int (maxI i j)) H) : zMax2 [.int i, .int j] H Q := ⟨i, j, rfl, q⟩
theorem q_min2 {i j : Int} (q : Q (.int (minI i j)) H) : zMin2 [.int i, .int j] H Q := ⟨i, j, rfl, q⟩
theorem q_int1 {b : Bool} (q : Q (.int (b2I b)) H) : zInt1 [.bl b] H Q := Or.inr ⟨b, rfl, q⟩
def zRg (a b : Int) (H : Hp) (Q : VK) : Prop := RgOk a b ∧ ∀ q, H q = none → Q (.ref q) (upd H q (.lst (rgV a b)))
theorem rd_lstRgZ {tr : L2.St → Hp → (Int → Int → Hp → Prop) → Prop} (q : tr σ H fun a b H1 => zRg a b H1 Q) : tLstRg tr σ H Q := q
theorem rd_rg2 {ta tb : TE} {R : Int → Int → Hp → Prop} (q : ta σ H fun x H1 => tb σ H1 fun y H2 => ∃ i j, x = .int i ∧ y = .int j ∧ R i j H2) : tRg2 ta tb σ H R := q
theorem q_lrg {a b : Int} {l : List Int} (h : lrgF a b = some l) (q : zNew (l.map V.int) H Q) : zRg a b H Q := by
  unfold lrgF at h
  obtain ⟨h1, h2⟩ := grd h
  rw [Bool.and_eq_true, Bool.and_eq_true, Bool.and_eq_true, Bool.and_eq_true, decide_eq_true_iff, decide_eq_true_iff, decide_eq_true_iff, decide_eq_true_iff, decide_eq_true_iff] at h1
  cases som h2
  refine ⟨⟨h1.1.1.1.1, h1.1.1.1.2, h1.1.1.2, h1.1.2, Nat.le_trans h1.2 (by decide)⟩, ?_⟩
  have e : rgV a b = (rgI a b).map V.int := by
    unfold rgV rgI
    rw [List.map_map]
    rfl
  intro p hp
  rw [e]
  exact q p hp
theorem rng_ok {a b : Int} {l : List Int} (h : rngF a b = some l) : -(2 ^ 62) ≤ a ∧ a < 2 ^ 62 ∧ -(2 ^ 62) ≤ b ∧ b < 2 ^ 62 ∧ l = rgI a b := by
  unfold rngF at h
  obtain ⟨h1, h2⟩ := grd h
  rw [Bool.and_eq_true, Bool.and_eq_true, Bool.and_eq_true, decide_eq_true_iff, decide_eq_true_iff, decide_eq_true_iff, decide_eq_true_iff] at h1
  exact ⟨h1.1.1.1, h1.1.1.2, h1.1.2, h1.2, (som h2).symm⟩
def zRng1 (vs : List V) (H : Hp) (R : It → Hp → Prop) : Prop := ∃ j : Int, vs = [.int j] ∧ -(2 ^ 62) ≤ j ∧ j < 2 ^ 62 ∧ R (Itr 0 j.toNat) H
def zRng2 (vs : List V) (H : Hp) (R : It → Hp → Prop) : Prop := ∃ i j : Int, vs = [.int i, .int j] ∧ (-(2 ^ 62) ≤ i ∧ i < 2 ^ 62 ∧ -(2 ^ 62) ≤ j ∧ j < 2 ^ 62) ∧ R (Itr i (j - i).toNat) H
theorem rd_iR1 {ta : TA} {R : It → Hp → Prop} (q : ta σ H fun vs H1 => zRng1 vs H1 R) : iRng1 ta σ H R := q
theorem rd_iR2 {ta : TA} {R : It → Hp → Prop} (q : ta σ H fun vs H1 => zRng2 vs H1 R) : iRng2 ta σ H R := q
theorem rd_iStr {R : It → Hp → Prop} (q : te σ H fun v H1 => ∃ x, v = .str x ∧ R (Its x) H1) : iStr te σ H R := q
theorem rd_iZip {K : PySem.W.Frag} {ta : TA} {R : It → Hp → Prop} (q : ta σ H fun vs H1 => ∃ a b xs ys, vs = [.ref a, .ref b] ∧ SqL K H1 a xs ∧ SqL K H1 b ys ∧ R (Itz K a b) H1) : iZip K ta σ H R := q
theorem q_rng1 {a : Int} {l : List Int} {R : It → Hp → Prop} (h : rngF 0 a = some l) (q : R (Itr 0 a.toNat) H) : zRng1 [.int a] H R := by
  obtain ⟨_, _, h3, h4, _⟩ := rng_ok h
  exact ⟨a, rfl, h3, h4, q⟩
theorem q_rng2 {a b : Int} {l : List Int} {R : It → Hp → Prop} (h : rngF a b = some l) (q : R (Itr a (b - a).toNat) H) : zRng2 [.int a, .int b] H R := by
  obtain ⟨h1, h2, h3, h4, _⟩ := rng_ok h
  exact ⟨a, b, rfl, ⟨h1, h2, h3, h4⟩, q⟩
end
/-! ### walks -/
section
variable {F0 H0 G H H' : Hp} {a b T : Addr} {vs us : List V} {v w : V} {α β : Type} {e : α → PyData} {e2 : β → PyData} {l : List α} {m : List β} {K : PySem.W.Frag} {ms : List Addr} {cs : List (Addr × HO)}
theorem w_rng2 {lo hi : Int} {l : List Int} (h : rngF lo hi = some l) : Walk (Itr lo (hi - lo).toNat) l.length (fun _ => True) (fun i H v H' => H' = H ∧ ∀ a, l[i]? = some a → v = .int a) := by
  obtain ⟨_, _, _, _, rfl⟩ := rng_ok h
  refine (w_rng lo hi).mono (fun _ h => h) fun i H x H' _ _ y => ⟨y.1, fun a ha => ?_⟩
  rw [y.2, rgI_get ha]
theorem w_rng1 {hi : Int} {l : List Int} (h : rngF 0 hi = some l) : Walk (Itr 0 hi.toNat) l.length (fun _ => True) (fun i H v H' => H' = H ∧ ∀ a, l[i]? = some a → v = .int a) := by
  have := w_rng2 h
  rw [Int.sub_zero] at this
  exact this
theorem w_li (f : FrL F0 G vs (l.map e)) : Walk (Itl K a) l.length (fun H => H a = some (.lst vs)) (fun i H v H' => H' = H ∧ ∀ x, l[i]? = some x → Fr F0 G v (e x)) :=
  (w_list f).mono (fun _ h => h) fun i H x H' _ _ y => ⟨y.1, fun z hz => frl_at f hz y.2⟩
theorem w_en (f : FrL F0 G vs (l.map e)) : Walk (Ite K a) (enumI l).length (fun H => H a = some (.lst vs)) (fun i H v H' => ∃ T v1 v2, v = .ref T ∧ H T = none ∧ H' = upd H T (.tup [v1, v2]) ∧ ∀ p, (enumI l)[i]? = some p → Fr F0 G v1 (eI p.1) ∧ Fr F0 G v2 (e p.2)) := by
  rw [enumI_len]
  refine (w_enum f).mono (fun _ h => h) fun i H x H' _ _ y => ?_
  obtain ⟨T, v1, v2, h1, h2, h3, h4, h5⟩ := y
  refine ⟨T, v1, v2, h1, h2, h3, fun p hp => ?_⟩
  obtain ⟨k1, k2⟩ := enumI_get hp
  cases som h4
  rw [k1]
  exact ⟨.int _, frl_at f k2 h5⟩
theorem w_zip2 (f : FrL F0 G vs (l.map e)) (g : FrL F0 G us (m.map e2)) : Walk (Itz K a b) (zipL l m).length (fun H => H a = some (.lst vs) ∧ H b = some (.lst us))
    (fun i H v H' => ∃ T v1 v2, v = .ref T ∧ H T = none ∧ H' = upd H T (.tup [v1, v2]) ∧ ∀ p, (zipL l m)[i]? = some p → Fr F0 G v1 (e p.1) ∧ Fr F0 G v2 (e2 p.2)) := by
  have hn : (zipL l m).length = min vs.length us.length := by
    unfold zipL
    rw [List.length_zip, f.len, g.len, List.length_map, List.length_map]
  refine (walk_zip hn).mono (fun _ h => ⟨SqL.of h.1, SqL.of h.2⟩) fun i H x H' _ _ y => ?_
  obtain ⟨T, v1, v2, h1, h2, h3, h4, h5⟩ := y
  refine ⟨T, v1, v2, h1, h2, h3, fun p hp => ?_⟩
  unfold zipL at hp
  rw [List.getElem?_zip_eq_some] at hp
  exact ⟨frl_at f hp.1 h4, frl_at g hp.2 h5⟩
theorem chars_len (z : Str) : (chars z).length = z.cps.size := by
  unfold chars
  rw [List.length_map, Array.length_toList]
theorem w_ch (z : Str) : Walk (Its z) (chars z).length (fun _ => True) (fun i H v H' => H' = H ∧ ∀ a, (chars z)[i]? = some a → v = .str a) := by
  rw [chars_len]
  refine walk_str.mono (fun _ h => h) fun i H x H' _ _ y => ⟨y.1, fun a ha => ?_⟩
  obtain ⟨c, h1, h2⟩ := y.2
  unfold chars at ha
  rw [List.getElem?_map] at ha
  obtain ⟨d, h3, h4⟩ := Option.map_eq_some_iff.mp ha
  rw [h2, ← h4]
  rw [Array.getElem?_toList, h1] at h3
  cases h3
  rfl
theorem Sep.pair (S : Sep ms H0 G H cs) {d d2 : PyData} (hT : H T = none) (eH : H' = upd H T (.tup [v, w])) (f : Fr F0 G v d) (g : Fr F0 G w d2) : ∃ G', Sep ms H0 G' H' cs ∧ Same G G' ∧ Fr F0 G' (.ref T) (.tuple [d, d2]) := by
  subst eH
  have sm := sNew (o := .tup [v, w]) (S.gfree hT)
  exact ⟨_, S.sh hT, sm, .tup upd_same (.cons (f.same sm) (.cons (g.same sm) .nil))⟩
theorem Sep.fixF {F0 : Hp} {ds : List PyData} (S : Sep ms H0 G H cs) (i : Nat) (h : cs[i]? = some (a, .lst vs)) (hm : a ∉ ms) (f : FrL F0 G vs ds) (n : F0 a = none) : ∃ G', Sep ms H0 G' H (cs.eraseIdx i) ∧ Same G G' ∧ Fr F0 G' (.ref a) (.list ds) :=
  ⟨_, S.fix i h hm, sNew (S.gnone i h), .lst upd_same n (f.same (sNew (S.gnone i h)))⟩
theorem q_lcL {J : It} {Gd : Hp → Prop} {Y : Nat → Hp → V → Hp → Prop} {g : TG} {σ : L2.St} {f : α → Option (Option β)} {xs : List α} {ys : List β} {enc : β → PyData} {A : Addr} {Qd : Hp → Prop} {tt : TT} {te : TE} {vs : List Nat}
    (hf : compL f xs = some ys) (w : Walk J xs.length Gd Y) (S0 : Sep ms H0 G H cs) (hA : H A = none) (hF : ∀ b, H b = none → F0 b = none)
    (hg : ∀ G' H' acc, Sep ms H0 G' H' ((A, .lst acc) :: cs) → Same G G' → Gd H')
    (hs : ∀ i x a o G1 H1 H2 acc, xs[i]? = some a → f a = some o → Sep ms H0 G1 H1 ((A, .lst acc) :: cs) → Same G G1 → Y i H1 x H2 →
      ∀ (T : V → Hp → Prop) (F : Hp → Prop), (∀ y b G' H', o = some b → Sep ms H0 G' H' ((A, .lst acc) :: cs) → Same G1 G' → Fr F0 G' y (enc b) → T y H') → (∀ G' H', o = none → Sep ms H0 G' H' ((A, .lst acc) :: cs) → Same G1 G' → F H') →
      g x (wipe σ vs) H2 fun σ2 H2 => wipe σ2 vs = wipe σ vs ∧ tt σ2 H2 fun b H3 => if b = true then te σ2 H3 T else F H3)
    (hd : ∀ G' H' us, Sep ms H0 G' H' ((A, .lst us) :: cs) → Same G G' → FrL F0 G' us (ys.map enc) → H0 A = none → F0 A = none → Qd H') : LcG J g tt te vs σ H A Qd := by
  unfold compL at hf
  obtain ⟨h1, h2⟩ := grd hf
  exact q_lc h2 (of_decide_eq_true h1) w S0 hA hF hg hs hd
end
end LQ

/-! sorted, sets, join, sums. -/
namespace LQ
open PySem PySem.Spec PyProof.Rows L2 LX
def leS (x y : Str) : Bool := decide (x.cps.toList ≤ y.cps.toList)
def sortU (ks : List Str) : List Str := (dd ks).mergeSort leS
def sortS (ks : List Str) : List Str := ks.mergeSort leS
def sortUI (ks : List Int) : List Int := (dd ks).mergeSort
/-- what a set may be made of -/
def setSF {α : Type} (ks : List α) : Option (List α) := cond (decide (ks.length ≤ 4000)) (some ks) none
def countD {α : Type} [DecidableEq α] (ks : List α) : Int := ((dd ks).length : Int)
theorem str_ext {x y : Str} (h : x.cps.toList = y.cps.toList) : x = y := by
  obtain ⟨a⟩ := x
  obtain ⟨b⟩ := y
  congr 1
  exact Array.toList_inj.mp h
theorem leS_trans (a b c : Str) (h : leS a b = true) (k : leS b c = true) : leS a c = true := by
  unfold leS at *
  rw [decide_eq_true_iff] at *
  exact List.le_trans h k
theorem leS_total (a b : Str) : (leS a b || leS b a) = true := by
  unfold leS
  rw [Bool.or_eq_true, decide_eq_true_iff, decide_eq_true_iff]
  exact List.le_total _ _
theorem leS_anti {a b : Str} (h : leS a b = true) (k : leS b a = true) : a = b := by
  unfold leS at *
  rw [decide_eq_true_iff] at *
  exact str_ext (List.le_antisymm h k)
theorem rising_pw : ∀ (l : List Str) (p : Str), risingS p l = true → (p :: l).Pairwise fun a b => leS a b = true
  | [], p, _ => List.pairwise_singleton _ _
  | x :: l, p, h => by
    have h1 : (!ltCps x.cps.toList p.cps.toList && risingS x l) = true := h
    rw [Bool.and_eq_true, Bool.not_eq_true'] at h1
    have ih := rising_pw l x h1.2
    have px : leS p x = true := by
      unfold leS
      rw [decide_eq_true_iff]
      refine List.not_lt.mp fun z => ?_
      have := h1.1
      rw [ltCps_eq, decide_eq_false_iff_not] at this
      exact this z
    refine List.pairwise_cons.mpr ⟨fun y hy => ?_, ih⟩
    rcases List.mem_cons.mp hy with rfl | hy
    · exact px
    · exact leS_trans _ _ _ px ((List.pairwise_cons.mp ih).1 y hy)
theorem sorted_pw {l : List Str} (h : sortedS l = true) : l.Pairwise fun a b => leS a b = true := by
  cases l with
  | nil => exact .nil
  | cons x l => exact rising_pw l x h
theorem sortU_is {ks ys : List Str} (h1 : ys.Pairwise fun a b => leS a b = true) (h2 : ys.Nodup) (h3 : ∀ k, k ∈ ys ↔ k ∈ ks) : ys = sortU ks := by
  refine List.Perm.eq_of_pairwise (le := fun a b => leS a b = true) (fun a b _ _ x y => leS_anti x y) h1 (List.pairwise_mergeSort leS_trans leS_total _) ?_
  refine ((List.perm_ext_iff_of_nodup h2 (dd_nodup ks)).mpr fun k => ?_).trans (List.mergeSort_perm _ _).symm
  rw [h3, mem_dd]
theorem sortUI_is {ks ys : List Int} (h1 : ys.Pairwise (· < ·)) (h3 : ∀ k, k ∈ ys ↔ k ∈ ks) : ys = sortUI ks := by
  have p := List.pairwise_mergeSort (le := fun a b : Int => decide (a ≤ b)) (fun a b c h k => by rw [decide_eq_true_iff] at *; omega) (fun a b => by rw [Bool.or_eq_true, decide_eq_true_iff, decide_eq_true_iff]; omega) (dd ks)
  refine List.Perm.eq_of_pairwise (le := fun a b : Int => decide (a ≤ b) = true) (fun a b _ _ x y => by rw [decide_eq_true_iff] at *; omega) (h1.imp fun h => by rw [decide_eq_true_iff]; omega) p ?_
  refine ((List.perm_ext_iff_of_nodup (h1.imp fun h => by omega) (dd_nodup ks)).mpr fun k => ?_).trans (List.mergeSort_perm _ _).symm
  rw [h3, mem_dd]
theorem sortI_is {ks ys : List Int} (h1 : ys.Pairwise (· ≤ ·)) (h3 : ys.Perm ks) : ys = sortI ks := by
  have p := List.pairwise_mergeSort (le := fun a b : Int => decide (a ≤ b)) (fun a b c h k => by rw [decide_eq_true_iff] at *; omega) (fun a b => by rw [Bool.or_eq_true, decide_eq_true_iff, decide_eq_true_iff]; omega) ks
  exact List.Perm.eq_of_pairwise (le := fun a b : Int => decide (a ≤ b) = true) (fun a b _ _ x y => by rw [decide_eq_true_iff] at *; omega) (h1.imp fun h => by rw [decide_eq_true_iff]; omega) p (h3.trans (List.mergeSort_perm _ _).symm)
section
variable {ms : List Addr} {F0 H0 G G' H H' : Hp} {cs : List (Addr × HO)} {a b : Addr} {vs : List V} {K : PySem.W.Frag} {P : Program} {w : World} {Q : VK} {d : PyData}
theorem q_sortI {l : List Int} (h : H a = some (.lst vs)) (f : FrL F0 G vs (l.map eI)) (q : zNew ((sortI l).map V.int) H Q) : rSortedI K [.ref a] H Q := by
  rw [frl_ints f] at h
  refine ⟨a, l, rfl, SqL.of h, fun ns' p pm pw np => ?_⟩
  rw [sortI_is pw pm]
  exact q p np
theorem repr_ok {s : Str} (h : reprF d = some s) : d.showable = true ∧ d.hasDict = false ∧ d.depth ≤ 20 ∧ d.shown.length ≤ sizeLine ∧ d.shown = s := by
  unfold reprF at h
  obtain ⟨h1, h2⟩ := grd h
  rw [Bool.and_eq_true, Bool.and_eq_true, Bool.and_eq_true, Bool.not_eq_true', decide_eq_true_iff, decide_eq_true_iff] at h1
  exact ⟨h1.1.1.1, h1.1.1.2, h1.1.2, h1.2, som h2⟩
theorem q_repr {s : Str} (f : Fr F0 H (.ref a) d) (h : reprF d = some s) (q : Q (.str s) H) : qRepr K [.ref a] H Q := by
  obtain ⟨h1, h2, h3, h4, h5⟩ := repr_ok h
  exact ⟨_, d, rfl, ⟨a, rfl⟩, f.dp h2, h1, h2, h3, h4, by rw [h5]; exact q⟩
def zJoin (K : PySem.W.Frag) : V → List V → Hp → VK → Prop := fun x xs H Q => ∃ a p, ∃ ys : List Str, x = .str a ∧ xs = [.ref p] ∧ (SqL K H p (ys.map V.str) ∨ SqT K H p (ys.map V.str)) ∧
  (ys.map (·.length)).sum + ys.length * a.length ≤ 16777216 ∧ Q (.str (Txt.join a ys)) H
theorem kjoin {X : Cx} (h : X.K = K := by rfl) : MtR X "str.join" (zJoin K) := h ▸ mt_join
theorem q_join {z r : Str} {l : List Str} (h : H a = some (.lst vs)) (f : FrL F0 G vs (l.map eS)) (k : joinF z l = some r) (q : Q (.str r) H) : zJoin K (.str z) [.ref a] H Q := by
  rw [frl_strs f] at h
  unfold joinF at k
  obtain ⟨h1, h2⟩ := grd k
  cases som h2
  exact ⟨z, a, l, rfl, rfl, Or.inl (SqL.of h), of_decide_eq_true h1, q⟩
theorem q_sum {l : List Int} (h : H a = some (.lst vs)) (f : FrL F0 G vs (l.map eI)) (q : Q (.int l.sum) H) : rSum K [.ref a] H Q := by
  rw [frl_ints f] at h
  exact ⟨a, l, rfl, SqL.of h, q⟩
theorem q_all {l : List Bool} (h : H a = some (.lst vs)) (f : FrL F0 G vs (l.map eB)) (q : Q (.bl (l.all id)) H) : rAll K [.ref a] H Q := by
  rw [frl_bls f] at h
  exact ⟨a, l, rfl, SqL.of h, q⟩
theorem q_any {l : List Bool} (h : H a = some (.lst vs)) (f : FrL F0 G vs (l.map eB)) (q : Q (.bl (l.any id)) H) : rAny K [.ref a] H Q := by
  rw [frl_bls f] at h
  exact ⟨a, l, rfl, SqL.of h, q⟩
/-- a set of texts, of ints -/
structure SetS (P : Program) (w : World) (G : Hp) (a : Addr) (ks : List Str) : Prop where
  at_ : G a = some (TxtSet P w a (fun k => decide (k ∈ ks)) (dd ks).length)
structure SetI (P : Program) (w : World) (G : Hp) (a : Addr) (ks : List Int) : Prop where
  at_ : G a = some (IntSet P w a (fun k => decide (k ∈ ks)) (dd ks).length)
theorem SetS.same {ks : List Str} (h : SetS P w G a ks) (s : Same G G') : SetS P w G' a ks := ⟨s _ _ h.at_⟩
theorem SetI.same {ks : List Int} (h : SetI P w G a ks) (s : Same G G') : SetI P w G' a ks := ⟨s _ _ h.at_⟩
theorem setS_ok {α : Type} {l ks : List α} (h : setSF l = some ks) : l.length + 1 < 4096 ∧ ks = l := by
  unfold setSF at h
  obtain ⟨h1, h2⟩ := grd h
  have := of_decide_eq_true h1
  exact ⟨by omega, (som h2).symm⟩
theorem q_setS {l ks : List Str} (S : Sep ms H0 G H cs) (h : H a = some (.lst vs)) (f : FrL F0 G vs (l.map eS)) (k : setSF l = some ks) (q : ∀ p G' H', Sep ms H0 G' H' cs → Same G G' → SetS P w G' p ks → Q (.ref p) H') : rSetS K P w [.ref a] H Q := by
  rw [frl_strs f] at h
  obtain ⟨h1, rfl⟩ := setS_ok k
  exact ⟨ks, Or.inl ⟨a, rfl, SqL.of h⟩, h1, fun p hp => q p _ _ (S.sh hp) (sNew (S.gfree hp)) ⟨upd_same⟩⟩
theorem q_setT {z : Str} {ks : List Str} (S : Sep ms H0 G H cs) (k : setSF (chars z) = some ks) (q : ∀ p G' H', Sep ms H0 G' H' cs → Same G G' → SetS P w G' p ks → Q (.ref p) H') : rSetS K P w [.str z] H Q := by
  obtain ⟨h1, rfl⟩ := setS_ok k
  exact ⟨_, Or.inr ⟨z, rfl, rfl⟩, h1, fun p hp => q p _ _ (S.sh hp) (sNew (S.gfree hp)) ⟨upd_same⟩⟩
theorem q_setI {l ks : List Int} (S : Sep ms H0 G H cs) (h : H a = some (.lst vs)) (f : FrL F0 G vs (l.map eI)) (k : setSF l = some ks) (q : ∀ p G' H', Sep ms H0 G' H' cs → Same G G' → SetI P w G' p ks → Q (.ref p) H') : rSetI K P w [.ref a] H Q := by
  rw [frl_ints f] at h
  obtain ⟨h1, rfl⟩ := setS_ok k
  exact ⟨ks, a, rfl, SqL.of h, h1, fun p hp => q p _ _ (S.sh hp) (sNew (S.gfree hp)) ⟨upd_same⟩⟩
theorem q_lenSetS {ks : List Str} (S : Sep ms H0 G H cs) (f : SetS P w G a ks) (q : Q (.int (countD ks)) H) : rLenSet P w [.ref a] H Q := ⟨a, _, rfl, Or.inl ⟨_, S.sub _ _ f.at_⟩, q⟩
theorem q_lenSetI {ks : List Int} (S : Sep ms H0 G H cs) (f : SetI P w G a ks) (q : Q (.int (countD ks)) H) : rLenSet P w [.ref a] H Q := ⟨a, _, rfl, Or.inr ⟨_, S.sub _ _ f.at_⟩, q⟩
theorem q_sortU {ks : List Str} (S : Sep ms H0 G H cs) (f : SetS P w G a ks) (q : zNew ((sortU ks).map V.str) H Q) : rSortTxt P w [.ref a] H Q := by
  refine ⟨a, _, _, rfl, S.sub _ _ f.at_, fun p ys np h1 h2 h3 _ => ?_⟩
  rw [sortU_is (sorted_pw h1) h2 fun k => (h3 k).trans decide_eq_true_iff]
  exact q p np
theorem q_sortUI {ks : List Int} (S : Sep ms H0 G H cs) (f : SetI P w G a ks) (q : zNew ((sortUI ks).map V.int) H Q) : rSortInt P w [.ref a] H Q := by
  refine ⟨a, _, _, rfl, S.sub _ _ f.at_, fun p ys np h1 h2 _ => ?_⟩
  rw [sortUI_is h1 fun k => (h2 k).trans decide_eq_true_iff]
  exact q p np
/-- a set comprehension of texts -/
abbrev ScG (P : Program) (w : World) (J : It) (g : TG) (tt : TT) (te : TE) (vs : List Nat) (σ : L2.St) (H1 : Hp) (D : Addr) (Qd : Hp → Prop) : Prop := ∃ W : Nat → Nat → Hp → Prop, (∃ m, W 0 m (upd H1 D (TxtSet P w D (fun _ => false) 0))) ∧ ∀ j m G, W j m G →
  (J.stop j G ∧ Qd G) ∨ (J.go j G ∧ ∃ Z : Hp → Prop, (∀ G', Z G' → ∃ m', m' < m ∧ W (j + 1) m' G') ∧ ∀ x G', J.yld j G x G' → g x (wipe σ vs) G' fun τ G2 => wipe τ vs = wipe σ vs ∧ tt τ G2 fun b G3 =>
    if b = true then te τ G3 fun y G4 => ∃ (c : Str) (S : Str → Bool) (n : Nat), y = .str c ∧ G4 D = some (TxtSet P w D S n) ∧ n + 1 < scanBound ∧ Z (upd G4 D (TxtSet P w D (fun k => S k || decide (k = c)) (if S c = true then n else n + 1))) else Z G3)
theorem txt_tup {p : Addr} {S : Str → Bool} {n : Nat} : ∀ xs, TxtSet P w p S n ≠ .tup xs := fun _ z => by cases z
theorem set_snoc (D : Addr) (ks : List Str) (c : Str) : TxtSet P w D (fun k => decide (k ∈ ks) || decide (k = c)) (if decide (c ∈ ks) = true then (dd ks).length else (dd ks).length + 1) = TxtSet P w D (fun k => decide (k ∈ ks ++ [c])) (dd (ks ++ [c])).length := by
  congr 1
  · funext k
    rw [Bool.eq_iff_iff, Bool.or_eq_true, decide_eq_true_iff, decide_eq_true_iff, decide_eq_true_iff, List.mem_append, List.mem_singleton]
  · rw [dd_snoc]
    by_cases h : c ∈ ks
    · rw [if_pos (decide_eq_true h), if_pos (mem_dd.mpr h)]
    · rw [if_neg (by rw [decide_eq_false h]; decide), if_neg (fun z => h (mem_dd.mp z)), List.length_append]
      rfl
def ocons {β : Type} : Option β → List β → List β
  | none, zs => zs
  | some y, zs => y :: zs
theorem compF_drop {α β : Type} {f : α → Option (Option β)} {xs : List α} {i : Nat} {a : α} {ys : List β} (hi : xs[i]? = some a) (h : compF f (xs.drop i) = some ys) :
    ∃ o zs, f a = some o ∧ compF f (xs.drop (i + 1)) = some zs ∧ ys = ocons o zs := by
  rw [drop_of hi] at h
  obtain ⟨p, h1, h2⟩ := bnd h
  obtain ⟨q, h3, h4⟩ := bnd h2
  cases h4
  refine ⟨p, q, h1, h3, ?_⟩
  cases p <;> rfl
def compT {α : Type} (f : α → Option (Option Str)) (l : List α) : Option (List Str) := cond (decide (l.length ≤ 4000)) (compF f l) none
theorem compF_len {α β : Type} {f : α → Option (Option β)} {xs : List α} {ys : List β} (h : compF f xs = some ys) : ys.length ≤ xs.length := compS_len (compF_S h)
theorem q_scT {α : Type} {J : It} {Gd : Hp → Prop} {Y : Nat → Hp → V → Hp → Prop} {g : TG} {σ : L2.St} {f : α → Option (Option Str)} {xs : List α} {ys : List Str} {A : Addr} {Qd : Hp → Prop} {tt : TT} {te : TE} {vs : List Nat}
    (hf : compT f xs = some ys) (w0 : Walk J xs.length Gd Y) (S0 : Sep ms H0 G H cs) (hA : H A = none)
    (hg : ∀ G' H' o, Sep ms H0 G' H' ((A, o) :: cs) → Same G G' → Gd H')
    (hs : ∀ i x a o G1 H1 H2 u, xs[i]? = some a → f a = some o → Sep ms H0 G1 H1 ((A, u) :: cs) → Same G G1 → Y i H1 x H2 →
      ∀ (T : V → Hp → Prop) (F : Hp → Prop), (∀ b G' H', o = some b → Sep ms H0 G' H' ((A, u) :: cs) → Same G1 G' → T (.str b) H') → (∀ G' H', o = none → Sep ms H0 G' H' ((A, u) :: cs) → Same G1 G' → F H') →
      g x (wipe σ vs) H2 fun σ2 H2 => wipe σ2 vs = wipe σ vs ∧ tt σ2 H2 fun b H3 => if b = true then te σ2 H3 T else F H3)
    (hd : ∀ G' H', Sep ms H0 G' H' cs → Same G G' → SetS P w G' A ys → Qd H') : ScG P w J g tt te vs σ H A Qd := by
  unfold compT at hf
  obtain ⟨hz, hf⟩ := grd hf
  have hz := of_decide_eq_true hz
  have yl := compF_len hf
  refine ⟨fun i m H' => m = xs.length - i ∧ i ≤ xs.length ∧ ∃ zs ws G', compF f (xs.drop i) = some zs ∧ ys = ws ++ zs ∧ Sep ms H0 G' H' ((A, TxtSet P w A (fun k => decide (k ∈ ws)) (dd ws).length) :: cs) ∧ Same G G',
    ⟨_, rfl, Nat.zero_le _, ys, [], G, hf, rfl, ?_, Same.refl _⟩, ?_⟩
  · have e : TxtSet P w A (fun _ => false) 0 = TxtSet P w A (fun k => decide (k ∈ ([] : List Str))) (dd ([] : List Str)).length := by
      congr 1
    rw [← e]
    exact S0.own hA txt_tup
  rintro i m H1 ⟨rfl, hi, zs, ws, G1, hl, rfl, S1, s1⟩
  have q := hg G1 H1 _ S1 s1
  by_cases hlt : i < xs.length
  · obtain ⟨o, zs2, h1, h2, h3⟩ := compF_drop (List.getElem?_eq_getElem hlt) hl
    refine .inr ⟨w0.goes i H1 hlt q, fun H' => ∃ zs ws' G', compF f (xs.drop (i + 1)) = some zs ∧ ws ++ ocons o zs2 = ws' ++ zs ∧ Sep ms H0 G' H' ((A, TxtSet P w A (fun k => decide (k ∈ ws')) (dd ws').length) :: cs) ∧ Same G G', ?_, ?_⟩
    · rintro H' ⟨zs3, ws', G', k1, k2, k3, k4⟩
      exact ⟨xs.length - (i + 1), by omega, rfl, hlt, zs3, ws', G', k1, by rw [h3]; exact k2, k3, k4⟩
    · intro x H2 y
      refine hs i x _ o G1 H1 H2 _ (List.getElem?_eq_getElem hlt) h1 S1 s1 (w0.yields i H1 x H2 hlt q y) _ _ (fun b G' H' e S' sG => ?_) fun G' H' e S' sG => ?_
      · subst e
        have lw : ws.length ≤ xs.length := by
          rw [h3, List.length_append] at yl
          omega
        have ld := dd_le ws
        refine ⟨b, _, _, rfl, S'.get 0 rfl, by unfold scanBound; omega, zs2, ws ++ [b], G', h2, by rw [List.append_assoc]; rfl, ?_, s1.trans sG⟩
        rw [set_snoc]
        exact S'.put 0 rfl txt_tup
      · subst e
        exact ⟨zs2, ws, G', h2, rfl, S', s1.trans sG⟩
  · have e : i = xs.length := by omega
    subst e
    rw [List.drop_length] at hl
    cases hl
    rw [List.append_nil] at hd
    have S2 := S1.fix 0 rfl
    by_cases hm : A ∈ ms
    · exact absurd (S0.old A hA) (S0.hms A hm)
    · exact .inl ⟨w0.stops H1 q, hd _ H1 (S2 hm) (s1.trans (sNew (S1.gnone 0 rfl))) ⟨upd_same⟩⟩
theorem rd_scT' {wi : TI} {g : TG} {tt : TT} {te : TE} {vs : List Nat} {σ : L2.St} (q : wi σ H fun J G1 => ∀ D, G1 D = none → ScG P w J g tt te vs σ G1 D fun G => Q (.ref D) G) : tScT P w wi g tt te vs σ H Q := q
end
end LQ

/-! More of what is owned: starts, arguments, results that are owned. -/
namespace LQ
open PySem L2 LX
theorem rd_lst_dk {G : Hp} {a : Addr} {xs : List V} {kvs : List (Key × V)} (h : G a = some (.lst xs)) : ¬ Rd G a (.dK kvs) := by
  rintro (k | ⟨o, k⟩) <;> (rw [h] at k; cases k)
theorem rd_tup_dk {G : Hp} {a : Addr} {xs : List V} {kvs : List (Key × V)} (h : G a = some (.tup xs)) : ¬ Rd G a (.dK kvs) := by
  rintro (k | ⟨o, k⟩) <;> (rw [h] at k; cases k)
theorem rd_dk {G : Hp} {a : Addr} {kvs kvs' : List (Key × V)} (h : Rd G a (.dK kvs)) (k : Rd G a (.dK kvs')) : kvs = kvs' := by
  rcases h with h | ⟨o, h⟩ <;> rcases k with k | ⟨o', k⟩ <;> (rw [h] at k; cases k) <;> rfl
mutual
theorem Fr.fn {F0 F1 G : Hp} : ∀ {v : V} {d e : PyData}, Fr F0 G v d → Fr F1 G v e → d = e
  | _, _, _, .non, .non => rfl
  | _, _, _, .bl b, .bl _ => rfl
  | _, _, _, .int i, .int _ => rfl
  | _, _, _, .str x, .str _ => rfl
  | _, _, _, .lst h _ hs, .lst k _ ks => by
    rw [h] at k
    cases k
    rw [FrL.fn hs ks]
  | _, _, _, .lst h _ _, .tup k _ => by
    rw [h] at k
    cases k
  | _, _, _, .lst h _ _, .dic k _ _ => absurd k (rd_lst_dk h)
  | _, _, _, .tup h _, .lst k _ _ => by
    rw [h] at k
    cases k
  | _, _, _, .tup h hs, .tup k ks => by
    rw [h] at k
    cases k
    rw [FrL.fn hs ks]
  | _, _, _, .tup h _, .dic k _ _ => absurd k (rd_tup_dk h)
  | _, _, _, .dic h _ _, .lst k _ _ => absurd h (rd_lst_dk k)
  | _, _, _, .dic h _ _, .tup k _ => absurd h (rd_tup_dk k)
  | _, _, _, .dic h _ hs, .dic k _ ks => by
    cases rd_dk h k
    rw [FrK.fn hs ks]
theorem FrL.fn {F0 F1 G : Hp} : ∀ {vs : List V} {d e : List PyData}, FrL F0 G vs d → FrL F1 G vs e → d = e
  | _, _, _, .nil, .nil => rfl
  | _, _, _, .cons h hs, .cons k ks => by rw [Fr.fn h k, FrL.fn hs ks]
theorem FrK.fn {F0 F1 G : Hp} : ∀ {vs : List (Key × V)} {d e : List (PyData × PyData)}, FrK F0 G vs d → FrK F1 G vs e → d = e
  | _, _, _, .nil, .nil => rfl
  | _, _, _, .cons h hs, .cons k ks => by rw [Fr.fn h k, FrK.fn hs ks]
end
mutual
theorem Fr.off {F0 F1 G : Hp} {a : Addr} {D : PyData} (A : Fr F1 G (.ref a) D) : ∀ {v : V} {d : PyData}, Fr F0 G v d → sizeOf d < sizeOf D → Fr F0 (hid G [a]) v d
  | _, _, .non, _ => .non
  | _, _, .bl b, _ => .bl b
  | _, _, .int i, _ => .int i
  | _, _, .str x, _ => .str x
  | _, _, .lst (a := b) (ds := ds) h n hs, z => by
    have ne : b ∉ [a] := fun q => by
      rw [List.mem_singleton.mp q] at h
      have : Fr F1 G (.ref a) D := A
      have e := Fr.fn (F0 := F1) (F1 := E0h) A (.lst h rfl hs.rp)
      rw [e] at z
      omega
    exact .lst (by rw [hid_out ne]; exact h) n (FrL.off A hs (by simp at z; omega))
  | _, _, .tup (a := b) (ds := ds) h hs, z => by
    have ne : b ∉ [a] := fun q => by
      rw [List.mem_singleton.mp q] at h
      have e := Fr.fn (F0 := F1) (F1 := E0h) A (.tup h hs.rp)
      rw [e] at z
      omega
    exact .tup (by rw [hid_out ne]; exact h) (FrL.off A hs (by simp at z; omega))
  | _, _, .dic (a := b) (ds := ds) h n hs, z => by
    have ne : b ∉ [a] := fun q => by
      rw [List.mem_singleton.mp q] at h
      have e := Fr.fn (F0 := F1) (F1 := F0) A (.dic h (List.mem_singleton.mp q ▸ n) hs)
      rw [e] at z
      omega
    exact .dic (by unfold Rd; rw [hid_out ne]; exact h) n (FrK.off A hs (by simp at z; omega))
theorem FrL.off {F0 F1 G : Hp} {a : Addr} {D : PyData} (A : Fr F1 G (.ref a) D) : ∀ {v : List V} {d : List PyData}, FrL F0 G v d → sizeOf d < sizeOf D → FrL F0 (hid G [a]) v d
  | _, _, .nil, _ => .nil
  | _, _, .cons h hs, z => .cons (Fr.off A h (by simp at z; omega)) (FrL.off A hs (by simp at z; omega))
theorem FrK.off {F0 F1 G : Hp} {a : Addr} {D : PyData} (A : Fr F1 G (.ref a) D) : ∀ {v : List (Key × V)} {d : List (PyData × PyData)}, FrK F0 G v d → sizeOf d < sizeOf D → FrK F0 (hid G [a]) v d
  | _, _, .nil, _ => .nil
  | _, _, .cons h hs, z => .cons (Fr.off A h (by simp at z; omega)) (FrK.off A hs (by simp at z; omega))
end
section
variable {ms : List Addr} {H0 F0 G G1 H H' : Hp} {cs : List (Addr × HO)} {p q a : Addr} {o o' : HO} {vs us : List V} {ds : List PyData}
theorem Sep.start1 (h : H p = some (.lst us)) : Sep [p] H (hid H [p]) H [(p, .lst us)] :=
  Sep.startM H [(p, .lst us)] (fun c hc => by
    rw [List.mem_singleton.mp hc]
    exact ⟨h, lst_tup⟩) (List.nodup_cons.mpr ⟨List.not_mem_nil, List.nodup_nil⟩)
theorem Sep.start2 (h : H p = some (.lst us)) (k : H q = some (.lst vs)) (n : p ≠ q) : Sep [p, q] H (hid H [p, q]) H [(p, .lst us), (q, .lst vs)] :=
  Sep.startM H [(p, .lst us), (q, .lst vs)] (fun c hc => by
    rcases List.mem_cons.mp hc with z | z
    · rw [z]
      exact ⟨h, lst_tup⟩
    · rw [List.mem_singleton.mp z]
      exact ⟨k, lst_tup⟩) (List.nodup_cons.mpr ⟨fun z => n (List.mem_singleton.mp z), List.nodup_cons.mpr ⟨List.not_mem_nil, List.nodup_nil⟩⟩)
theorem Sep.hid1 (S : Sep ms H0 G H cs) (i : Nat) (h : cs[i]? = some (p, o)) : Same G (hid H [p]) := S.hidS fun b hb => by
  rw [List.mem_singleton.mp hb]
  exact S.gnone i h
theorem Sep.rdh (S : Sep ms H0 G H cs) (j : Nat) (hj : cs[j]? = some (q, .lst vs)) (i : Nat) (hi : cs[i]? = some (p, o)) (n : j ≠ i) (f : FrL F0 G vs ds) : Fr E0h (hid H [p]) (.ref q) (.list ds) :=
  .lst (by rw [hid_out fun z => S.ne hj hi n (List.mem_singleton.mp z)]; exact S.get j hj) rfl ((f.rp).same (S.hid1 i hi))
theorem Sep.ret0O (S : Sep ms H0 G H cs) (R : Ret [] H G1 H') (f : Fr H G1 (.ref a) (.list ds)) : ∃ G' vs, Sep ms H0 G' H' ((a, .lst vs) :: cs) ∧ Same G G' ∧ H0 a = none ∧ FrL H0 G' vs ds := by
  obtain ⟨G2, S2, s2, t2, _⟩ := S.ret0 R
  have f2 := t2 _ _ f
  obtain ⟨vs, h1, h2⟩ := li f2
  have n0 := li0 f2
  have ga : G a = none := S.gfree (li0 f)
  have out : ∀ b, b ≠ a → hid G2 [a] b = G2 b := fun b hb => hid_out fun z => hb (List.mem_singleton.mp z)
  refine ⟨hid G2 [a], vs, ⟨fun b o e => S2.sub b o (hid_some e).2, fun c hc => ?_, List.nodup_cons.mpr ⟨fun z => ?_, S2.nd⟩, fun p hp => List.mem_cons_of_mem _ (S2.msc p hp), S2.hms, S2.old, fun b o e n => ?_, fun b xs e => ?_⟩, fun b o e => ?_, n0, FrL.off f2 h2 (by simp)⟩
  · rcases List.mem_cons.mp hc with z | z
    · rw [z]
      exact ⟨S2.sub _ _ h1, hid_in (List.mem_singleton.mpr rfl), lst_tup⟩
    · obtain ⟨k1, k2, k3⟩ := S2.cel c z
      refine ⟨k1, ?_, k3⟩
      by_cases e : c.1 = a
      · exact hid_in (List.mem_singleton.mpr e)
      · rw [out _ e]
        exact k2
  · obtain ⟨c, hc, e⟩ := List.mem_map.mp z
    have := (S2.cel c hc).2.1
    rw [e, h1] at this
    cases this
  · rw [out b fun z => by rw [z, n0] at e; cases e]
    exact S2.base b o e n
  · have g := S2.tups b xs e
    rw [out b fun z => by rw [z, h1] at g; cases g]
    exact g
  · rw [out b fun z => by rw [z, ga] at e; cases e]
    exact s2 b o e
end
end LQ

/-! The script; sorted rows; counts; things looked for in lists; dicts that are read. -/
namespace LQ
open PySem PySem.Spec PyProof.Rows L2 LX
section
variable {ms : List Addr} {F0 H0 G G' H H' : Hp} {cs : List (Addr × HO)} {a b : Addr} {vs us : List V} {K : PySem.W.Frag} {P : Program} {w : World} {Q : VK} {d : PyData} {v x y : V} {α β : Type} {e : α → PyData}
/-! ### the script -/
theorem q_slScr {lo hi : Option Int} {ns : List Int} (S : Sep ms H0 G H cs) (f : Scr K G a ns) (q : ∀ p G' H', Sep ms H0 G' H' cs → Same G G' → Fr H0 G' (.ref p) (eL eI (cutL ns lo hi)) → Q (.ref p) H') : rSlL K (.ref a) lo hi H Q := by
  refine ⟨a, _, rfl, (f.same S.sub).seq, ?_⟩
  rw [cutL_map]
  exact q_new S (ints_frl _) S.old q
theorem q_slScrO {lo hi : Option Int} {ns : List Int} (S : Sep ms H0 G H cs) (f : Scr K G a ns) (q : ∀ p us H', Sep ms H0 G H' ((p, .lst us) :: cs) → H0 p = none → FrL H0 G us ((cutL ns lo hi).map eI) → Q (.ref p) H') : rSlL K (.ref a) lo hi H Q := by
  refine ⟨a, _, rfl, (f.same S.sub).seq, ?_⟩
  rw [cutL_map]
  exact q_newO S fun p H' S' n => q p _ H' S' n (ints_frl _)
theorem q_lenScr {ns : List Int} (S : Sep ms H0 G H cs) (f : Scr K G a ns) (q : Q (.int (lenI ns)) H) : qLen K [.ref a] H Q :=
  ⟨a, _, rfl, Or.inl (f.same S.sub).seq, by rw [List.length_map]; exact q⟩
theorem q_catScr {ns ms' r : List Int} (S : Sep ms H0 G H cs) (f : Scr K G a ns) (hb : H b = some (.lst us)) (f2 : FrL F0 G us (ms'.map eI)) (h : catF ns ms' = some r) (q : ∀ p G' H', Sep ms H0 G' H' cs → Same G G' → Fr H0 G' (.ref p) (eL eI r) → Q (.ref p) H') : rCatL K (.ref a) (.ref b) H Q := by
  obtain ⟨h1, rfl⟩ := cat_ok h
  refine ⟨a, b, _, us, rfl, rfl, (f.same S.sub).seq, SqL.of hb, lim_le (by rw [List.length_map, f2.len, List.length_map]; exact h1), ?_⟩
  rw [frl_ints f2, ← List.map_append]
  exact q_new S (ints_frl _) S.old q
theorem q_catL {ns ms' r : List Int} {F1 : Hp} (S : Sep ms H0 G H cs) (ha : H a = some (.lst vs)) (f : FrL F1 G vs (ns.map eI)) (hb : H b = some (.lst us)) (f2 : FrL F0 G us (ms'.map eI)) (h : catF ns ms' = some r) (q : ∀ p G' H', Sep ms H0 G' H' cs → Same G G' → Fr H0 G' (.ref p) (eL eI r) → Q (.ref p) H') : rCatL K (.ref a) (.ref b) H Q := by
  obtain ⟨h1, rfl⟩ := cat_ok h
  refine ⟨a, b, vs, us, rfl, rfl, SqL.of ha, SqL.of hb, lim_le (by rw [f.len, f2.len, List.length_map, List.length_map]; exact h1), ?_⟩
  rw [frl_ints f, frl_ints f2, ← List.map_append]
  exact q_new S (ints_frl _) S.old q
theorem q_ixScr {ns : List Int} {i x : Int} (S : Sep ms H0 G H cs) (f : Scr K G a ns) (h : ix ns i = some x) (q : Q (.int x) H) : rIxL K (.ref a) (.int i) H Q := by
  refine ⟨a, _, i, _, rfl, rfl, (f.same S.sub).seq, ?_, q⟩
  unfold ix atI at h
  obtain ⟨j, h1, h2⟩ := Option.bind_eq_some_iff.mp h
  unfold atI
  rw [List.length_map, h1]
  show (ns.map V.int)[j]? = _
  rw [List.getElem?_map, h2]
  rfl
theorem q_eqScr {ns : List Int} {m : List Int} {c : Bool} (S : Sep ms H0 G H cs) (f : Scr K G a ns) (g : Fr F0 H y (eL eI m)) (h : eqvF (eL eI ns) (eL eI m) = some c) (q : Q (.bl c) H) : rEqD K (.ref a) y H Q := by
  obtain ⟨h1, h2, h3, h4, h5⟩ := eqv_ok h
  exact ⟨_, _, .lst (f.same S.sub).seq (dp_ints ns), g.dp h4, h1, h2, by rw [h5]; exact q⟩
theorem w_scr {ns : List Int} (f : Scr K G a ns) : Walk (Itl K a) ns.length (fun H => SqL K H a (ns.map V.int)) (fun i H v H' => H' = H ∧ ∀ x, ns[i]? = some x → v = .int x) := by
  have h : ns.length = (ns.map V.int).length := by rw [List.length_map]
  rw [h]
  refine walk_list.mono (fun _ h => h) fun i H x H' _ _ y => ⟨y.1, fun z hz => ?_⟩
  have := y.2
  rw [List.getElem?_map, hz] at this
  exact (Option.some.inj this).symm
/-! ### sorted rows -/
abbrev encIS (e : Int × Str) : List PyData := [.int e.1, .str e.2]
theorem srtIS : Srt1 encIS where
  alike := fun x y => by simp [PySem.W.alike, PySem.W.alikeAll]
  first := fun x => ⟨_, _, rfl⟩
  flat := fun x => by simp [PyData.depth, PyData.depthAll]
def leIS (x y : Int × Str) : Bool := leD encIS x y
theorem leIS_is (x y : Int × Str) : leIS x y = if y.1 = x.1 then (if y.2 = x.2 then true else !decide (y.2.cps.toList < x.2.cps.toList)) else !decide (y.1 < x.1) := by
  show (!PySem.W.dataLt (.tuple (encIS y)) (.tuple (encIS x))) = _
  rw [PySem.W.dataLt_pair (by simp [PySem.W.alike]) (by simp [PySem.W.alike]), PySem.W.dataLt_int, PySem.W.dataLt_str]
  simp only [PyData.eqv, beq_iff_eq]
  by_cases h : y.1 = x.1
  · rw [if_pos h, if_pos h]
    by_cases k : y.2 = x.2
    · rw [if_pos k, if_pos k]
      rfl
    · rw [if_neg k, if_neg k]
  · rw [if_neg h, if_neg h]
theorem leIS_anti {x y : Int × Str} (h : leIS x y = true) (k : leIS y x = true) : x = y := by
  rw [leIS_is] at h k
  by_cases c : x.1 = y.1
  · rw [if_pos c.symm] at h
    rw [if_pos c] at k
    by_cases c2 : x.2 = y.2
    · exact Prod.ext c c2
    · rw [if_neg (fun z => c2 z.symm), Bool.not_eq_true', decide_eq_false_iff_not] at h
      rw [if_neg c2, Bool.not_eq_true', decide_eq_false_iff_not] at k
      exact absurd (str_ext (List.le_antisymm (List.not_lt.mp h) (List.not_lt.mp k))) c2
  · rw [if_neg (fun z => c z.symm), Bool.not_eq_true', decide_eq_false_iff_not] at h
    rw [if_neg c, Bool.not_eq_true', decide_eq_false_iff_not] at k
    omega
def sortR (l : List (Int × Str)) : List (Int × Str) := l.mergeSort leIS
def sortRF (l : List (Int × Str)) : Option (List (Int × Str)) := cond (decide (l.length ≤ 900)) (some (sortR l)) none
theorem sortR_pw (l : List (Int × Str)) : (sortR l).Pairwise fun x y => leIS x y = true := by
  have := PySem.W.sort_pairwise (PySem.W.sortLe_total (PyProof.Rows.listOrd PyProof.Rows.itemOrd) false fun b : Int × Str => PySem.W.keyToks (PyData.tuple (encIS b))) l
  exact this
theorem sortR_is {l ys : List (Int × Str)} (p : ys.Perm l) (h : ys.Pairwise fun x y => leIS x y = true) : ys = sortR l :=
  List.Perm.eq_of_pairwise (fun a b _ _ x y => leIS_anti x y) h (sortR_pw l) (p.trans (List.mergeSort_perm _ _).symm)
theorem frl_ts {l : List (Int × Str)} (f : FrL F0 G vs (l.map (eT2 eI eS))) : ∃ ts : List Addr, vs = ts.map V.ref ∧ TsAt (fun e : Int × Str => [.int e.1, .str e.2]) G ts l := by
  induction l generalizing vs with
  | nil =>
    cases f
    exact ⟨[], rfl, True.intro⟩
  | cons x l ih =>
    cases f with
    | cons f1 hs =>
      obtain ⟨ts, rfl, h⟩ := ih hs
      obtain ⟨t, rfl⟩ := fr_tup f1
      obtain ⟨v1, v2, h1, g1, g2⟩ := tu2 f1
      cases fr_int g1
      cases fr_str g2
      exact ⟨t :: ts, rfl, h1, h⟩
theorem ts_frl : ∀ {ts : List Addr} {l : List (Int × Str)}, TsAt (fun e : Int × Str => [.int e.1, .str e.2]) G ts l → FrL F0 G (ts.map V.ref) (l.map (eT2 eI eS))
  | [], [], _ => .nil
  | _ :: ts, _ :: l, h => .cons (.tup h.1 (.cons (.int _) (.cons (.str _) .nil))) (ts_frl (ts := ts) (l := l) h.2)
  | [], _ :: _, h => h.elim
  | _ :: _, [], h => h.elim
theorem ts_sub {m : α → List V} : ∀ {ts : List Addr} {l : List α}, TsAt m G ts l → Same G G' → TsAt m G' ts l
  | [], [], _, _ => True.intro
  | _ :: ts, _ :: l, h, s => ⟨s _ _ h.1, ts_sub (ts := ts) (l := l) h.2 s⟩
  | [], _ :: _, h, _ => h.elim
  | _ :: _, [], h, _ => h.elim
theorem ts_back {m : α → List V} (S : Sep ms H0 G H cs) : ∀ {us : List Addr} {ys : List α}, TsAt m H us ys → TsAt m G us ys
  | [], [], _ => True.intro
  | u :: us, _ :: ys, h => ⟨S.tups _ _ h.1, ts_back S (us := us) (ys := ys) h.2⟩
  | [], _ :: _, h => h.elim
  | _ :: _, [], h => h.elim
theorem q_sortR {l r : List (Int × Str)} (S : Sep ms H0 G H cs) (h : H a = some (.lst vs)) (f : FrL F0 G vs (l.map (eT2 eI eS))) (k : sortRF l = some r) (q : ∀ p G' H', Sep ms H0 G' H' cs → Same G G' → Fr H0 G' (.ref p) (eL (eT2 eI eS) r) → Q (.ref p) H') :
    rSortT (fun e : Int × Str => [.int e.1, .str e.2]) encIS K [.ref a] H Q := by
  unfold sortRF at k
  obtain ⟨k1, k2⟩ := grd k
  have k1 := of_decide_eq_true k1
  cases som k2
  obtain ⟨ts, rfl, ht⟩ := frl_ts f
  refine ⟨a, ts, l, rfl, SqL.of h, ts_sub ht S.sub, fun e => .cons (.int _) (.cons (.str _) .nil), by omega, fun p us ys hp pm pw hU => ?_⟩
  have e := sortR_is pm pw
  subst e
  exact q p _ _ (S.sh hp) (sNew (S.gfree hp)) (.lst upd_same (S.old p hp) (ts_frl (ts_sub (ts_back S hU) (sNew (S.gfree hp)))))
end
end LQ

/-! Dicts by what they hold. -/
namespace LQ
open PySem PySem.Spec PyProof.Rows L2 LX
abbrev kI (i : Int) : Key := .inl i
abbrev kS (s : Str) : Key := .inr s
theorem kI_inj (a b : Int) (h : kI a = kI b) : a = b := Sum.inl.inj h
theorem kS_inj (a b : Str) (h : kS a = kS b) : a = b := Sum.inr.inj h
section
variable {κ α : Type} [DecidableEq κ]
def dget (l : List (κ × α)) (k : κ) : Option α := (l.find? fun p => decide (p.1 = k)).map (·.2)
def dput (l : List (κ × α)) (k : κ) (x : α) : List (κ × α) := if (l.any fun p => decide (p.1 = k)) = true then l.map (fun p => if p.1 = k then (p.1, x) else p) else l ++ [(k, x)]
def dputF (l : List (κ × α)) (k : κ) (x : α) : Option (List (κ × α)) := cond (decide (l.length < LIM)) (some (dput l k x)) none
def dhas (l : List (κ × α)) (k : κ) : Bool := (dget l k).isSome
/-- later pairs win -/
def dmerge (l m : List (κ × α)) : List (κ × α) := m.foldl (fun acc p => dput acc p.1 p.2) l
def dkeys (l : List (κ × α)) : List κ := l.map (·.1)
end
@[reducible] def eD {κ α : Type} (kk : κ → Key) (e : α → PyData) (l : List (κ × α)) : PyData := .dict (l.map fun p => (dKey (kk p.1), e p.2))
section
variable {κ α : Type} [DecidableEq κ] {kk : κ → Key} {e : α → PyData} {F0 H0 G G' H H' : Hp} {kvs : List (Key × V)} {l : List (κ × α)} {k : κ} {x : α} {v y : V} {a b : Addr} {ms : List Addr} {cs : List (Addr × HO)} {Q : VK} {K : PySem.W.Frag}
theorem dkey_inj {k k' : Key} (h : dKey k = dKey k') : k = k' := by
  cases k <;> cases k' <;> simp [dKey] at h <;> rw [h]
theorem di {ds : List (PyData × PyData)} (f : Fr F0 G (.ref a) (.dict ds)) : ∃ kvs, Rd G a (.dK kvs) ∧ FrK F0 G kvs ds := by
  cases f with
  | dic h _ hs => exact ⟨_, h, hs⟩
theorem di0 {ds : List (PyData × PyData)} (f : Fr F0 G (.ref a) (.dict ds)) : F0 a = none := by
  cases f with
  | dic _ n _ => exact n
theorem frk_cons {p : κ × α} (f : FrK F0 G kvs ((p :: l).map fun p => (dKey (kk p.1), e p.2))) : ∃ v r, kvs = (kk p.1, v) :: r ∧ Fr F0 G v (e p.2) ∧ FrK F0 G r (l.map fun p => (dKey (kk p.1), e p.2)) := by
  rw [List.map_cons] at f
  generalize hd : (dKey (kk p.1), e p.2) = d at f
  cases f with
  | cons f1 hs =>
    injection hd with h1 h2
    rw [dkey_inj h1]
    exact ⟨_, _, rfl, h2 ▸ f1, hs⟩
theorem frk_len : ∀ {l : List (κ × α)} {kvs : List (Key × V)}, FrK F0 G kvs (l.map fun p => (dKey (kk p.1), e p.2)) → kvs.length = l.length
  | [], _, .nil => rfl
  | p :: l, _, f => by
    obtain ⟨v, r, rfl, _, hs⟩ := frk_cons f
    exact congrArg (· + 1) (frk_len hs)
theorem frk_keys : ∀ {l : List (κ × α)} {kvs : List (Key × V)}, FrK F0 G kvs (l.map fun p => (dKey (kk p.1), e p.2)) → kvs.map (·.1) = l.map fun p => kk p.1
  | [], _, .nil => rfl
  | p :: l, _, f => by
    obtain ⟨v, r, rfl, _, hs⟩ := frk_cons f
    rw [List.map_cons, List.map_cons, frk_keys hs]
theorem frk_get (hk : ∀ a b, kk a = kk b → a = b) : ∀ {l : List (κ × α)} {kvs : List (Key × V)}, FrK F0 G kvs (l.map fun p => (dKey (kk p.1), e p.2)) → (∃ x v, dget l k = some x ∧ valV kvs (kk k) = some v ∧ Fr F0 G v (e x)) ∨ (dget l k = none ∧ valV kvs (kk k) = none)
  | [], _, .nil => Or.inr ⟨rfl, rfl⟩
  | p :: l, _, f => by
    obtain ⟨v, r, rfl, f1, hs⟩ := frk_cons f
    by_cases c : p.1 = k
    · refine Or.inl ⟨p.2, v, ?_, valV_pos (congrArg kk c), f1⟩
      unfold dget
      rw [List.find?_cons_of_pos (by simpa using c)]
      rfl
    · have h1 : dget (p :: l) k = dget l k := by
        unfold dget
        rw [List.find?_cons_of_neg (by simpa using c)]
      have h2 : valV ((kk p.1, v) :: r) (kk k) = valV r (kk k) := valV_neg fun z => c (hk _ _ z)
      rw [h1, h2]
      exact frk_get hk hs
theorem frk_any (hk : ∀ a b, kk a = kk b → a = b) : ∀ {l : List (κ × α)} {kvs : List (Key × V)}, FrK F0 G kvs (l.map fun p => (dKey (kk p.1), e p.2)) → (kvs.any fun kv => decide (kv.1 = kk k)) = l.any fun p => decide (p.1 = k)
  | [], _, .nil => rfl
  | p :: l, _, f => by
    obtain ⟨v, r, rfl, f1, hs⟩ := frk_cons f
    rw [List.any_cons, List.any_cons, frk_any hk hs]
    congr 1
    by_cases c : p.1 = k
    · rw [decide_eq_true (congrArg kk c), decide_eq_true c]
    · rw [decide_eq_false fun z => c (hk _ _ z), decide_eq_false c]
theorem frk_app : ∀ {l m : List (κ × α)} {kvs lvs : List (Key × V)}, FrK F0 G kvs (l.map fun p => (dKey (kk p.1), e p.2)) → FrK F0 G lvs (m.map fun p => (dKey (kk p.1), e p.2)) → FrK F0 G (kvs ++ lvs) ((l ++ m).map fun p => (dKey (kk p.1), e p.2))
  | [], _, _, _, .nil, g => g
  | p :: l, m, _, _, f, g => by
    obtain ⟨v, r, rfl, f1, hs⟩ := frk_cons f
    exact .cons f1 (frk_app hs g)
theorem frk_put (hk : ∀ a b, kk a = kk b → a = b) (f : FrK F0 G kvs (l.map fun p => (dKey (kk p.1), e p.2))) (g : Fr F0 G v (e x)) : FrK F0 G (putK kvs (kk k) v) ((dput l k x).map fun p => (dKey (kk p.1), e p.2)) := by
  unfold L2.putK dput
  rw [frk_any hk f]
  split
  · rename_i hany
    clear hany
    induction l generalizing kvs with
    | nil =>
      cases f
      exact .nil
    | cons p l ih =>
      obtain ⟨w, r, rfl, f1, hs⟩ := frk_cons f
      rw [List.map_cons, List.map_cons, List.map_cons]
      by_cases c : p.1 = k
      · rw [if_pos c, if_pos (show ((kk p.1, w) : Key × V).1 = kk k from congrArg kk c)]
        exact .cons g (ih hs)
      · rw [if_neg c, if_neg (fun z => c (hk _ _ z))]
        exact .cons f1 (ih hs)
  · exact frk_app f (.cons g .nil)
theorem frk_merge (hk : ∀ a b, kk a = kk b → a = b) : ∀ {m l : List (κ × α)} {lvs kvs : List (Key × V)}, FrK F0 G kvs (l.map fun p => (dKey (kk p.1), e p.2)) → FrK F0 G lvs (m.map fun p => (dKey (kk p.1), e p.2)) → FrK F0 G (mergeK kvs lvs) ((dmerge l m).map fun p => (dKey (kk p.1), e p.2))
  | [], _, _, _, f, .nil => f
  | p :: m, l, _, kvs, f, g => by
    obtain ⟨v, r, rfl, f1, hs⟩ := frk_cons g
    have h := frk_merge (m := m) (l := dput l p.1 p.2) (kvs := L2.putK kvs (kk p.1) v) hk (frk_put (k := p.1) (x := p.2) hk f f1) hs
    exact h
theorem FrK.same {vs : List (Key × V)} {ds : List (PyData × PyData)} (h : FrK H0 H vs ds) (s : Same H H') : FrK H0 H' vs ds := h.move (fun _ _ e n => ⟨s _ _ e, n⟩) (fun _ _ e => s _ _ e) fun _ _ e n => ⟨rd_same e s, n⟩
theorem FrK.rp {vs : List (Key × V)} {ds : List (PyData × PyData)} (h : FrK H0 H vs ds) : FrK E0h H vs ds := h.move (fun _ _ e _ => ⟨e, rfl⟩) (fun _ _ e => e) fun _ _ e _ => ⟨e, rfl⟩
/-! readings -/
def zDGet (x y : V) (H : Hp) (Q : VK) : Prop := ∃ a v, x = .ref a ∧ DGet H a y (some v) ∧ Q v H
theorem rd_dget {td ty : TE} {σ : L2.St} (q : td σ H fun x H1 => ty σ H1 fun y H2 => zDGet x y H2 Q) : tDGet td ty σ H Q := q
def zDIn (y x : V) (H : Hp) (Q : VK) : Prop := ∃ a o, x = .ref a ∧ DGet H a y o ∧ Q (.bl o.isSome) H
def zDNotIn (y x : V) (H : Hp) (Q : VK) : Prop := ∃ a o, x = .ref a ∧ DGet H a y o ∧ Q (.bl (!o.isSome)) H
theorem rd_dinZ {td ty : TE} {σ : L2.St} (q : ty σ H fun y H1 => td σ H1 fun x H2 => zDIn y x H2 Q) : tDIn ty td σ H Q := q
theorem rd_dniZ {td ty : TE} {σ : L2.St} (q : ty σ H fun y H1 => td σ H1 fun x H2 => zDNotIn y x H2 Q) : tDNotIn ty td σ H Q := q
def zDPut (v x y : V) (H : Hp) (R : Hp → Prop) : Prop := ∃ a H4, x = .ref a ∧ DPut H a y v H4 ∧ R H4
theorem rd_dputZ {td ty tv : TE} {σ : L2.St} {D : Ends} (q : tv σ H fun v H1 => td σ H1 fun x H2 => ty σ H2 fun y H3 => zDPut v x y H3 fun H4 => D.nx σ H4) : sDPut td ty tv D σ H := q
theorem kV_I (i : Int) : kV (kI i) = .int i := rfl
theorem kV_S (i : Str) : kV (kS i) = .str i := rfl
theorem q_dget (hk : ∀ a b, kk a = kk b → a = b) (h : Rd H a (.dK kvs)) (f : FrK F0 G kvs (l.map fun p => (dKey (kk p.1), e p.2))) (ey : y = kV (kk k)) (hx : dget l k = some x) (q : ∀ v, Fr F0 G v (e x) → Q v H) : zDGet (.ref a) y H Q := by
  rcases frk_get (k := k) hk f with ⟨x', v, h1, h2, h3⟩ | ⟨h1, _⟩
  · rw [hx] at h1
    cases h1
    exact ⟨a, v, rfl, Or.inl ⟨kvs, kk k, h, ey, h2.symm⟩, q v h3⟩
  · rw [hx] at h1
    cases h1
theorem dhas_val (hk : ∀ a b, kk a = kk b → a = b) (f : FrK F0 G kvs (l.map fun p => (dKey (kk p.1), e p.2))) : (valV kvs (kk k)).isSome = dhas l k := by
  unfold dhas
  rcases frk_get (k := k) hk f with ⟨x', v, h1, h2, h3⟩ | ⟨h1, h2⟩ <;> rw [h1, h2] <;> rfl
theorem q_din (hk : ∀ a b, kk a = kk b → a = b) (h : Rd H a (.dK kvs)) (f : FrK F0 G kvs (l.map fun p => (dKey (kk p.1), e p.2))) (ey : y = kV (kk k)) (q : Q (.bl (dhas l k)) H) : zDIn y (.ref a) H Q :=
  ⟨a, _, rfl, Or.inl ⟨kvs, kk k, h, ey, rfl⟩, by rw [dhas_val hk f]; exact q⟩
theorem q_dni (hk : ∀ a b, kk a = kk b → a = b) (h : Rd H a (.dK kvs)) (f : FrK F0 G kvs (l.map fun p => (dKey (kk p.1), e p.2))) (ey : y = kV (kk k)) (q : Q (.bl (!dhas l k)) H) : zDNotIn y (.ref a) H Q :=
  ⟨a, _, rfl, Or.inl ⟨kvs, kk k, h, ey, rfl⟩, by rw [dhas_val hk f]; exact q⟩
theorem q_dput {r : List (κ × α)} {R : Hp → Prop} (hk : ∀ a b, kk a = kk b → a = b) (S : Sep ms H0 G H cs) (i : Nat) (hi : cs[i]? = some (a, .dK kvs)) (f : FrK F0 G kvs (l.map fun p => (dKey (kk p.1), e p.2))) (ey : y = kV (kk k)) (fv : Fr F0 G v (e x)) (h : dputF l k x = some r)
    (q : ∀ us H', Sep ms H0 G H' (cs.set i (a, .dK us)) → FrK F0 G us (r.map fun p => (dKey (kk p.1), e p.2)) → R H') : zDPut v (.ref a) y H R := by
  unfold dputF at h
  obtain ⟨h1, h2⟩ := grd h
  cases som h2
  exact ⟨a, _, rfl, Or.inl ⟨kvs, kk k, S.get i hi, ey, lim_lt (by rw [frk_len f]; exact of_decide_eq_true h1), rfl⟩, q _ _ (S.put i hi dk_tup) (frk_put hk f fv)⟩
def zDNew (H : Hp) (Q : VK) : Prop := ∀ p, H p = none → Q (.ref p) (upd H p (.dK []))
theorem rd_dnewZ {σ : L2.St} (q : zDNew H Q) : tDNewK σ H Q := q
theorem q_dnewO (S : Sep ms H0 G H cs) (q : ∀ p H', Sep ms H0 G H' ((p, .dK []) :: cs) → H0 p = none → Q (.ref p) H') : zDNew H Q := fun p hp => q p _ (S.own hp dk_tup) (S.old p hp)
/-- an owned dict is only read from here on -/
theorem Sep.fixD {ds : List (PyData × PyData)} (S : Sep ms H0 G H cs) (i : Nat) (h : cs[i]? = some (a, .dK kvs)) (hm : a ∉ ms) (f : FrK F0 G kvs ds) (n : F0 a = none) : ∃ G', Sep ms H0 G' H (cs.eraseIdx i) ∧ Same G G' ∧ Fr F0 G' (.ref a) (.dict ds) :=
  ⟨_, S.fix i h hm, sNew (S.gnone i h), .dic (Or.inl upd_same) n (f.same (sNew (S.gnone i h)))⟩
/-- an owned dict, read -/
theorem Sep.rdD {ds : List (PyData × PyData)} (S : Sep ms H0 G H cs) (i : Nat) (h : cs[i]? = some (a, .dK kvs)) (f : FrK F0 G kvs ds) : Fr E0h H (.ref a) (.dict ds) := .dic (Or.inl (S.get i h)) rfl ((f.rp).same S.sub)
def zLenD : List V → Hp → VK → Prop := fun xs H Q => ∃ a kvs, xs = [.ref a] ∧ Rd H a (.dK kvs) ∧ Q (.int (kvs.length : Int)) H
/-! a dict that is walked: it is known to the object from there on -/
def zFrz (x : V) (H : Hp) (R : V → Hp → Prop) : Prop := (∃ d u, x = .ref d ∧ H d = some u ∧ Mut (some u) ∧ ∀ od, R (.ref d) (upd H d (.frz od u))) ∨ ∃ d od u, x = .ref d ∧ H d = some (.frz od u) ∧ R (.ref d) H
def tFrzE (td : TE) : TE := fun σ H Q => td σ H fun x H1 => zFrz x H1 Q
theorem pe_frz {X : Cx} {ex : Expr} {td : TE} (h : PE X ex td) : PE X ex (tFrzE td) := by
  refine ⟨fun pins s σ H Q I hw => ?_⟩
  refine thn (h.run pins s σ H _ I hw) fun v s1 ⟨x, H1, I1, r, q⟩ => ?_
  rcases q with ⟨d, u, rfl, hd, mu, q⟩ | ⟨d, od, u, rfl, hd, q⟩
  · obtain ⟨od, I2⟩ := I1.lock hd mu
    exact ⟨.ref d, _, I2, r, q od⟩
  · exact ⟨.ref d, H1, I1, r, q⟩
theorem rd_frz {td : TE} {σ : L2.St} (q : td σ H fun x H1 => zFrz x H1 Q) : tFrzE td σ H Q := q
def FrzG (G : Hp) (d : Addr) (G' : Hp) : Prop := ∃ od kvs, G d = some (.dK kvs) ∧ G' = upd G d (.frz od (.dK kvs))
theorem FrzG.rd {d : Addr} (h : FrzG G d G') {a : Addr} {us : List (Key × V)} (r : Rd G a (.dK us)) : Rd G' a (.dK us) := by
  obtain ⟨od, kvs, h1, rfl⟩ := h
  by_cases c : a = d
  · subst c
    rcases r with r | ⟨o, r⟩
    · rw [h1] at r
      cases r
      exact Or.inr ⟨od, upd_same⟩
    · rw [h1] at r
      cases r
  · unfold Rd
    rw [upd_ne c]
    exact r
theorem FrzG.oth {d : Addr} (h : FrzG G d G') {a : Addr} {o : HO} (e : G a = some o) (n : ∀ kvs, o ≠ .dK kvs) : G' a = some o := by
  obtain ⟨od, kvs, h1, rfl⟩ := h
  have c : a ≠ d := fun z => by
    subst z
    rw [h1] at e
    exact n kvs (Option.some.inj e).symm
  rw [upd_ne c]
  exact e
theorem Fr.frz {d : Addr} {v : V} {x : PyData} (f : Fr F0 G v x) (h : FrzG G d G') : Fr F0 G' v x := f.move (fun _ _ e n => ⟨h.oth e (fun _ z => by cases z), n⟩) (fun _ _ e => h.oth e fun _ z => by cases z) fun _ _ e n => ⟨h.rd e, n⟩
theorem FrL.frz {d : Addr} {v : List V} {x : List PyData} (f : FrL F0 G v x) (h : FrzG G d G') : FrL F0 G' v x := f.move (fun _ _ e n => ⟨h.oth e (fun _ z => by cases z), n⟩) (fun _ _ e => h.oth e fun _ z => by cases z) fun _ _ e n => ⟨h.rd e, n⟩
theorem FrK.frz {d : Addr} {v : List (Key × V)} {x : List (PyData × PyData)} (f : FrK F0 G v x) (h : FrzG G d G') : FrK F0 G' v x := f.move (fun _ _ e n => ⟨h.oth e (fun _ z => by cases z), n⟩) (fun _ _ e => h.oth e fun _ z => by cases z) fun _ _ e n => ⟨h.rd e, n⟩
theorem _root_.LX.Scr.frz {d : Addr} {ns : List Int} {l : Addr} (f : Scr K G l ns) (h : FrzG G d G') : Scr K G' l ns := by
  rcases f with ⟨o, f⟩ | f
  · exact Or.inl ⟨o, h.oth f fun _ z => by cases z⟩
  · exact Or.inr f
/-- the walk over a dict that is held -/
theorem q_frz {R : V → Hp → Prop} (S : Sep ms H0 G H cs) (n : H0 a = none) (h : Rd G a (.dK kvs)) (q : ∀ od G' H', Sep ms H0 G' H' cs → (G' = G ∨ FrzG G a G') → H' a = some (.frz od (.dK kvs)) → G' a = some (.frz od (.dK kvs)) → R (.ref a) H') : zFrz (.ref a) H R := by
  rcases h with h | ⟨od, h⟩
  · refine Or.inl ⟨a, _, rfl, S.sub _ _ h, True.intro, fun od => q od (upd G a (.frz od (.dK kvs))) _ ?_ (Or.inr ⟨od, kvs, h, rfl⟩) upd_same upd_same⟩
    have ac : ∀ c ∈ cs, c.1 ≠ a := fun c hc z => by
      have := (S.cel c hc).2.1
      rw [z, h] at this
      cases this
    refine ⟨fun b u e => ?_, fun c hc => ?_, S.nd, S.msc, S.hms, fun b e => ?_, fun b u e n' => ?_, fun b xs e => ?_⟩
    · by_cases c : b = a
      · subst c
        rw [upd_same] at e ⊢
        exact e
      · rw [upd_ne c] at e ⊢
        exact S.sub b u e
    · rw [upd_ne (ac c hc), upd_ne (ac c hc)]
      exact S.cel c hc
    · by_cases c : b = a
      · subst c
        rw [upd_same] at e
        cases e
      · rw [upd_ne c] at e
        exact S.old b e
    · have c : b ≠ a := fun z => by
        subst z
        rw [n] at e
        cases e
      rw [upd_ne c]
      exact S.base b u e n'
    · by_cases c : b = a
      · subst c
        rw [upd_same] at e
        cases e
      · rw [upd_ne c] at e ⊢
        exact S.tups b xs e
  · exact Or.inr ⟨a, od, _, rfl, S.sub _ _ h, q od G H S (Or.inl rfl) (S.sub _ _ h) h⟩
def zKeys (x : V) (H : Hp) (R : It → Hp → Prop) : Prop := ∃ d o, x = .ref d ∧ ((∃ kvs, H d = some (.frz o (.dK kvs)) ∧ R (Itk d o kvs) H) ∨ ∃ kvs, H d = some (.frz o (.dT kvs)) ∧ R (Itkt d o kvs) H)
theorem rd_iKeys {td : TE} {σ : L2.St} {R : It → Hp → Prop} (q : td σ H fun x H1 => zKeys x H1 R) : iKeys td σ H R := q
theorem q_keys {od : Obj} {R : It → Hp → Prop} (h : H a = some (.frz od (.dK kvs))) (q : R (Itk a od kvs) H) : zKeys (.ref a) H R := ⟨a, od, rfl, Or.inl ⟨kvs, h, q⟩⟩
theorem w_keys {od : Obj} {l : List (Str × α)} (f : FrK F0 G kvs (l.map fun p => (dKey (kS p.1), e p.2))) : Walk (Itk a od kvs) (dkeys l).length (fun H => H a = some (.frz od (.dK kvs))) (fun i H v H' => H' = H ∧ ∀ x, (dkeys l)[i]? = some x → v = .str x) := by
  have h : (dkeys l).length = kvs.length := by unfold dkeys; rw [List.length_map, frk_len f]
  rw [h]
  refine walk_keys.mono (fun _ h => h) fun i H x H' _ _ y => ⟨y.1, fun z hz => ?_⟩
  obtain ⟨k, v, h1, h2⟩ := y.2
  have h3 : (kvs.map (·.1))[i]? = some k := by rw [List.getElem?_map, h1]; rfl
  rw [frk_keys f, List.getElem?_map] at h3
  unfold dkeys at hz
  rw [List.getElem?_map] at hz
  obtain ⟨p, h4, h5⟩ := Option.map_eq_some_iff.mp hz
  rw [h4] at h3
  have h6 : kS p.1 = k := Option.some.inj h3
  rw [h2, ← h6, ← h5]
  rfl
end
end LQ
namespace LQ
open PySem PySem.Spec PyProof.Rows L2 LX
section
variable {X : Cx} {κ α : Type} [DecidableEq κ] {kk : κ → Key} {e : α → PyData} {F0 H0 G G' H H' : Hp} {kvs : List (Key × V)} {l : List (κ × α)} {k : κ} {x : α} {v y : V} {a b : Addr} {ms : List Addr} {cs : List (Addr × HO)} {Q : VK} {K : PySem.W.Frag} {vs : List V}
theorem klenD : CallR X (.builtin "len") zLenD := by
  intro pins s σ H xs us Q I r h
  obtain ⟨a, kvs, rfl, ha, q⟩ := h
  obtain ⟨u, rfl, ru⟩ := vals1 r
  cases ru
  exact d_len I ha fun t s' I' => ⟨.int kvs.length, H, I', ⟨t, rfl⟩, q⟩
theorem q_lenD (h : Rd H a (.dK kvs)) (f : FrK F0 G kvs (l.map fun p => (dKey (kk p.1), e p.2))) (q : Q (.int (lenI l)) H) : zLenD [.ref a] H Q := ⟨a, kvs, rfl, h, by rw [frk_len f]; exact q⟩
def zCntI (K : PySem.W.Frag) : V → List V → Hp → VK → Prop := rCntI K
theorem klcount {K : PySem.W.Frag} (h : X.K = K := by rfl) : MtR X "list.count" (rCntI K) := h ▸ L2.mt_lcount
theorem q_countI {l : List Int} {i : Int} (h : H a = some (.lst vs)) (f : FrL F0 G vs (l.map eI)) (q : Q (.int ((l.count i : Nat) : Int)) H) : rCntI K (.ref a) [.int i] H Q := by
  rw [frl_ints f] at h
  exact ⟨a, l, i, rfl, rfl, SqL.of h, q⟩
/-- dict(list of pairs of an int, a text and something) -/
theorem q_dictP {kd : κ → PyData} {g : α → PyData} (hkd : ∀ (k : κ) (F G : Hp) (v : V), Fr F G v (kd k) → v = kV (kk k)) (hk : ∀ a b, kk a = kk b → a = b) {m : List (κ × α)} (S : Sep ms H0 G H cs) (h : H a = some (.lst vs)) (f : FrL F0 G vs (m.map fun p => .tuple [kd p.1, g p.2])) (hF : ∀ b, H b = none → F0 b = none)
    (q : ∀ p G' H', Sep ms H0 G' H' cs → Same G G' → Fr F0 G' (.ref p) (eD kk g (dmerge [] m)) → Q (.ref p) H') : qDictP K [.ref a] H Q := by
  have key : ∀ {vs : List V} {m : List (κ × α)}, FrL F0 G vs (m.map fun p => .tuple [kd p.1, g p.2]) → ∃ (ps : List Addr) (kvs : List (Key × V)), vs = ps.map V.ref ∧ Paired (fun p kv => SqT K H p [kV kv.1, kv.2]) ps kvs ∧ FrK F0 G kvs (m.map fun p => (dKey (kk p.1), g p.2)) := by
    intro vs m f
    induction m generalizing vs with
    | nil =>
      cases f
      exact ⟨[], [], rfl, .nil, .nil⟩
    | cons p m ih =>
      cases f with
      | cons f1 hs =>
        obtain ⟨ps, kvs, rfl, h1, h2⟩ := ih hs
        obtain ⟨t, rfl⟩ := fr_tup f1
        obtain ⟨v1, v2, k1, g1, g2⟩ := tu2 f1
        have e1 := hkd _ _ _ _ g1
        subst e1
        exact ⟨t :: ps, (kk p.1, v2) :: kvs, rfl, .cons (SqT.of (S.sub _ _ k1)) h1, .cons g2 h2⟩
  obtain ⟨ps, kvs, rfl, h1, h2⟩ := key f
  refine ⟨a, ps, kvs, rfl, SqL.of h, h1, fun p hp => q p _ _ (S.sh hp) (sNew (S.gfree hp)) (.dic (Or.inl upd_same) (hF p hp) ?_)⟩
  have h3 := frk_merge (kk := kk) (e := g) hk (l := []) (kvs := []) (F0 := F0) (G := G) .nil h2
  exact h3.same (sNew (S.gfree hp))
theorem kdI (k : Int) (F G : Hp) (v : V) (f : Fr F G v (eI k)) : v = kV (kI k) := fr_int f
theorem kdS (k : Str) (F G : Hp) (v : V) (f : Fr F G v (eS k)) : v = kV (kS k) := fr_str f
end
end LQ
namespace LQ
open PySem L2 LX
theorem frz_or {G G' : Hp} {a : Addr} {A : Hp → Prop} (f : A G) (g : FrzG G a G' → A G') (d : G' = G ∨ FrzG G a G') : A G' := by
  rcases d with rfl | d
  · exact f
  · exact g d
theorem frz_same {G0 G G' : Hp} {a : Addr} (s : Same G0 G) (d : G' = G ∨ FrzG G a G') (n : G0 a = none) : Same G0 G' := by
  rcases d with rfl | ⟨od, kvs, _, rfl⟩
  · exact s
  · exact sUpd s n
end LQ
namespace LX
open PySem L2
theorem FnG.imp {P : Program} {w : World} {K : PySem.W.Frag} {mg : Str → Option Value} {base : Heap} {k : Nat} {f : Addr} {fd : FuncData} {ps : List Str} {sp sp' : Sp} (F : FnG P w K mg base k f fd ps sp) (h : ∀ vs H Q E, sp' vs H Q E → sp vs H Q E) : FnG P w K mg base k f fd ps sp' :=
  ⟨fun vs H Q E z => F.len vs H Q E (h vs H Q E z), fun A o s H ar us vs Q E r q e b v z => F.go A o s H ar us vs Q E r q e b v (h vs H Q E z)⟩
end LX

/-! list(zip), list of a text, slices by a step of 1 or -1, lists unpacked, owned results of calls that write. -/
namespace LQ
open PySem PySem.Spec PyProof.Rows L2 LX
def zipF {α β : Type} (l : List α) (m : List β) : Option (List (α × β)) := cond (decide (l.length ≤ m.length)) (some (l.zip m)) none
def zipSF {β : Type} (z : Str) (m : List β) : Option (List (Str × β)) := cond (decide (z.cps.size ≤ 4000) && decide (m.length = z.cps.size)) (some ((chars z).zip m)) none
def charsF (z : Str) : Option (List Str) := cond (decide (z.cps.size ≤ 4000)) (some (chars z)) none
/-- xs[::i], i 1 or -1 -/
def stepF {α : Type} (l : List α) (i : Int) : Option (List α) := cond (decide (i = 1)) (some l) (cond (decide (i = -1)) (some l.reverse) none)
section
variable {ms : List Addr} {F0 H0 G G' H H' H2 : Hp} {cs : List (Addr × HO)} {a b : Addr} {vs us : List V} {K : PySem.W.Frag} {Q : VK} {v x y : V} {α β : Type} {e : α → PyData} {e2 : β → PyData} {l : List α} {m : List β}
theorem Sep.grow (S : Sep ms H0 G H cs) (s : Same H H2) : ∃ G', Sep ms H0 G' H2 cs ∧ Same G G' ∧ (∀ b o, H b = none → H2 b = some o → G' b = some o) ∧ ∀ b xs, H2 b = some (.tup xs) → G' b = some (.tup xs) := by
  have ro : ∀ b, H2 b = none → H b = none := fun b e => by
    cases h : H b with
    | none => rfl
    | some o =>
      rw [s b o h] at e
      cases e
  have out : ∀ b, b ∉ cs.map (·.1) → hid H2 (cs.map (·.1)) b = H2 b := fun b h => hid_out h
  have sG : Same G (hid H2 (cs.map (·.1))) := fun b o e => by
    have n : b ∉ cs.map (·.1) := fun z => by
      obtain ⟨c, hc, rfl⟩ := List.mem_map.mp z
      rw [(S.cel c hc).2.1] at e
      cases e
    rw [out b n]
    exact s b o (S.sub b o e)
  have tp : ∀ b xs, H2 b = some (.tup xs) → hid H2 (cs.map (·.1)) b = some (.tup xs) := fun b xs e => by
    rw [out b]
    · exact e
    · intro z
      obtain ⟨c, hc, rfl⟩ := List.mem_map.mp z
      have := s _ _ (S.cel c hc).1
      rw [e] at this
      exact (S.cel c hc).2.2 xs (Option.some.inj this).symm
  exact ⟨hid H2 (cs.map (·.1)), ⟨fun b o e => (hid_some e).2, fun c hc => ⟨s _ _ (S.cel c hc).1, hid_in (List.mem_map_of_mem hc), (S.cel c hc).2.2⟩, S.nd, S.msc, S.hms, fun b e => S.old b (ro b e), fun b o e n => sG b o (S.base b o e n), tp⟩, sG,
    fun b o hn e => by rw [out b (S.cne hn)]; exact e, tp⟩
/-- a new list of pairs -/
theorem frl_pairs {Ts : List Addr} {l : List α} {m : List β} (hl : Ts.length = l.length) (hm : l.length ≤ m.length) (h : ∀ (j : Nat) (x : α) (y : β), l[j]? = some x → m[j]? = some y → ∃ T v w, Ts[j]? = some T ∧ G T = some (.tup [v, w]) ∧ Fr F0 G v (e x) ∧ Fr F0 G w (e2 y)) :
    FrL F0 G (Ts.map V.ref) ((l.zip m).map (eT2 e e2)) := by
  induction l generalizing m Ts with
  | nil =>
    have : Ts = [] := List.length_eq_zero_iff.mp hl
    subst this
    exact .nil
  | cons x l ih =>
    cases m with
    | nil => exact absurd hm (Nat.not_succ_le_zero _)
    | cons y m =>
      cases Ts with
      | nil => cases hl
      | cons T Ts =>
        obtain ⟨T', v, w, k1, k2, k3, k4⟩ := h 0 x y rfl rfl
        cases k1
        refine .cons (.tup k2 (.cons k3 (.cons k4 .nil))) (ih (by simpa using hl) (by simpa using hm) fun j x y hx hy => ?_)
        obtain ⟨T', v, w, k1, k2⟩ := h (j + 1) x y (by simpa using hx) (by simpa using hy)
        exact ⟨T', v, w, by simpa using k1, k2⟩
def zLz (K : PySem.W.Frag) (vs : List V) (H1 : Hp) (Q : VK) : Prop := ∃ (a b : Addr) (xs ys : List V), vs = [.ref a, .ref b] ∧ SqL K H1 a xs ∧ SqL K H1 b ys ∧ xs.length ≤ ys.length ∧
  ∀ (L : Addr) (H2 : Hp) (Ts : List Addr), H1 L = none → Same H1 H2 → H2 L = some (.lst (Ts.map V.ref)) → Ts.length = xs.length → (∀ (j : Nat) (x y : V), xs[j]? = some x → ys[j]? = some y → ∃ T, Ts[j]? = some T ∧ H2 T = some (.tup [x, y])) → Q (.ref L) H2
theorem rd_lzZ {ta : TA} {σ : L2.St} (q : ta σ H fun vs H1 => zLz K vs H1 Q) : tListZip K ta σ H Q := q
theorem q_lz {r : List (α × β)} (S : Sep ms H0 G H cs) (ha : H a = some (.lst vs)) (f : FrL F0 G vs (l.map e)) (hb : H b = some (.lst us)) (g : FrL F0 G us (m.map e2)) (h : zipF l m = some r) (hF : ∀ b, H b = none → F0 b = none)
    (q : ∀ p G' H', Sep ms H0 G' H' cs → Same G G' → Fr F0 G' (.ref p) (eL (eT2 e e2) r) → Q (.ref p) H') : zLz K [.ref a, .ref b] H Q := by
  unfold zipF at h
  obtain ⟨h1, h2⟩ := grd h
  have h1 := of_decide_eq_true h1
  cases som h2
  have lv := f.len
  have lu := g.len
  rw [List.length_map] at lv lu
  refine ⟨a, b, vs, us, rfl, SqL.of ha, SqL.of hb, by omega, fun L H2 Ts nL sm hL tl ht => ?_⟩
  obtain ⟨G2, S2, s2, kn, kt⟩ := S.grow sm
  refine q L G2 H2 S2 s2 (.lst (kn L _ nL hL) (hF L nL) (frl_pairs (by omega) (by omega) fun j x y hx hy => ?_))
  obtain ⟨v, e1, f1⟩ := f.get (i := j) (d := e x) (by rw [List.getElem?_map, hx]; rfl)
  obtain ⟨w, e3, f3⟩ := g.get (i := j) (d := e2 y) (by rw [List.getElem?_map, hy]; rfl)
  obtain ⟨T, k1, k2⟩ := ht j v w e1 e3
  exact ⟨T, v, w, k1, kt _ _ k2, f1.same s2, f3.same s2⟩
def zLzT (K : PySem.W.Frag) (vs : List V) (H1 : Hp) (Q : VK) : Prop := ∃ (x : Str) (b : Addr) (ys : List V), vs = [.str x, .ref b] ∧ x.cps.size ≤ 4000 ∧ SqL K H1 b ys ∧ ys.length = x.cps.size ∧
  ∀ (L : Addr) (H2 : Hp) (Ts : List Addr), H1 L = none → Same H1 H2 → H2 L = some (.lst (Ts.map V.ref)) → Ts.length = x.cps.size → (∀ (j c : Nat) (y : V), x.cps[j]? = some c → ys[j]? = some y → ∃ T, Ts[j]? = some T ∧ H2 T = some (.tup [sg c, y])) → Q (.ref L) H2
theorem q_lzT {z : Str} {r : List (Str × β)} (S : Sep ms H0 G H cs) (hb : H b = some (.lst us)) (g : FrL F0 G us (m.map e2)) (h : zipSF z m = some r) (hF : ∀ b, H b = none → F0 b = none)
    (q : ∀ p G' H', Sep ms H0 G' H' cs → Same G G' → Fr F0 G' (.ref p) (eL (eT2 eS e2) r) → Q (.ref p) H') : zLzT K [.str z, .ref b] H Q := by
  unfold zipSF at h
  obtain ⟨h1, h2⟩ := grd h
  rw [Bool.and_eq_true, decide_eq_true_iff, decide_eq_true_iff] at h1
  cases som h2
  have lu := g.len
  rw [List.length_map] at lu
  refine ⟨z, b, us, rfl, h1.1, SqL.of hb, by omega, fun L H2 Ts nL sm hL tl ht => ?_⟩
  obtain ⟨G2, S2, s2, kn, kt⟩ := S.grow sm
  refine q L G2 H2 S2 s2 (.lst (kn L _ nL hL) (hF L nL) (frl_pairs (by rw [chars_len]; omega) (by rw [chars_len]; omega) fun j x y hx hy => ?_))
  unfold chars at hx
  rw [List.getElem?_map] at hx
  obtain ⟨c, h3, h4⟩ := Option.map_eq_some_iff.mp hx
  rw [Array.getElem?_toList] at h3
  obtain ⟨w, e3, f3⟩ := g.get (i := j) (d := e2 y) (by rw [List.getElem?_map, hy]; rfl)
  obtain ⟨T, k1, k2⟩ := ht j c w h3 e3
  exact ⟨T, sg c, w, k1, kt _ _ k2, by rw [← h4]; exact .str _, f3.same s2⟩
theorem q_listS {z : Str} {l : List Str} (h : charsF z = some l) (q : zNew (l.map V.str) H Q) : rListS [.str z] H Q := by
  unfold charsF at h
  obtain ⟨h1, h2⟩ := grd h
  cases som h2
  refine ⟨z, rfl, of_decide_eq_true h1, fun p hp => ?_⟩
  have e : (z.cps.toList.map fun c => V.str ⟨#[c]⟩) = (chars z).map V.str := by
    unfold chars
    rw [List.map_map]
    rfl
  rw [e]
  exact q p hp
/-! ### xs[::i] -/
def zSt (K : PySem.W.Frag) (x : V) (i : V) (H : Hp) (Q : VK) : Prop := ∃ a xs k, x = .ref a ∧ i = .int k ∧ SqL K H a xs ∧ (k = 1 ∨ k = -1) ∧ ∀ p, H p = none → Q (.ref p) (upd H p (.lst (if k = 1 then xs else xs.reverse)))
def tSt (K : PySem.W.Frag) (te ti : TE) : TE := fun σ H Q => te σ H fun x H1 => ti σ H1 fun i H2 => zSt K x i H2 Q
theorem rd_st {te ti : TE} {σ : L2.St} (q : te σ H fun x H1 => ti σ H1 fun i H2 => zSt K x i H2 Q) : tSt K te ti σ H Q := q
theorem one_pick (items : Array Value) : slicePick items none none (some 1) = items := by
  have e : slicePick items none none (some 1) = slicePick items none none none := rfl
  rw [e]
  unfold slicePick
  have h : sliceBounds none none none items.size = (0, (items.size : Int), 1) := by
    first
    | rfl
    | simp [sliceBounds]
  rw [h]
  show ((sliceRange 0 (items.size : Int) 1).filterMap (items[·]?)).toArray = items
  have h2 : sliceRange 0 (items.size : Int) 1 = List.range items.size := by
    unfold sliceRange
    simp
    by_cases h0 : 0 < items.size
    · rw [if_pos h0]
      simp
    · rw [if_neg h0, show items.size = 0 by omega]
      rfl
  rw [h2, PySem.W.krv_all]
end
section
variable {X : Cx} {K : PySem.W.Frag}
theorem pe_st {e st : Expr} {te ti : TE} {p3 pos : Pos} (ops : Value → Nat → List Value) (he : PE X e te) (hi : PE X st ti) (hsub : ∀ (a : Value) (b : Nat), subscripted (.Slice none none (some st) p3) false a (.ref b) = operate (ops a b) (getItem a (.ref b)) := by intros; rfl) (h : X.K = K := by rfl) :
    PE X (.Subscript e (.Slice none none (some st) p3) pos) (tSt K te ti) := by
  subst h
  refine ⟨fun pins s σ H Q I h => ?_⟩
  refine Subscript_ (thn (he.run pins s σ H _ I h) fun v s1 ⟨x, H1, I1, r1, q1⟩ => ?_)
  have q2 : ti σ H1 fun i H2 => ∃ k, i = .int k ∧ zSt X.K x (.int k) H2 Q := by
    have e : (fun (i : V) (H2 : Hp) => ∃ k, i = .int k ∧ zSt X.K x (.int k) H2 Q) = fun i H2 => zSt X.K x i H2 Q := by
      funext i H2
      refine propext ⟨fun ⟨k, e, z⟩ => e ▸ z, fun z => ?_⟩
      obtain ⟨a, xs, k, e1, e2, z2⟩ := z
      exact ⟨k, e2, a, xs, k, e1, rfl, z2⟩
    rw [e]
    exact q1
  have hst : PO X (some st) (tPart ti) := po_some hi
  refine wpAny_Slice (thn (po_none.run pins s1 σ H1 (fun o H2 => o = none ∧ H2 = H1) I1 ⟨rfl, rfl⟩) fun vl s2 ⟨l, H2, I2, pl, el, e2⟩ => ?_)
  subst el e2
  refine thn (po_none.run pins s2 σ H2 (fun o H3 => o = none ∧ H3 = H2) I2 ⟨rfl, rfl⟩) fun vu s3 ⟨u, H3, I3, pu, eu, e3⟩ => ?_
  subst eu e3
  refine thn (hst.run pins s3 σ H3 (fun o H4 => ∃ k, o = some k ∧ zSt X.K x (.int k) H4 Q) I3 ?_) fun vs s4 ⟨o, H4, I4, ps, k, eo, z⟩ => ?_
  · have e : (fun (y : V) (H' : Hp) => ∃ i, y = .int i ∧ ∃ k, some i = some k ∧ zSt X.K x (.int k) H' Q) = fun i H2 => ∃ k, i = .int k ∧ zSt X.K x (.int k) H2 Q := by
      funext y H'
      refine propext ⟨fun ⟨i, e, k, e2, z⟩ => ⟨i, e, (Option.some.inj e2) ▸ z⟩, fun ⟨k, e, z⟩ => ⟨k, e, k, rfl, z⟩⟩
    show ti σ H3 (fun y H' => ∃ i, y = .int i ∧ ∃ k, some i = some k ∧ zSt X.K x (.int k) H' Q)
    rw [e]
    exact q2
  subst eo
  obtain ⟨a, xs, k', ex, ek, hx, h1, q⟩ := z
  cases ek
  subst ex
  cases r1
  have I5 : Inv X pins σ H4 { s4 with heap := s4.heap.push { cls := .type "slice", data := .fields #[vl, vu, vs] } } := I4.kept (t' := s4.toks) fun b ob q => Heap.get?_push_of_some _ q
  obtain ⟨its, r, ht, hz⟩ := I5.list hx
  have hlen := r.length
  show wpAny (model X.prog X.w) X.A (subscriptTail e (.Slice none none (some st) p3) (.ref a) (.ref s4.heap.objs.size)) (EP X pins σ Q) X.xe { s4 with heap := s4.heap.push { cls := .type "slice", data := .fields #[vl, vu, vs] } }
  refine tail_any (ops := ops (.ref a) s4.heap.objs.size) ht.isList.typeIs (PySem.slot_list_getitem.lookup) ?_ (hsub _ _)
  rcases h1 with rfl | rfl
  · refine wpAny_getItem_list_slice ht.isList (Heap.IsSliceOf.new _ vl vu vs) pl pu ps (by decide) ?_ (by rw [List.size_toArray]; omega)
    rw [one_pick]
    refine ⟨.ref _, _, I5.laid (t' := s4.toks) (o := .lst xs) (fun b ob q => Heap.get?_push_of_some _ q) (Nat.le_refl _) ?_, rfl, q _ (I5.hok.fresh (Nat.le_refl _))⟩
    exact ⟨hz, its, 0, r, Heap.get?_push_size _ rfl⟩
  · refine wpAny_getItem_list_slice ht.isList (Heap.IsSliceOf.new _ vl vu vs) pl pu ps (by decide) ?_ (by rw [List.size_toArray]; omega)
    rw [PySem.W.krv_pick]
    refine ⟨.ref _, _, I5.laid (t' := s4.toks) (o := .lst xs.reverse) (fun b ob q => Heap.get?_push_of_some _ q) (Nat.le_refl _) ?_, rfl, q _ (I5.hok.fresh (Nat.le_refl _))⟩
    exact ⟨by rw [List.length_reverse]; exact hz, _, 0, r.reverse, Heap.get?_push_size _ rfl⟩
theorem q_st {ms : List Addr} {F0 H0 G H : Hp} {cs : List (Addr × HO)} {a : Addr} {vs : List V} {Q : VK} {α : Type} {e : α → PyData} {l r : List α} {i : Int} (S : Sep ms H0 G H cs) (ha : H a = some (.lst vs)) (f : FrL F0 G vs (l.map e)) (h : stepF l i = some r) (hF : ∀ b, H b = none → F0 b = none)
    (q : ∀ p G' H', Sep ms H0 G' H' cs → Same G G' → Fr F0 G' (.ref p) (eL e r) → Q (.ref p) H') : zSt K (.ref a) (.int i) H Q := by
  unfold stepF at h
  rcases cnd h with ⟨c, h⟩ | ⟨c, h⟩
  · have c := of_decide_eq_true c
    subst c
    cases som h
    refine ⟨a, vs, 1, rfl, rfl, SqL.of ha, Or.inl rfl, ?_⟩
    rw [if_pos rfl]
    exact q_new S f hF q
  · rcases cnd h with ⟨c2, h⟩ | ⟨c2, h⟩
    · have c2 := of_decide_eq_true c2
      subst c2
      cases som h
      refine ⟨a, vs, -1, rfl, rfl, SqL.of ha, Or.inr rfl, ?_⟩
      rw [if_neg (by decide)]
      refine q_new S ?_ hF q
      rw [List.map_reverse]
      exact f.rev
    · cases h
theorem rd_revL {te : TE} {σ : L2.St} {H : Hp} {Q : VK} (q : te σ H fun x H1 => zSt K x (.int (-1)) H1 Q) : tRevL K te σ H Q := by
  have e : (fun (x : V) (H1 : Hp) => ∃ a xs, x = .ref a ∧ SqL K H1 a xs ∧ ∀ p, H1 p = none → Q (.ref p) (upd H1 p (.lst xs.reverse))) = fun x H1 => zSt K x (.int (-1)) H1 Q := by
    funext x H1
    refine propext ⟨fun ⟨a, xs, e, h, q⟩ => ⟨a, xs, -1, e, rfl, h, Or.inr rfl, by rw [if_neg (by decide)]; exact q⟩, fun ⟨a, xs, k, e, ek, h, _, q⟩ => ⟨a, xs, e, h, ?_⟩⟩
    cases ek
    rw [if_neg (by decide)] at q
    exact q
  show te σ H _
  rw [e]
  exact q
theorem krevL {e : Expr} {te : TE} {k : Nat} {p1 p2 p3 pos : Pos} (he : PE X e te) (h : X.K = K := by rfl) : PE X (.Subscript e (.Slice none none (some (.UnaryOp .USub (.Constant (.int 1) k p1) p2)) p3) pos) (tRevL K te) := h ▸ pe_revL he
theorem kpg_lst {es : List Expr} {k n : Nat} {u : TGs} {pos : Pos} (hc : X.calm = true) (hp : PGs X es u) (hn : (assignEach es X.env).length = n := by rfl) (hst : (assignEach es X.env).findIdx? (·.1) = none := by rfl) (h : X.K = K := by rfl) : PG X (.Tuple es k pos) (gLst K n u) := h ▸ pg_lst hc hp hn hst
theorem rd_glst {n : Nat} {s : TGs} {p : Addr} {xs : List V} {σ : L2.St} {H : Hp} {R : L2.St → Hp → Prop} (h : H p = some (.lst xs)) (z : xs.length = n) (q : s xs σ H R) : gLst K n s (.ref p) σ H R := ⟨p, xs, rfl, SqL.of h, z, q⟩
/-- the items of a list of known length -/
def only2 {α : Type} (l : List α) : Option (α × α) := match l with
  | [x, y] => some (x, y)
  | _ => none
def only1 {α : Type} (l : List α) : Option α := match l with
  | [x] => some x
  | _ => none
def only3 {α : Type} (l : List α) : Option (α × α × α) := match l with
  | [x, y, z] => some (x, y, z)
  | _ => none
theorem on2 {F0 G : Hp} {vs : List V} {α : Type} {e : α → PyData} {l : List α} {p : α × α} (h : only2 l = some p) (f : FrL F0 G vs (l.map e)) : ∃ v w, vs = [v, w] ∧ Fr F0 G v (e p.1) ∧ Fr F0 G w (e p.2) := by
  unfold only2 at h
  split at h
  · cases h
    cases f with
    | cons f1 hs => cases hs with
      | cons f2 hs => cases hs; exact ⟨_, _, rfl, f1, f2⟩
  · cases h
theorem on3 {F0 G : Hp} {vs : List V} {α : Type} {e : α → PyData} {l : List α} {p : α × α × α} (h : only3 l = some p) (f : FrL F0 G vs (l.map e)) : ∃ v w x, vs = [v, w, x] ∧ Fr F0 G v (e p.1) ∧ Fr F0 G w (e p.2.1) ∧ Fr F0 G x (e p.2.2) := by
  unfold only3 at h
  split at h
  · cases h
    cases f with
    | cons f1 hs => cases hs with
      | cons f2 hs => cases hs with
        | cons f3 hs => cases hs; exact ⟨_, _, _, rfl, f1, f2, f3⟩
  · cases h
theorem on1 {F0 G : Hp} {vs : List V} {α : Type} {e : α → PyData} {l : List α} {p : α} (h : only1 l = some p) (f : FrL F0 G vs (l.map e)) : ∃ v, vs = [v] ∧ Fr F0 G v (e p) := by
  unfold only1 at h
  split at h
  · cases h
    cases f with
    | cons f1 hs => cases hs; exact ⟨_, rfl, f1⟩
  · cases h
end
end LQ

/-! ### list(zip(a text, a list)): over any two iterators that are drawn from -/
namespace LX
open PySem PySem.Spec PyProof.Rows L2
section
variable {prog : Program} {w : World} {A : Around} {E : Value → Shared → Prop} {s : Shared} {z TI TO T i1 i2 : Addr} {f : Bool} {oT : Obj} {fp1 fp2 : List Addr} {n1 n2 i : Nat} {P1 P2 : Nat → Value → Prop} {St1 St2 : Nat → Heap → Prop}
/-- a turn of a zip whose last tuple is held elsewhere -/
theorem heldItem {Q : Value → Shared → Prop} (S : ZipSep2 z TI TO i1 i2 fp1 fp2) (D1 : Draws prog w A i1 fp1 n1 P1 St1) (D2 : Draws prog w A i2 fp2 n2 P2 St2)
    (hz : IsZipHeld s.heap z TI TO T f) (hT : s.heap.get? T = some oT) (hTI : IsPair s.heap TI (.ref i1) (.ref i2)) (st1 : St1 i s.heap) (st2 : St2 i s.heap) (lt1 : i < n1) (lt2 : i < n2)
    (hQ : ∀ x1 x2 h' tk, P1 i x1 → P2 i x2 → IsZipHeld h' z TI TO T true → St1 (i + 1) h' → St2 (i + 1) h' → IsPair h' s.heap.objs.size x1 x2 → h'.objs.size = s.heap.objs.size + 1 →
      (∀ c o, c ≠ z → c ≠ i1 → c ≠ i2 → s.heap.get? c = some o → h'.get? c = some o) → Q (.ref s.heap.objs.size) { s with heap := h', toks := tk }) :
    wpAny (model prog w) A (Builtin.«zip.__next__» ⟨[.ref z], []⟩) (fun fin s' => ∃ v, fin = .done (.ret v) ∧ Q v s') E s := by
  obtain ⟨hp, g, d, tk0, os⟩ := s
  show wpAny _ _ (field (.ref z) 2 >>= _) _ _ _
  refine wpAny_bind (wpAny_field hz rfl (x := .bool false) rfl ?_)
  show wpAny _ _ (field (.ref z) 3 >>= _) _ _ _
  refine wpAny_bind (wpAny_field hz rfl (x := .ref TI) rfl (wpAny_bind (wpAny_seqItems hTI rfl ?_)))
  show wpAny _ _ (Builtin.SmallTypes.ownedTupleIsFree (.ref z) >>= _) _ _ _
  refine wpAny_bind (wpAny_tupleHeld_zip hz hT fun g0 hz0 c0 => ?_)
  replace c0 : Heap.SameBut z hp g0 := c0
  simp only [Bool.false_eq_true, if_false]
  refine wpAny_bind ?_
  rw [← Array.forIn_toList]
  simp only [List.forIn_cons, List.forIn_nil]
  refine wpAny_bind (wpAny_bind (wpAny_holding ?_))
  show wpAny _ _ (Builtin.SmallTypes.nextOf (.ref i1) >>= _) _ _ ⟨g0, g, d, tk0, os⟩
  refine wpAny_bind (D1.item i _ _ _ lt1 (D1.over st1 c0 S.zf1) fun x1 g1 tk1 hx1 u1 c1 => wpAny_pure (wpAny_pure ?_))
  replace c1 : Heap.SameBut i1 g0 g1 := c1
  refine wpAny_bind (wpAny_bind (wpAny_holding ?_))
  show wpAny _ _ (Builtin.SmallTypes.nextOf (.ref i2) >>= _) _ _ ⟨g1, g, d, tk1, os⟩
  refine wpAny_bind (D2.item i _ _ _ lt2 (D2.over (D2.over st2 c0 S.zf2) c1 S.sep1_2) fun x2 g2 tk2 hx2 u2 c2 => wpAny_pure (wpAny_pure (wpAny_pure ?_)))
  replace c2 : Heap.SameBut i2 g1 g2 := c2
  show wpAny _ _ (newTuple [x1, x2] >>= _) _ _ ⟨g2, g, d, tk2, os⟩
  refine wpAny_bind (wpAny_newTuple ?_)
  have sz : g2.objs.size = hp.objs.size := by rw [c2.1, c1.1, c0.1]
  have hz2 : IsZipHeld g2 z TI TO T true := c2.extBut _ _ S.zi2 (c1.extBut _ _ S.zi1 hz0)
  have keep : ∀ c o, c ≠ z → c ≠ i1 → c ≠ i2 → hp.get? c = some o → g2.get? c = some o := fun c o a1 a2 a3 e => c2.extBut _ _ a3 (c1.extBut _ _ a2 (c0.extBut _ _ a1 e))
  refine wpAny_pure ⟨_, rfl, ?_⟩
  show Q (.ref g2.objs.size) ⟨g2.push { cls := .type "tuple", data := .seq #[x1, x2] }, g, d, tk2, os⟩
  have hp2 : IsPair (g2.push { cls := .type "tuple", data := .seq #[x1, x2] }) g2.objs.size x1 x2 := Heap.get?_push_size _ rfl
  have sz4 : (g2.push { cls := .type "tuple", data := .seq #[x1, x2] }).objs.size = g2.objs.size + 1 := Heap.size_push ..
  rw [sz] at hp2 sz4 ⊢
  exact hQ x1 x2 _ tk2 hx1 hx2 (Heap.get?_push_of_some _ hz2) (D1.frame _ _ _ (D1.over u1 c2 S.sep2_1) fun b _ o e => Heap.get?_push_of_some _ e) (D2.frame _ _ _ u2 fun b _ o e => Heap.get?_push_of_some _ e) hp2 sz4
    fun c o a1 a2 a3 e => Heap.get?_push_of_some _ (keep c o a1 a2 a3 e)
/-- its end, the first iterator's -/
theorem heldEnd {Q : Fin → Shared → Prop} (S : ZipSep2 z TI TO i1 i2 fp1 fp2) (D1 : Draws prog w A i1 fp1 n1 P1 St1)
    (hz : IsZipHeld s.heap z TI TO T f) (hT : s.heap.get? T = some oT) (hTI : IsPair s.heap TI (.ref i1) (.ref i2)) (st1 : St1 n1 s.heap)
    (hE : ∀ h' e, (∀ c o, c ≠ z → c ≠ i1 → s.heap.get? c = some o → h'.get? c = some o) → (∃ o, h'.get? e = some o ∧ o.cls = .type "StopIteration") → E (.ref e) { s with heap := h' }) :
    wpAny (model prog w) A (Builtin.«zip.__next__» ⟨[.ref z], []⟩) Q E s := by
  obtain ⟨hp, g, d, tk0, os⟩ := s
  show wpAny _ _ (field (.ref z) 2 >>= _) _ _ _
  refine wpAny_bind (wpAny_field hz rfl (x := .bool false) rfl ?_)
  show wpAny _ _ (field (.ref z) 3 >>= _) _ _ _
  refine wpAny_bind (wpAny_field hz rfl (x := .ref TI) rfl (wpAny_bind (wpAny_seqItems hTI rfl ?_)))
  show wpAny _ _ (Builtin.SmallTypes.ownedTupleIsFree (.ref z) >>= _) _ _ _
  refine wpAny_bind (wpAny_tupleHeld_zip hz hT fun g0 hz0 c0 => ?_)
  replace c0 : Heap.SameBut z hp g0 := c0
  simp only [Bool.false_eq_true, if_false]
  refine wpAny_bind ?_
  rw [← Array.forIn_toList]
  simp only [List.forIn_cons, List.forIn_nil]
  refine wpAny_bind (wpAny_bind (wpAny_holding ?_))
  show wpAny _ _ (Builtin.SmallTypes.nextOf (.ref i1) >>= _) _ _ ⟨g0, g, d, tk0, os⟩
  refine wpAny_bind (D1.done ⟨g0, g, d, tk0, os⟩ _ _ (D1.over st1 c0 S.zf1) fun q e hq he => ?_)
  exact hE q e (fun c o a1 a2 x => hq _ _ a2 (c0.extBut _ _ a1 x)) he
theorem nextHeldItem {Q : Option Value → Shared → Prop} (S : ZipSep2 z TI TO i1 i2 fp1 fp2) (D1 : Draws prog w A.in1 i1 fp1 n1 P1 St1) (D2 : Draws prog w A.in1 i2 fp2 n2 P2 St2)
    (hz : IsZipHeld s.heap z TI TO T f) (hT : s.heap.get? T = some oT) (hTI : IsPair s.heap TI (.ref i1) (.ref i2)) (st1 : St1 i s.heap) (st2 : St2 i s.heap) (lt1 : i < n1) (lt2 : i < n2)
    (hQ : ∀ x1 x2 h' tk, P1 i x1 → P2 i x2 → IsZipHeld h' z TI TO T true → St1 (i + 1) h' → St2 (i + 1) h' → IsPair h' s.heap.objs.size x1 x2 → h'.objs.size = s.heap.objs.size + 1 →
      (∀ c o, c ≠ z → c ≠ i1 → c ≠ i2 → s.heap.get? c = some o → h'.get? c = some o) → Q (some (.ref s.heap.objs.size)) { s with heap := h', toks := tk }) :
    wpAny (model prog w) A (pyNext (.ref z)) Q E s := by
  have ty : s.TypeIs (.ref z) "zip" := ⟨_, hz, rfl⟩
  unfold pyNext
  exact wpAny_bind (wpAny_attempt (wpAny_callSpecial?_slot (name := Str.ofString "__next__") ty PySem.F.slot_zip_next
    (wpAny_call_entry PySem.F.slot_zip_next ty PySem.F.entry_zip_next (heldItem S D1 D2 hz hT hTI st1 st2 lt1 lt2 fun x1 x2 h' tk a1 a2 a3 a4 a5 a6 a7 a8 => wpAny_pure (hQ x1 x2 h' tk a1 a2 a3 a4 a5 a6 a7 a8)) (PySem.F.args_zip_next_1 _))))
theorem nextHeldEnd {Q : Option Value → Shared → Prop} (S : ZipSep2 z TI TO i1 i2 fp1 fp2) (D1 : Draws prog w A.in1 i1 fp1 n1 P1 St1)
    (hz : IsZipHeld s.heap z TI TO T f) (hT : s.heap.get? T = some oT) (hTI : IsPair s.heap TI (.ref i1) (.ref i2)) (st1 : St1 n1 s.heap)
    (hQ : ∀ h', (∀ c o, c ≠ z → c ≠ i1 → s.heap.get? c = some o → h'.get? c = some o) → Q none { s with heap := h' }) : wpAny (model prog w) A (pyNext (.ref z)) Q E s := by
  have ty : s.TypeIs (.ref z) "zip" := ⟨_, hz, rfl⟩
  unfold pyNext
  refine wpAny_bind (wpAny_attempt (wpAny_callSpecial?_slot (name := Str.ofString "__next__") ty PySem.F.slot_zip_next
    (wpAny_call_entry PySem.F.slot_zip_next ty PySem.F.entry_zip_next (heldEnd S D1 hz hT hTI st1 fun h' e hk he => ?_) (PySem.F.args_zip_next_1 _))))
  obtain ⟨o, ho, hc⟩ := he
  exact wpAny_bind (wpAny_isInstance (T := "StopIteration") (b := true) ⟨o, ho, hc⟩ isSubtype_stop (wpAny_pure (hQ _ hk)))
end
/-- the zip z amid its walk: i pairs are out, all above B -/
structure ZGt (h : Heap) (z TI TO i1 i2 B : Addr) (P1 P2 : Nat → Value → Prop) (St1 St2 : Nat → Heap → Prop) (i : Nat) (Ts : List Addr) : Prop where
  pr : IsPair h TI (.ref i1) (.ref i2)
  s1 : St1 i h
  s2 : St2 i h
  zp : (IsZip h z TI TO .none ∧ ∃ a b, IsPair h TO a b) ∨ ∃ T f oT, IsZipHeld h z TI TO T f ∧ h.get? T = some oT ∧ B ≤ T
  len : Ts.length = i
  nd : Ts.Nodup
  out : ∀ (j : Nat) (T : Addr), Ts[j]? = some T → B ≤ T ∧ ∃ x y, P1 j x ∧ P2 j y ∧ IsPair h T x y
section
variable {P : Program} {w : World} {A : Around} {R : Result → Shared → Prop} {z TI TO i1 i2 S B : Addr} {fp1 fp2 : List Addr} {n : Nat} {P1 P2 : Nat → Value → Prop} {St1 St2 : Nat → Heap → Prop} {res : Value}
theorem zipLoopG (D : ZipSep2 z TI TO i1 i2 fp1 fp2) (D1 : Draws P w A.in1.in1 i1 fp1 n P1 St1) (D2 : Draws P w A.in1.in1 i2 fp2 n P2 St2) (few : n ≤ sizeLine)
    (lt : ∀ b, b = z ∨ b = TI ∨ b = TO ∨ b ∈ fp1 ∨ b ∈ fp2 → b < B) (ltS : S < B) (offS : S ≠ z ∧ S ≠ TI ∧ S ≠ TO ∧ S ∉ fp1 ∧ S ∉ fp2) :
    ∀ (m i : Nat) (s : Shared) (Ts : List Addr), i + m = n → B ≤ s.heap.objs.size → ZGt s.heap z TI TO i1 i2 B P1 P2 St1 St2 i Ts → (∃ c, s.heap.get? S = some (seqObj "list" (Ts.map Value.ref).toArray c)) →
      (∀ (h' : Heap) (tk : Nat) (Us : List Addr) (c' : Nat), Us.length = n → Us.Nodup → (∀ (j : Nat) (T : Addr), Us[j]? = some T → B ≤ T ∧ ∃ x y, P1 j x ∧ P2 j y ∧ IsPair h' T x y) → h'.get? S = some (seqObj "list" (Us.map Value.ref).toArray c') →
        (∀ b o, b ≠ S → b ≠ z → b ≠ TO → b ≠ i1 → b ≠ i2 → s.heap.get? b = some o → h'.get? b = some o) → R (.ok (.ret res)) { s with heap := h', toks := tk }) →
      codeAny (model P w) A (.builtin "list.extend.loop" ⟨[.ref S, .ref z, res], []⟩) R s := by
  have lz := lt z (by simp)
  have lTI := lt TI (by simp)
  have lTO := lt TO (by simp)
  have li1 := lt i1 (by simp [D.mem1])
  have li2 := lt i2 (by simp [D.mem2])
  obtain ⟨oz, oTI, oTO, of1, of2⟩ := offS
  have oi1 : S ≠ i1 := fun e => of1 (e ▸ D.mem1)
  have oi2 : S ≠ i2 := fun e => of2 (e ▸ D.mem2)
  intro m
  induction m with
  | zero =>
    intro i s Ts hi hB Z ⟨c, hS⟩ hR
    have e : i = n := by omega
    subst e
    refine codeAny_builtin PySem.F.entry_extend_loop ?_
    rw [Around.under_plainId PySem.F.plain_extend_loop _]
    show wpAny _ A.in1 (pyNext (.ref z) >>= _) _ _ s
    have fin : ∀ (h' : Heap) (tk : Nat), (∀ b o, b ≠ z → b ≠ TO → b ≠ i1 → b ≠ i2 → s.heap.get? b = some o → h'.get? b = some o) → R (.ok (.ret res)) { s with heap := h', toks := tk } := fun h' tk k => by
      refine hR h' tk Ts c Z.len Z.nd (fun j T hj => ?_) (k _ _ oz oTO oi1 oi2 hS) fun b o _ b1 b2 b3 b4 e => k b o b1 b2 b3 b4 e
      obtain ⟨q1, x, y, q2, q3, q4⟩ := Z.out j T hj
      exact ⟨q1, x, y, q2, q3, pairKeep q4 fun o e => k T o (Nat.ne_of_gt (Nat.lt_of_lt_of_le lz q1)) (Nat.ne_of_gt (Nat.lt_of_lt_of_le lTO q1)) (Nat.ne_of_gt (Nat.lt_of_lt_of_le li1 q1)) (Nat.ne_of_gt (Nat.lt_of_lt_of_le li2 q1)) e⟩
    rcases Z.zp with ⟨z1, a, b, z2⟩ | ⟨T, f, oT, z1, z2, z3⟩
    · exact wpAny_bind (PySem.wpAny_pyNext_zipD2_end D D1 D2 z1 Z.pr z2 Z.s1 Z.s2 (Nat.le_refl _) (Nat.le_refl _) (Or.inl rfl) fun h' tk k => wpAny_pure (fin h' tk fun b o b1 b2 b3 b4 e => k b o b1 b2 b3 b4 e))
    · exact wpAny_bind (nextHeldEnd D D1 z1 z2 Z.pr Z.s1 fun h' k => wpAny_pure (fin h' s.toks fun b o b1 _ b3 _ e => k b o b1 b3 e))
  | succ m ih =>
    intro i s Ts hi hB Z ⟨c, hS⟩ hR
    refine codeAny_builtin PySem.F.entry_extend_loop ?_
    rw [Around.under_plainId PySem.F.plain_extend_loop _]
    show wpAny _ A.in1 (pyNext (.ref z) >>= _) _ _ s
    have szT : (Ts.map Value.ref).toArray.size = i := by rw [List.size_toArray, List.length_map, Z.len]
    have turn : ∀ (h' : Heap) (tk : Nat) (x y : Value), P1 i x → P2 i y → ((∃ T f oT, IsZipHeld h' z TI TO T f ∧ h'.get? T = some oT ∧ B ≤ T)) → St1 (i + 1) h' → St2 (i + 1) h' → IsPair h' s.heap.objs.size x y → h'.objs.size = s.heap.objs.size + 1 →
        (∀ b o, b ≠ z → b ≠ TO → b ≠ i1 → b ≠ i2 → s.heap.get? b = some o → h'.get? b = some o) →
        wpAny (model P w) A.in1 (updateSeq S (·.push (.ref s.heap.objs.size)) >>= fun _ => again (.builtin "list.extend.loop" ⟨[.ref S, .ref z, res], []⟩))
          (fun fin s' => match fin with | .done f => R (.ok f) s' | .again c' => c'.quiet = true ∧ codeAny (model P w) A c' R s') (fun e s' => R (.error e) s') { s with heap := h', toks := tk } := by
      intro h' tk x y px py hz hw1 hw2 hp hsz k
      have hS1 := k _ _ oz oTO oi1 oi2 hS
      have lim : i + 1 ≤ sizeLine := by omega
      refine wpAny_bind (wpAny_updateSeq hS1 rfl ?_ (by rw [szT]; exact Nat.le_trans (Nat.le_of_lt (by omega : i < n)) few) (by show ((Ts.map Value.ref).toArray.push _).size ≤ sizeLine + 1; rw [Array.size_push, szT]; omega))
      refine wpAny_pure ⟨plainId_quiet PySem.F.plain_extend_loop _, ?_⟩
      have other : ∀ b o, b ≠ S → h'.get? b = some o → (h'.update S (Obj.mapSeq (·.push (Value.ref s.heap.objs.size)))).get? b = some o := fun b o nb e => (Heap.get?_update_other _ _ (Ne.symm nb)).trans e
      have nS : ∀ {b : Addr}, B ≤ b → b ≠ S := fun q => Nat.ne_of_gt (Nat.lt_of_lt_of_le ltS q)
      refine ih (i + 1) _ (Ts ++ [s.heap.objs.size]) (by omega) (by show B ≤ (h'.update S _).objs.size; rw [Heap.size_update, hsz]; exact Nat.le_trans hB (Nat.le_succ _)) ?_ ?_ fun h2 tk Us c2 u1 u0 u2 u3 u4 => ?_
      · obtain ⟨T, f, oT, z1, z2, z3⟩ := hz
        exact { pr := pairKeep Z.pr fun o e => other _ o (Ne.symm oTI) (k _ o D.TIz D.TITO D.TIi1 D.TIi2 e)
                s1 := D1.frame _ _ _ hw1 fun b hb o e => other b o (fun q => of1 (q ▸ hb)) e
                s2 := D2.frame _ _ _ hw2 fun b hb o e => other b o (fun q => of2 (q ▸ hb)) e
                zp := Or.inr ⟨T, f, oT, other _ _ (Ne.symm oz) z1, other _ _ (nS z3) z2, z3⟩
                len := by rw [List.length_append, Z.len]; rfl
                nd := List.nodup_append.mpr ⟨Z.nd, List.nodup_cons.mpr ⟨List.not_mem_nil, List.nodup_nil⟩, fun T hT U hU e => by
                  obtain ⟨j, hj⟩ := List.mem_iff_getElem?.mp hT
                  obtain ⟨_, x, y, _, _, q4⟩ := Z.out j T hj
                  rw [List.mem_singleton] at hU
                  have l := Heap.lt_size q4
                  rw [e, hU] at l
                  exact Nat.lt_irrefl _ l⟩
                out := fun j T hj => by
                  by_cases c : j < Ts.length
                  · rw [List.getElem?_append_left c] at hj
                    obtain ⟨q1, x, y, q2, q3, q4⟩ := Z.out j T hj
                    exact ⟨q1, x, y, q2, q3, pairKeep q4 fun o e => other T o (nS q1) (k T o (Nat.ne_of_gt (Nat.lt_of_lt_of_le lz q1)) (Nat.ne_of_gt (Nat.lt_of_lt_of_le lTO q1)) (Nat.ne_of_gt (Nat.lt_of_lt_of_le li1 q1)) (Nat.ne_of_gt (Nat.lt_of_lt_of_le li2 q1)) e)⟩
                  · have len := Z.len
                    rw [List.getElem?_append_right (by omega)] at hj
                    have hj2 := (List.getElem?_eq_some_iff.mp hj).1
                    rw [List.length_singleton] at hj2
                    have ej : j = i := by omega
                    subst ej
                    rw [show j - Ts.length = 0 by omega] at hj
                    injection hj with hj
                    subst hj
                    exact ⟨hB, x, y, px, py, pairKeep hp fun o e => other _ o (nS hB) e⟩ }
      · have q := Heap.get?_update_self (Obj.mapSeq (·.push (Value.ref s.heap.objs.size))) hS1 rfl
        refine ⟨_, q.trans (congrArg (fun l : Array Value => some (seqObj "list" l _)) ?_)⟩
        show (Ts.map Value.ref).toArray.push (Value.ref s.heap.objs.size) = ((Ts ++ [s.heap.objs.size]).map Value.ref).toArray
        rw [List.push_toArray, List.map_append]
        rfl
      · exact hR h2 tk Us c2 u1 u0 u2 u3 fun b o b0 b1 b2 b3 b4 e => u4 b o b0 b1 b2 b3 b4 (other b o b0 (k b o b1 b2 b3 b4 e))
    rcases Z.zp with ⟨z1, a, b, z2⟩ | ⟨T, f, oT, z1, z2, z3⟩
    · refine wpAny_bind (PySem.wpAny_pyNext_zipD2_item D D1 D2 z1 Z.pr z2 Z.s1 Z.s2 (by omega) (by omega) fun x y h' tk px py b1 b2 b3 b4 b5 b6 k => ?_)
      exact turn h' tk x y px py ⟨_, false, _, b1, b5, hB⟩ b3 b4 b5 b6 fun b o n1 n2 n3 n4 e => k b o n1 n2 n3 n4 e
    · refine wpAny_bind (nextHeldItem D D1 D2 z1 z2 Z.pr Z.s1 Z.s2 (by omega) (by omega) fun x y h' tk px py b1 b3 b4 b5 b6 k => ?_)
      have n1 : T ≠ z := Nat.ne_of_gt (Nat.lt_of_lt_of_le lz z3)
      have n3 : T ≠ i1 := Nat.ne_of_gt (Nat.lt_of_lt_of_le li1 z3)
      have n4 : T ≠ i2 := Nat.ne_of_gt (Nat.lt_of_lt_of_le li2 z3)
      exact turn h' tk x y px py ⟨T, true, oT, b1, k _ _ n1 n3 n4 z2, z3⟩ b3 b4 b5 b6 fun b o n1 _ n3 n4 e => k b o n1 n3 n4 e
theorem listZipG {E : Value → Shared → Prop} {s : Shared} {Q : Value → Shared → Prop} (D : ZipSep2 z TI TO i1 i2 fp1 fp2) (D1 : Draws P w A.in1.in1.in1 i1 fp1 n P1 St1) (D2 : Draws P w A.in1.in1.in1 i2 fp2 n P2 St2) (few : n ≤ sizeLine) (hz : IsZip s.heap z TI TO .none) (hTI : IsPair s.heap TI (.ref i1) (.ref i2)) (hTO : IsPair s.heap TO .none .none)
    (h1 : St1 0 s.heap) (h2 : St2 0 s.heap) (in1 : ∀ b ∈ fp1, b < s.heap.objs.size) (in2 : ∀ b ∈ fp2, b < s.heap.objs.size)
    (hQ : ∀ (h' : Heap) (tk : Nat) (Us : List Addr) (c' : Nat), Us.length = n → Us.Nodup → (∀ (j : Nat) (T : Addr), Us[j]? = some T → s.heap.objs.size < T ∧ ∃ x y, P1 j x ∧ P2 j y ∧ IsPair h' T x y) → h'.get? s.heap.objs.size = some (seqObj "list" (Us.map Value.ref).toArray c') →
      (∀ b o, b ≠ z → b ≠ TO → b ≠ i1 → b ≠ i2 → s.heap.get? b = some o → h'.get? b = some o) → Q (.ref s.heap.objs.size) { s with heap := h', toks := tk }) :
    wpAny (model P w) A (call (.type "list") [.ref z]) Q E s := by
  refine callType_codes (Q₁ := fun obj s1 => obj = .ref s.heap.objs.size ∧ s1 = { s with heap := s.heap.push { cls := .type "list", data := .seq #[] } }) PySem.F.called_list (PySem.F.typeCall_list_1 _) PySem.F.entry_list_init (code_list_new _ ⟨rfl, rfl⟩) fun obj s1 hs1 => ?_
  obtain ⟨rfl, rfl⟩ := hs1
  have at0 : (s.heap.push { cls := .type "list", data := .seq #[] }).get? s.heap.objs.size = some { cls := .type "list", data := .seq #[] } := Heap.get?_push_size _ rfl
  have old : ∀ b o, s.heap.get? b = some o → (s.heap.push { cls := .type "list", data := .seq #[] }).get? b = some o := fun b o e => Heap.get?_push_of_some _ e
  refine ⟨⟨_, at0, rfl⟩, PySem.F.args_list_init_2 _ _, ?_⟩
  show wpAny _ _ (do let old ← Builtin.List.listItems (.ref s.heap.objs.size); Builtin.List.listUpdate (.ref s.heap.objs.size) (fun _ => #[]); letGo old.toList.reverse; Builtin.List.listExtendWith (.ref s.heap.objs.size) (.ref z) .none) _ _ _
  refine wpAny_bind ?_
  unfold Builtin.List.listItems
  refine wpAny_bind (wpAny_seqItems at0 rfl (wpAny_pure ?_))
  show wpAny _ _ (updateSeq s.heap.objs.size (fun _ => #[]) >>= fun _ => letGo (#[] : Array Value).toList.reverse >>= fun _ => Builtin.List.listExtendWith (.ref s.heap.objs.size) (.ref z) .none) _ _ _
  refine wpAny_bind (wpAny_updateSeq at0 rfl (wpAny_bind (wpAny_letGo ?_)))
  have at1 := Heap.get?_update_self (Obj.mapSeq (fun _ => (#[] : Array Value))) at0 rfl
  have ne : ∀ {b : Addr} {o : Obj}, s.heap.get? b = some o → s.heap.objs.size ≠ b := fun e => Nat.ne_of_gt (Heap.lt_size e)
  have old1 : ∀ b o, s.heap.get? b = some o → ((s.heap.push { cls := .type "list", data := .seq #[] }).update s.heap.objs.size (Obj.mapSeq (fun _ => (#[] : Array Value)))).get? b = some o := fun b o e => (Heap.get?_update_other _ _ (ne e)).trans (old b o e)
  generalize hh1 : ((s.heap.push { cls := .type "list", data := .seq #[] }).update s.heap.objs.size (Obj.mapSeq (fun _ => (#[] : Array Value)))) = hp1 at at1 old1
  have sz1 : hp1.objs.size = s.heap.objs.size + 1 := by rw [← hh1, Heap.size_update, Heap.size_push]
  unfold Builtin.List.listExtendWith
  have tz : Shared.TypeIs { s with heap := hp1 } (.ref z) "zip" := ⟨_, old1 _ _ hz, rfl⟩
  refine wpAny_bind (wpAny_typeOf tz ?_)
  have k1 : Builtin.List.listSameRef (.ref s.heap.objs.size) (.ref z) = false := by simp [Builtin.List.listSameRef, ne hz]
  have k2 : (Value.type "zip" == Value.type "list") = false := by decide
  have k3 : (Value.type "zip" == Value.type "tuple") = false := by decide
  simp only [k1, k2, k3, Bool.or_false, Bool.false_eq_true, if_false]
  refine wpAny_bind (wpAny_pyIter_zip (old1 _ _ hz) (wpAny_bind (wpAny_holding ?_)))
  unfold Builtin.List.listLengthHint
  refine wpAny_bind (wpAny_specialOf tz zip_no_len ?_)
  show wpAny _ _ (specialOf (Value.ref z) (Str.ofString "__length_hint__") >>= _) _ _ _
  refine wpAny_bind (wpAny_specialOf tz zip_no_hint (wpAny_pure ?_))
  show wpAny _ _ (rule "list.extend.makes-room" >>= fun _ => Builtin.List.listTouch (.ref s.heap.objs.size) >>= fun _ => again (.builtin "list.extend.loop" ⟨[.ref s.heap.objs.size, .ref z, .none], []⟩)) _ _ _
  refine wpAny_bind (wpAny_rule (wpAny_bind ?_))
  show wpAny _ _ (updateSeq s.heap.objs.size (·.push .none) >>= fun _ => updateSeq s.heap.objs.size (·.pop)) _ _ _
  refine wpAny_bind (wpAny_updateSeq at1 rfl ?_)
  have at2 := Heap.get?_update_self (Obj.mapSeq (·.push Value.none)) at1 rfl
  refine wpAny_updateSeq (hz := by seq_fits) at2 rfl ?_
  have at3 := Heap.get?_update_self (Obj.mapSeq (·.pop)) at2 rfl
  have old3 : ∀ b o, s.heap.get? b = some o → ((hp1.update s.heap.objs.size (Obj.mapSeq (·.push Value.none))).update s.heap.objs.size (Obj.mapSeq (·.pop))).get? b = some o := fun b o e => (Heap.get?_update_other _ _ (ne e)).trans ((Heap.get?_update_other _ _ (ne e)).trans (old1 b o e))
  have sz3 : ((hp1.update s.heap.objs.size (Obj.mapSeq (·.push Value.none))).update s.heap.objs.size (Obj.mapSeq (·.pop))).objs.size = s.heap.objs.size + 1 := by rw [Heap.size_update, Heap.size_update, sz1]
  generalize (hp1.update s.heap.objs.size (Obj.mapSeq (·.push Value.none))).update s.heap.objs.size (Obj.mapSeq (·.pop)) = hp3 at at3 old3 sz3
  refine wpAny_pure ⟨plainId_quiet PySem.F.plain_extend_loop _, ?_⟩
  have nS1 : s.heap.objs.size ∉ fp1 := fun q => Nat.lt_irrefl _ (in1 _ q)
  have nS2 : s.heap.objs.size ∉ fp2 := fun q => Nat.lt_irrefl _ (in2 _ q)
  refine zipLoopG D D1 D2 few (B := s.heap.objs.size + 1) (fun b hb => ?_) (Nat.lt_succ_self _) ⟨ne hz, ne hTI, ne hTO, nS1, nS2⟩ n 0 _ [] (Nat.zero_add _) (Nat.le_of_eq sz3.symm) ?_ ⟨_, at3⟩ fun h' tk Us c' u1 u0 u2 u3 u4 => ?_
  · have up : ∀ {b : Addr} {o : Obj}, s.heap.get? b = some o → b < s.heap.objs.size + 1 := fun e => Nat.lt_succ_of_lt (Heap.lt_size e)
    rcases hb with rfl | rfl | rfl | q | q
    · exact up hz
    · exact up hTI
    · exact up hTO
    · exact Nat.lt_succ_of_lt (in1 _ q)
    · exact Nat.lt_succ_of_lt (in2 _ q)
  · exact { pr := old3 _ _ hTI, s1 := D1.frame _ _ _ h1 fun b _ o e => old3 _ o e, s2 := D2.frame _ _ _ h2 fun b _ o e => old3 _ o e, zp := Or.inl ⟨old3 _ _ hz, _, _, old3 _ _ hTO⟩, len := rfl, nd := List.nodup_nil, out := fun j T hj => by simp at hj }
  · exact ⟨rfl, hQ h' tk Us c' u1 u0 u2 u3 fun b o b1 b2 b3 b4 e => u4 b o (Ne.symm (ne e)) b1 b2 b3 b4 (old3 b o e)⟩
end
theorem ne_nat {a b : Nat} (h : a ≠ b) : (show Addr from a) ≠ (show Addr from b) := h
theorem off_one {a n : Nat} (h : a ≠ n) : (show Addr from a) ∉ [(show Addr from n)] := fun q => h (List.mem_singleton.mp q)
theorem off_two {a m b : Nat} (h : a ≠ m) (k : a ≠ b) : (show Addr from a) ∉ [(show Addr from m), (show Addr from b)] := fun q => by
  rcases List.mem_cons.mp q with q | q
  · exact h q
  · exact k (List.mem_singleton.mp q)
theorem sep_new (n b : Nat) (h : b < n) : ZipSep2 (n + 4) (n + 2) (n + 3) n (n + 1) [n] [n + 1, b] where
  TIz := ne_nat (a := n + 2) (b := n + 4) (by omega)
  TOz := ne_nat (a := n + 3) (b := n + 4) (by omega)
  TITO := ne_nat (a := n + 2) (b := n + 3) (by omega)
  TIi1 := ne_nat (a := n + 2) (b := n) (by omega)
  mem1 := List.mem_singleton.mpr rfl
  zf1 := off_one (a := n + 4) (n := n) (by omega)
  Tf1 := off_one (a := n + 3) (n := n) (by omega)
  TIi2 := ne_nat (a := n + 2) (b := n + 1) (by omega)
  mem2 := List.mem_cons_self
  zf2 := off_two (a := n + 4) (m := n + 1) (b := b) (by omega) (by omega)
  Tf2 := off_two (a := n + 3) (m := n + 1) (b := b) (by omega) (by omega)
  sep1_2 := off_two (a := n) (m := n + 1) (b := b) (by omega) (by omega)
  sep2_1 := off_one (a := n + 1) (n := n) (by omega)
section
variable {X : Cx} {K : PySem.W.Frag}
def tListZipT (K : PySem.W.Frag) (ta : TA) : TE := fun σ H Q => ta σ H fun vs H1 => ∃ (x : Str) (b : Addr) (ys : List V), vs = [.str x, .ref b] ∧ x.cps.size ≤ 4000 ∧ SqL K H1 b ys ∧ ys.length = x.cps.size ∧
  ∀ (L : Addr) (H2 : Hp) (Ts : List Addr), H1 L = none → Same H1 H2 → H2 L = some (.lst (Ts.map V.ref)) → Ts.length = x.cps.size → (∀ (j c : Nat) (y : V), x.cps[j]? = some c → ys[j]? = some y → ∃ T, Ts[j]? = some T ∧ H2 T = some (.tup [sg c, y])) → Q (.ref L) H2
theorem rd_lzT {ta : TA} {σ : L2.St} {H : Hp} {Q : VK} (q : ta σ H fun vs H1 => ∃ (x : Str) (b : Addr) (ys : List V), vs = [.str x, .ref b] ∧ x.cps.size ≤ 4000 ∧ SqL K H1 b ys ∧ ys.length = x.cps.size ∧
  ∀ (L : Addr) (H2 : Hp) (Ts : List Addr), H1 L = none → Same H1 H2 → H2 L = some (.lst (Ts.map V.ref)) → Ts.length = x.cps.size → (∀ (j c : Nat) (y : V), x.cps[j]? = some c → ys[j]? = some y → ∃ T, Ts[j]? = some T ∧ H2 T = some (.tup [sg c, y])) → Q (.ref L) H2) : tListZipT K ta σ H Q := q
theorem pe_listZipT {e e2 : Expr} {ta : TA} {p p2 pos q : Pos} (hc : X.calm = true) (hg : Gl X "list") (hm : X.mg "list" = none) (hg2 : Gl X "zip") (hm2 : X.mg "zip" = none) (ha : PA X [e, e2] ta)
    (hs : starEach [e, e2] X.env = (false, eval e X.env) :: starEach [e2] X.env := by rfl) (hpl : (backTo q (starEach [e2] X.env)).any (·.1) = false := by rfl) (h : X.K = K := by rfl) :
    PE X (.Call (.Name "list" p) [.Call (.Name "zip" p2) [e, e2] [] q] [] pos) (tListZipT K ta) := by
  subst h
  refine ⟨fun pins s σ H Q I want => ?_⟩
  refine Call_ (ld_blt (u := .type "list") I hg hm (by decide +kernel) (PyProof.Rows.callWith_type1 (PyProof.Rows.args_cons ?_ rfl) rfl rfl))
  refine Call_ (ld_blt I hg2 hm2 PyProof.Rows.boot_zip (PyProof.Rows.callWith_type1 (thn (ha.run q pins s σ H _ I want) fun us s1 ⟨vs, H1, I1, r1, q1⟩ => ?_) hs hpl))
  obtain ⟨x, b, ys, ex, few, hy, len, qq⟩ := q1
  subst ex
  obtain ⟨u1, u2, rfl, ra, rb⟩ : ∃ u1 u2, us = [u1, u2] ∧ RelV (.str x) u1 ∧ RelV (.ref b) u2 := by
    cases r1 with
    | cons r rr =>
      cases rr with
      | cons r' rr =>
        cases rr
        exact ⟨_, _, rfl, r, r'⟩
  obtain ⟨t, rfl⟩ := ra
  cases rb
  obtain ⟨its2, rv2, p2', z2⟩ := I1.list hy
  have l2 := rv2.length
  have lb : b < s1.heap.objs.size := p2'.lt
  have lim : x.cps.size ≤ sizeLine := by rw [sizeLine_eq]; omega
  refine zip_begins2 (begins_text x t) (begins_list b its2.toArray) trivial p2'.isList fun h' hz hTI hTO w1 w2 hsz hk => ?_
  refine PyProof.Rows.args_nil ?_
  have hd := I1.ok.hd hc
  have D := sep_new s1.heap.objs.size b lb
  have e2 : its2.toArray.size = x.cps.size := by rw [List.size_toArray]; omega
  have D2 := Draws.list (prog := X.prog) (w := X.w) (A := X.A.in1.in1.in1) (by simp [hd]) (s1.heap.objs.size + 1) b (by exact Nat.ne_of_lt (Nat.lt_succ_of_lt lb)) its2.toArray
  rw [e2] at D2
  refine listZipG (s := { s1 with heap := h' }) D (Draws.text (by simp [hd]) s1.heap.objs.size x t) D2 lim hz hTI hTO ⟨_, w1, rfl, rfl⟩ ⟨⟨_, w2, rfl, rfl⟩, p2'.isList.at fun o e => hk _ o e⟩ (fun c q => by
    have q := List.mem_singleton.mp q
    rw [q]
    show s1.heap.objs.size < h'.objs.size
    rw [hsz]
    exact Nat.lt_add_of_pos_right (by decide)) (fun c q => by
    show c < h'.objs.size
    rw [hsz]
    rcases List.mem_cons.mp q with q | q
    · rw [q]
      exact Nat.add_lt_add_left (by decide) _
    · rw [List.mem_singleton.mp q]
      exact Nat.lt_add_right 5 lb) fun h2 tk Us c' n1 n0 n2 n3 n4 => ?_
  have above : ∀ {c : Addr} {o : Obj}, s1.heap.get? c = some o → h2.get? c = some o := fun {c o} e => by
    have lt := Heap.lt_size e
    exact n4 c o (Nat.ne_of_lt (Nat.lt_add_right 4 lt)) (Nat.ne_of_lt (Nat.lt_add_right 3 lt)) (Nat.ne_of_lt lt) (Nat.ne_of_lt (Nat.lt_add_right 1 lt)) (hk c o e)
  have hsz' : h'.objs.size = s1.heap.objs.size + 5 := hsz
  -- what is tracked from here on
  have bigT : ∀ (j : Nat) (T : Addr), Us[j]? = some T → h'.objs.size < T := fun j T hj => (n2 j T hj).1
  have newT : ∀ T ∈ Us, H1 T = none ∧ T ≠ h'.objs.size := fun T hT => by
    obtain ⟨j, hj⟩ := List.mem_iff_getElem?.mp hT
    have := bigT j T hj
    exact ⟨I1.hok.fresh (Nat.le_of_lt (Nat.lt_of_le_of_lt (by rw [hsz']; exact Nat.le_add_right _ _) this)), Nat.ne_of_gt this⟩
  have newL : H1 h'.objs.size = none := I1.hok.fresh (by rw [hsz']; exact Nat.le_add_right _ _)
  have at_ : ∀ (j : Nat) (T : Addr), Us[j]? = some T → ∃ x' y u v, (x.cps.toList.map sg)[j]? = some x' ∧ ys[j]? = some y ∧ RelV x' u ∧ RelV y v ∧ IsPair h2 T u v := fun j T hj => by
    obtain ⟨_, u, v, e1, e2, pr⟩ := n2 j T hj
    obtain ⟨c, t', ec, rfl⟩ := e1
    obtain ⟨y, ey, ry⟩ := vals_get rv2 (j := j) (u := v) (by simpa using e2)
    exact ⟨sg c, y, _, v, by rw [List.getElem?_map, Array.getElem?_toList, ec]; rfl, ey, ⟨t', rfl⟩, ry, pr⟩
  let H2 : Hp := fun c => if c = h'.objs.size then some (.lst (Us.map V.ref)) else if c ∈ Us then some (.tup (pick2 Us (x.cps.toList.map sg) ys c)) else H1 c
  have gL : H2 h'.objs.size = some (.lst (Us.map V.ref)) := if_pos rfl
  have gT : ∀ (j : Nat) (T : Addr) (x' y : V), Us[j]? = some T → (x.cps.toList.map sg)[j]? = some x' → ys[j]? = some y → H2 T = some (.tup [x', y]) := fun j T x' y hj hx hy => by
    have hT := List.mem_of_getElem? hj
    show (if T = h'.objs.size then _ else if T ∈ Us then _ else _) = _
    rw [if_neg (newT T hT).2, if_pos hT, pick2_at n0 hj hx hy]
  have same2 : Same H1 H2 := fun c o e => by
    have m1 : c ≠ h'.objs.size := fun z => by
      rw [z, newL] at e
      cases e
    have m2 : c ∉ Us := fun z => by
      rw [(newT c z).1] at e
      cases e
    show (if c = h'.objs.size then _ else if c ∈ Us then _ else _) = _
    rw [if_neg m1, if_neg m2]
    exact e
  have szU : (Us.map V.ref).length ≤ sizeLine := by rw [List.length_map, n1]; exact lim
  have un : Un (frs X.stack) [] H1 H2 s1.heap h2 := Un.more (fun c o e => above e) same2 fun c e lt => by
    show (if c = h'.objs.size then _ else if c ∈ Us then _ else _) = _
    rw [if_neg fun z => by rw [z, hsz'] at lt; exact Nat.not_lt_of_le (Nat.le_add_right _ 5) lt, if_neg fun z => ?_]
    · exact e
    · obtain ⟨j, hj⟩ := List.mem_iff_getElem?.mp z
      have q := bigT j c hj
      rw [hsz'] at q
      exact Nat.lt_irrefl _ (Nat.lt_of_lt_of_le (Nat.lt_of_lt_of_le lt (Nat.le_add_right _ 5)) (Nat.le_of_lt q))
  have hok : HOk X.prog X.w H2 h2 := HOk.more I1.hok (fun c o e => above e) same2 fun c o e0 e => by
    have e' : (if c = h'.objs.size then some (.lst (Us.map V.ref)) else if c ∈ Us then some (.tup (pick2 Us (x.cps.toList.map sg) ys c)) else H1 c) = some o := e
    by_cases c1 : c = h'.objs.size
    · rw [if_pos c1] at e'
      cases e'
      subst c1
      exact ⟨szU, Us.map Value.ref, c', vals_refs Us, n3⟩
    · rw [if_neg c1] at e'
      by_cases c2 : c ∈ Us
      · obtain ⟨j, hj⟩ := List.mem_iff_getElem?.mp c2
        obtain ⟨x', y, u, v, ex, ey, rx, ry, pr⟩ := at_ j c hj
        have g := gT j c x' y hj ex ey
        rw [e] at g
        cases g
        refine ⟨by show 2 ≤ sizeLine; decide, [u, v], .cons rx (.cons ry .nil), _, pr, rfl, 0, rfl⟩
      · rw [if_neg c2, e0] at e'
        cases e'
  exact ⟨.ref h'.objs.size, H2, I1.call' (ch := []) rfl un hok I1.bare (fun _ z => nomatch z), rfl, qq h'.objs.size H2 Us newL same2 gL n1 fun j c y hx hy => by
    have lt : j < Us.length := by
      have := (Array.getElem?_eq_some_iff.mp hx).1
      omega
    exact ⟨Us[j], List.getElem?_eq_getElem lt, gT j _ (sg c) y (List.getElem?_eq_getElem lt) (by rw [List.getElem?_map, Array.getElem?_toList, hx]; rfl) hy⟩⟩
end
end LX

/-! Calls that write two or three lists; results that are owned. -/
namespace LQ
open PySem L2 LX
mutual
theorem Fr.hidF {F0 G : Hp} {ps : List Addr} (hp : ∀ p ∈ ps, ∀ xs, G p ≠ some (.tup xs)) : ∀ {v : V} {d : PyData}, Fr F0 G v d → flatD d = true → Fr F0 (hid G ps) v d
  | _, _, .non, _ => .non
  | _, _, .bl b, _ => .bl b
  | _, _, .int i, _ => .int i
  | _, _, .str x, _ => .str x
  | _, _, .lst _ _ _, e => by simp [flatD] at e
  | _, _, .tup h hs, e => .tup (by rw [hid_out fun z => hp _ z _ h]; exact h) (FrL.hidF hp hs (by simpa only [flatD] using e))
  | _, _, .dic _ _ _, e => by simp [flatD] at e
theorem FrL.hidF {F0 G : Hp} {ps : List Addr} (hp : ∀ p ∈ ps, ∀ xs, G p ≠ some (.tup xs)) : ∀ {v : List V} {d : List PyData}, FrL F0 G v d → flatDs d = true → FrL F0 (hid G ps) v d
  | _, _, .nil, _ => .nil
  | _, _, .cons h hs, e => by
    simp only [flatDs, Bool.and_eq_true] at e
    exact .cons (Fr.hidF hp h e.1) (FrL.hidF hp hs e.2)
end
section
variable {ms : List Addr} {H0 F0 G G1 G2 H H' : Hp} {cs : List (Addr × HO)} {p q r a : Addr} {o1 o2 o3 u1 u2 u3 : HO} {vs us ws : List V} {ds : List PyData}
theorem Sep.unshare (S : Sep ms H0 G2 H' cs) (f : Fr H0 G2 (.ref a) (.list ds)) : ∃ G' vs, Sep ms H0 G' H' ((a, .lst vs) :: cs) ∧ H0 a = none ∧ FrL H0 G' vs ds ∧ (∀ G0, Same G0 G2 → G0 a = none → Same G0 G') ∧ ∀ F0 vs ds, FrL F0 G2 vs ds → flatDs ds = true → FrL F0 G' vs ds := by
  obtain ⟨vs, h1, h2⟩ := li f
  have n0 := li0 f
  have out : ∀ b, b ≠ a → hid G2 [a] b = G2 b := fun b hb => hid_out fun z => hb (List.mem_singleton.mp z)
  refine ⟨hid G2 [a], vs, ⟨fun b o e => S.sub b o (hid_some e).2, fun c hc => ?_, List.nodup_cons.mpr ⟨fun z => ?_, S.nd⟩, fun p hp => List.mem_cons_of_mem _ (S.msc p hp), S.hms, S.old, fun b o e n => ?_, fun b xs e => ?_⟩, n0, FrL.off f h2 (by simp), fun G0 s n b o e => ?_, fun F0 vs ds h e => h.hidF (fun p hp xs z => ?_) e⟩
  · rcases List.mem_cons.mp hc with z | z
    · rw [z]
      exact ⟨S.sub _ _ h1, hid_in (List.mem_singleton.mpr rfl), lst_tup⟩
    · obtain ⟨k1, k2, k3⟩ := S.cel c z
      refine ⟨k1, ?_, k3⟩
      by_cases e : c.1 = a
      · exact hid_in (List.mem_singleton.mpr e)
      · rw [out _ e]
        exact k2
  · obtain ⟨c, hc, e⟩ := List.mem_map.mp z
    have := (S.cel c hc).2.1
    rw [e, h1] at this
    cases this
  · rw [out b fun z => by rw [z, n0] at e; cases e]
    exact S.base b o e n
  · have g := S.tups b xs e
    rw [out b fun z => by rw [z, h1] at g; cases g]
    exact g
  · rw [out b fun z => by rw [z, n] at e; cases e]
    exact s b o e
  · rw [List.mem_singleton.mp hp, h1] at z
    cases z
theorem ix_fst {i : Nat} {c : Addr × HO} (h : cs[i]? = some c) : (cs.map (·.1))[i]? = some c.1 := by rw [List.getElem?_map, h]; rfl
/-- after a call that has written the i-th and the j-th -/
theorem Sep.ret2 (S : Sep ms H0 G H cs) (i j : Nat) (hi : cs[i]? = some (p, o1)) (hj : cs[j]? = some (q, o2)) (n : i ≠ j) (R : Ret [p, q] H G1 H') (hp : H' p = some u1) (hq : H' q = some u2) (k1 : ∀ xs, u1 ≠ .tup xs) (k2 : ∀ xs, u2 ≠ .tup xs) :
    ∃ G', Sep ms H0 G' H' ((cs.set i (p, u1)).set j (q, u2)) ∧ Same G G' ∧ (∀ v d, Fr H G1 v d → Fr H0 G' v d) ∧ ∀ v d, FrL H G1 v d → FrL H0 G' v d := by
  have hj' : (cs.set i (p, u1))[j]? = some (q, o2) := by rw [List.getElem?_set_ne n]; exact hj
  refine S.ret R (fun b hb => ?_) ((map_fst_set hj').trans (map_fst_set hi)) fun c hc => ?_
  · rcases List.mem_cons.mp hb with z | z
    · rw [z]
      exact List.mem_map.mpr ⟨_, List.mem_of_getElem? hi, rfl⟩
    · rw [List.mem_singleton.mp z]
      exact List.mem_map.mpr ⟨_, List.mem_of_getElem? hj, rfl⟩
  · obtain ⟨l, hl⟩ := List.getElem?_of_mem hc
    by_cases e2 : l = j
    · subst e2
      rw [List.getElem?_set_self (List.getElem?_eq_some_iff.mp hj').1] at hl
      cases hl
      exact ⟨hq, k2⟩
    · rw [List.getElem?_set_ne (Ne.symm e2)] at hl
      by_cases e1 : l = i
      · subst e1
        rw [List.getElem?_set_self (List.getElem?_eq_some_iff.mp hi).1] at hl
        cases hl
        exact ⟨hp, k1⟩
      · rw [List.getElem?_set_ne (Ne.symm e1)] at hl
        have m := S.cel c (List.mem_of_getElem? hl)
        refine ⟨R.sub _ _ (R.base _ _ m.1 fun z => ?_), m.2.2⟩
        rcases List.mem_cons.mp z with z | z
        · exact e1 (nodup_ix S.nd (by rw [ix_fst hl, z]) (ix_fst hi))
        · exact e2 (nodup_ix S.nd (by rw [ix_fst hl, List.mem_singleton.mp z]) (ix_fst hj))
theorem Sep.ret3 (S : Sep ms H0 G H cs) (i j k : Nat) (hi : cs[i]? = some (p, o1)) (hj : cs[j]? = some (q, o2)) (hk : cs[k]? = some (r, o3)) (n1 : i ≠ j) (n2 : i ≠ k) (n3 : j ≠ k) (R : Ret [p, q, r] H G1 H') (hp : H' p = some u1) (hq : H' q = some u2) (hr : H' r = some u3) (k1 : ∀ xs, u1 ≠ .tup xs) (k2 : ∀ xs, u2 ≠ .tup xs) (k3 : ∀ xs, u3 ≠ .tup xs) :
    ∃ G', Sep ms H0 G' H' (((cs.set i (p, u1)).set j (q, u2)).set k (r, u3)) ∧ Same G G' ∧ (∀ v d, Fr H G1 v d → Fr H0 G' v d) ∧ ∀ v d, FrL H G1 v d → FrL H0 G' v d := by
  have hj' : (cs.set i (p, u1))[j]? = some (q, o2) := by rw [List.getElem?_set_ne n1]; exact hj
  have hk' : ((cs.set i (p, u1)).set j (q, u2))[k]? = some (r, o3) := by rw [List.getElem?_set_ne n3, List.getElem?_set_ne n2]; exact hk
  refine S.ret R (fun b hb => ?_) (((map_fst_set hk').trans (map_fst_set hj')).trans (map_fst_set hi)) fun c hc => ?_
  · rcases List.mem_cons.mp hb with z | z
    · rw [z]
      exact List.mem_map.mpr ⟨_, List.mem_of_getElem? hi, rfl⟩
    · rcases List.mem_cons.mp z with z | z
      · rw [z]
        exact List.mem_map.mpr ⟨_, List.mem_of_getElem? hj, rfl⟩
      · rw [List.mem_singleton.mp z]
        exact List.mem_map.mpr ⟨_, List.mem_of_getElem? hk, rfl⟩
  · obtain ⟨l, hl⟩ := List.getElem?_of_mem hc
    by_cases e3 : l = k
    · subst e3
      rw [List.getElem?_set_self (List.getElem?_eq_some_iff.mp hk').1] at hl
      cases hl
      exact ⟨hr, k3⟩
    · rw [List.getElem?_set_ne (Ne.symm e3)] at hl
      by_cases e2 : l = j
      · subst e2
        rw [List.getElem?_set_self (List.getElem?_eq_some_iff.mp hj').1] at hl
        cases hl
        exact ⟨hq, k2⟩
      · rw [List.getElem?_set_ne (Ne.symm e2)] at hl
        by_cases e1 : l = i
        · subst e1
          rw [List.getElem?_set_self (List.getElem?_eq_some_iff.mp hi).1] at hl
          cases hl
          exact ⟨hp, k1⟩
        · rw [List.getElem?_set_ne (Ne.symm e1)] at hl
          have m := S.cel c (List.mem_of_getElem? hl)
          refine ⟨R.sub _ _ (R.base _ _ m.1 fun z => ?_), m.2.2⟩
          rcases List.mem_cons.mp z with z | z
          · exact e1 (nodup_ix S.nd (by rw [ix_fst hl, z]) (ix_fst hi))
          · rcases List.mem_cons.mp z with z | z
            · exact e2 (nodup_ix S.nd (by rw [ix_fst hl, z]) (ix_fst hj))
            · exact e3 (nodup_ix S.nd (by rw [ix_fst hl, List.mem_singleton.mp z]) (ix_fst hk))
theorem Sep.hid2 (S : Sep ms H0 G H cs) (i j : Nat) (hi : cs[i]? = some (p, o1)) (hj : cs[j]? = some (q, o2)) : Same G (hid H [p, q]) := S.hidS fun b hb => by
  rcases List.mem_cons.mp hb with z | z
  · rw [z]
    exact S.gnone i hi
  · rw [List.mem_singleton.mp z]
    exact S.gnone j hj
theorem Sep.hid3 (S : Sep ms H0 G H cs) (i j k : Nat) (hi : cs[i]? = some (p, o1)) (hj : cs[j]? = some (q, o2)) (hk : cs[k]? = some (r, o3)) : Same G (hid H [p, q, r]) := S.hidS fun b hb => by
  rcases List.mem_cons.mp hb with z | z
  · rw [z]
    exact S.gnone i hi
  · rcases List.mem_cons.mp z with z | z
    · rw [z]
      exact S.gnone j hj
    · rw [List.mem_singleton.mp z]
      exact S.gnone k hk
theorem Sep.start3 (h : H p = some (.lst us)) (k : H q = some (.lst vs)) (l : H r = some (.lst ws)) (n1 : p ≠ q) (n2 : p ≠ r) (n3 : q ≠ r) : Sep [p, q, r] H (hid H [p, q, r]) H [(p, .lst us), (q, .lst vs), (r, .lst ws)] :=
  Sep.startM H [(p, .lst us), (q, .lst vs), (r, .lst ws)] (fun c hc => by
    rcases List.mem_cons.mp hc with z | z
    · rw [z]
      exact ⟨h, lst_tup⟩
    · rcases List.mem_cons.mp z with z | z
      · rw [z]
        exact ⟨k, lst_tup⟩
      · rw [List.mem_singleton.mp z]
        exact ⟨l, lst_tup⟩) (by simp [n1, n2, n3])
/-- another owned list, read by a call that writes ps -/
theorem Sep.rdM (S : Sep ms H0 G H cs) {ps : List Addr} (j : Nat) (hj : cs[j]? = some (q, .lst vs)) (n : q ∉ ps) (s : Same G (hid H ps)) (f : FrL F0 G vs ds) : Fr E0h (hid H ps) (.ref q) (.list ds) :=
  .lst (by rw [hid_out n]; exact S.get j hj) rfl ((f.rp).same s)
end
def compLS {α β S : Type} (f : α → S → Option (Option β × S)) (l : List α) (s : S) : Option (List β × S) := cond (decide (l.length ≤ LIM)) (compS f l s) none
section
variable {ms : List Addr} {H0 F0 G H : Hp} {α β S : Type} {K : PySem.W.Frag}
theorem q_lcLS {J : It} {Gd : Hp → Prop} {Y : Nat → Hp → V → Hp → Prop} {g : TG} {σ : L2.St} {f : α → S → Option (Option β × S)} {xs : List α} {ys : List β} {s0 s1 : S} {enc : β → PyData} {c : S → List (Addr × HO)} {A : Addr} {Qd : Hp → Prop} {tt : TT} {te : TE} {vs : List Nat}
    (hf : compLS f xs s0 = some (ys, s1)) (w : Walk J xs.length Gd Y) (S0 : Sep ms H0 G H (c s0)) (hA : H A = none) (hF : ∀ b, H b = none → F0 b = none)
    (hg : ∀ s G' H' acc, Sep ms H0 G' H' ((A, .lst acc) :: c s) → Same G G' → Gd H')
    (hs : ∀ i x a s o s' G1 H1 H2 acc, xs[i]? = some a → f a s = some (o, s') → Sep ms H0 G1 H1 ((A, .lst acc) :: c s) → Same G G1 → Y i H1 x H2 →
      ∀ (T : V → Hp → Prop) (F : Hp → Prop), (∀ y b G' H', o = some b → Sep ms H0 G' H' ((A, .lst acc) :: c s') → Same G1 G' → Fr F0 G' y (enc b) → T y H') → (∀ G' H', o = none → Sep ms H0 G' H' ((A, .lst acc) :: c s') → Same G1 G' → F H') →
      g x (wipe σ vs) H2 fun σ2 H2 => wipe σ2 vs = wipe σ vs ∧ tt σ2 H2 fun b H3 => if b = true then te σ2 H3 T else F H3)
    (hd : ∀ G' H' us, Sep ms H0 G' H' ((A, .lst us) :: c s1) → Same G G' → FrL F0 G' us (ys.map enc) → H0 A = none → F0 A = none → Qd H') : LcG J g tt te vs σ H A Qd := by
  unfold compLS at hf
  obtain ⟨h1, h2⟩ := grd hf
  exact q_lcS h2 (of_decide_eq_true h1) w S0 hA hF hg hs hd
end
theorem q_neScr {ms : List Addr} {F0 H0 G H : Hp} {cs : List (Addr × HO)} {a : Addr} {y : V} {K : PySem.W.Frag} {Q : VK} {ns : List Int} {m : List Int} {c : Bool} (S : Sep ms H0 G H cs) (f : Scr K G a ns) (g : Fr F0 H y (eL eI m)) (h : eqvF (eL eI ns) (eL eI m) = some c) (q : Q (.bl (!c)) H) : rNeD K (.ref a) y H Q := by
  obtain ⟨h1, h2, h3, h4, h5⟩ := eqv_ok h
  exact ⟨_, _, .lst (f.same S.sub).seq (dp_ints ns), g.dp h4, h1, h2, by rw [h5]; exact q⟩
theorem rd_lzTZ {K : PySem.W.Frag} {ta : TA} {σ : L2.St} {H : Hp} {Q : VK} (q : ta σ H fun vs H1 => zLzT K vs H1 Q) : tListZipT K ta σ H Q := q
end LQ

/-! ### sorted(text) -/
namespace LX
open PySem PySem.Spec PyProof.Rows L2
section
variable {P : Program} {w : World} {A : Around} {E : Value → Shared → Prop} {s : Shared}
theorem sortStr {x : Str} {t : Tok} {Q : Value → Shared → Prop} (few : x.cps.size ≤ 4000) (hh : A.handled = none)
    (hQ : ∀ (s2 : Shared) (h1 : Heap) (p : Addr) (out : Array Value) (c : Nat) (ys : List Str), (∀ b o, s.heap.get? b = some o → s2.heap.get? b = some o) → s2.gens = s.gens → s2.os = s.os → (∀ b o, s.heap.get? b = some o → h1.get? b = some o) → h1.objs.size ≤ p → s2.heap.get? p = some (seqObj "list" out c) → StrsAre out.toList ys →
      sortedS ys = true → ys.Perm (x.cps.toList.map fun c => (⟨#[c]⟩ : Str)) → Q (.ref p) s2) :
    wpAny (model P w) A (call (.builtin "sorted") [.str x t]) Q E s := by
  have lim : x.cps.size ≤ sizeLine := by rw [sizeLine_eq]; omega
  refine Calls.call_function_entry kind_sorted plain_sorted entry_sorted (args_sorted1 _) ?_
  unfold Builtin.«sorted»
  refine wpAny_bind (m := checkCount "sorted" 1 1 _) (wpAny_pure (wpAny_bind (PySem.wpAny_collect_str (A := A.in1) hh x t (hn := lim) fun s1 acc k1 g1 d1 o1 it => ?_)))
  have vv : Vals (x.cps.toList.map fun c => V.str ⟨#[c]⟩) acc.toList := by
    refine vals_strs_of _ _ (by rw [Array.length_toList, Array.length_toList]; exact it.1) fun j u hu => ?_
    obtain ⟨c, t', e1, e2⟩ := it.2 j u (by simpa using hu)
    exact ⟨c, t', by simpa using e1, e2⟩
  have txt : StrsAre acc.toList (x.cps.toList.map fun c => (⟨#[c]⟩ : Str)) := strs_of_vals (by rw [List.map_map]; exact vv)
  have few2 : acc.toList.length ≤ sizeLine := by rw [Array.length_toList, it.1]; exact lim
  have at0 : (s1.heap.push (seqObj "list" acc.toList.toArray 0)).get? s1.heap.objs.size = some (seqObj "list" acc.toList.toArray 0) := Heap.get?_push_size _ rfl
  refine wpAny_bind (wpAny_newList (wpAny_bind (wpAny_holding (wpAny_call_entry slot_list_sort ⟨_, at0, rfl⟩ entry_list_sort
    (list_sort_treeKAny PyProof.Rows.strKind_oneLt at0 txt.keysOf (fun v1 v2 rest e => keyKind_strs (by rw [← e]; exact txt)) few2 fun st p1 p2 => ⟨_, rfl, ?_⟩) (args_list_sort _)))) few2)
  obtain ⟨ys, y1, y2, y3⟩ := sorted_out_str txt p1 p2
  obtain ⟨c, hc⟩ := sortedHeap_at (vs := acc.toList) (out := (arrOf st).map (·.2)) at0
  refine wpAny_pure ⟨_, rfl, hQ _ s1.heap s1.heap.objs.size _ c ys (fun b u e => ?_) g1 o1 k1 (Nat.le_refl _) hc y1 y3 y2⟩
  have q := k1 b u e
  have lt := Heap.lt_size q
  exact (sortedHeap_old (Nat.ne_of_lt lt) (by rw [size_push']; exact Nat.lt_succ_of_lt lt)).trans (Heap.get?_push_of_some _ q)
end
section
variable {X : Cx}
def rSortX : List V → Hp → VK → Prop := fun xs H Q => ∃ z : Str, xs = [.str z] ∧ z.cps.size ≤ 4000 ∧
  ∀ p ys, H p = none → sortedS ys = true → ys.Perm (z.cps.toList.map fun c => (⟨#[c]⟩ : Str)) → Q (.ref p) (upd H p (.lst (ys.map V.str)))
theorem ksortX (hc : X.calm = true) : CallR X (.builtin "sorted") rSortX := by
  intro pins s σ H xs us Q I r h
  obtain ⟨z, rfl, few, q⟩ := h
  obtain ⟨u, rfl, t, rfl⟩ := vals1 r
  refine sortStr few (I.ok.hd hc) fun s2 h1 p out c ys k2 g2 o2 k1 hp at2 y1 y3 pm => ?_
  have hn : H p = none := HOk.fresh (fun b u e => (I.hok b u e).stay (fun c v _ q => k1 c v q) (fun c q => q) fun c xs q => q : HOk X.prog X.w H h1) hp
  have hs : s.heap.get? p = none := by
    cases e : s.heap.get? p with
    | none => rfl
    | some o => exact absurd (Heap.lt_size (k1 _ _ e)) (Nat.not_lt.mpr hp)
  have sz : (ys.map V.str).length ≤ sizeLine := by
    rw [List.length_map, pm.length_eq, List.length_map, Array.length_toList, sizeLine_eq]
    omega
  exact ⟨.ref p, _, I.call' (ch := []) o2 (Un.laidN k2 hs hn) (I.hok.laidN (o := .lst (ys.map V.str)) k2 hn ⟨sz, out.toList, c, vals_of_strs y1, at2⟩) (by rw [g2]; exact I.bare) (fun _ z => nomatch z), rfl, q p ys hn y3 pm⟩
end
end LX

/-! Lists of a dict's keys. -/
namespace LQ
open PySem PySem.Spec PyProof.Rows L2 LX
def zListD : List V → Hp → VK → Prop := fun xs H Q => ∃ (a : Addr) (kvs : List (Key × V)), xs = [.ref a] ∧ Rd H a (.dK kvs) ∧ ∀ p, H p = none → Q (.ref p) (upd H p (.lst (kvs.map fun kv => kV kv.1)))
theorem klistD {X : Cx} (hcalm : X.calm = true) : CallR X (.type "list") zListD := call_listD hcalm
section
variable {κ α : Type} [DecidableEq κ] {kk : κ → Key} {e : α → PyData} {F0 H0 G G' H H' : Hp} {kvs : List (Key × V)} {l : List (κ × α)} {k : κ} {x : α} {v y : V} {a b : Addr} {ms : List Addr} {cs : List (Addr × HO)} {Q : VK} {K : PySem.W.Frag}
theorem q_listD {kv : κ → V} (hk : ∀ k, kV (kk k) = kv k) (h1 : Rd H a (.dK kvs)) (f : FrK F0 G kvs (l.map fun p => (dKey (kk p.1), e p.2))) (q : zNew ((dkeys l).map kv) H Q) : zListD [.ref a] H Q := by
  refine ⟨a, kvs, rfl, h1, fun p hp => ?_⟩
  have : kvs.map (fun kv => kV kv.1) = (dkeys l).map kv := by
    have h := congrArg (List.map kV) (frk_keys f)
    rw [List.map_map, List.map_map] at h
    unfold dkeys
    rw [List.map_map]
    refine h.trans (List.map_congr_left fun p _ => hk p.1)
  rw [this]
  exact q p hp
theorem q_sortX {z : Str} {y : List Str} (h : charsF z = some y) (q : zNew ((sortS y).map V.str) H Q) : rSortX [.str z] H Q := by
  unfold charsF at h
  obtain ⟨h1, h2⟩ := grd h
  cases som h2
  refine ⟨z, rfl, of_decide_eq_true h1, fun p ys hp s pm => ?_⟩
  have : ys = sortS (chars z) := by
    unfold sortS
    exact List.Perm.eq_of_pairwise (le := fun a b => leS a b = true) (fun a b _ _ x y => leS_anti x y) (sorted_pw s) (List.pairwise_mergeSort leS_trans leS_total _) (pm.trans (List.mergeSort_perm _ _).symm)
  rw [this]
  exact q p hp
def sortSF (l : List Str) : Option (List Str) := cond (decide (l.length < 64)) (some (sortS l)) none
theorem q_sortSL {l y : List Str} (h1 : H a = some (.lst vs)) (f : FrL F0 G vs (l.map eS)) (h : sortSF l = some y) (q : zNew (y.map V.str) H Q) : rSortedS K [.ref a] H Q := by
  unfold sortSF at h
  obtain ⟨h2, h3⟩ := grd h
  cases som h3
  rw [frl_strs f] at h1
  refine ⟨a, l, rfl, SqL.of h1, of_decide_eq_true h2, fun ys p pm s np => ?_⟩
  have : ys = sortS l := by
    unfold sortS
    exact List.Perm.eq_of_pairwise (le := fun a b => leS a b = true) (fun a b _ _ x y => leS_anti x y) (sorted_pw s) (List.pairwise_mergeSort leS_trans leS_total _) (pm.trans (List.mergeSort_perm _ _).symm)
  rw [this]
  exact q p np
def idxF {α : Type} [DecidableEq α] (l : List α) (x : α) : Option Int := (l.findIdx? fun a => decide (a = x)).map fun j : Nat => (j : Int)
theorem idx_at {α : Type} [DecidableEq α] {l : List α} {x : α} {i : Int} (h : idxF l x = some i) : ∃ j : Nat, i = (j : Int) ∧ l[j]? = some x ∧ ∀ m, m < j → ∀ z, l[m]? = some z → z ≠ x := by
  unfold idxF at h
  obtain ⟨j, hj, rfl⟩ := Option.map_eq_some_iff.mp h
  obtain ⟨h1, h2, h3⟩ := List.findIdx?_eq_some_iff_getElem.mp hj
  refine ⟨j, rfl, by rw [List.getElem?_eq_getElem h1, of_decide_eq_true h2], fun m hm z hz e => ?_⟩
  have := h3 m hm
  rw [List.getElem?_eq_getElem (by omega)] at hz
  cases hz
  exact absurd (decide_eq_true e) (by simpa using this)
theorem q_idxS {l : List Str} {x : Str} {i : Int} (h1 : H a = some (.lst vs)) (f : FrL F0 G vs (l.map eS)) (h : idxF l x = some i) (q : Q (.int i) H) : rIndex K (.ref a) [.str x] H Q := by
  rw [frl_strs f] at h1
  obtain ⟨j, rfl, h2, h3⟩ := idx_at h
  refine ⟨a, l.map V.str, .str x, j, .str x, rfl, rfl, SqL.of h1, rfl, by rw [List.all_eq_true]; rintro _ hz; obtain ⟨u, _, rfl⟩ := List.mem_map.mp hz; rfl, by rw [List.getElem?_map, h2]; rfl, by show (x == x) = true; exact beq_self_eq_true x, fun m z' hm hz => ?_, q⟩
  rw [List.getElem?_map] at hz
  obtain ⟨u, hu, rfl⟩ := Option.map_eq_some_iff.mp hz
  show (u == x) = false
  exact beq_eq_false_iff_ne.mpr (h3 m hm u hu)
theorem q_idxI {l : List Int} {x : Int} {i : Int} (h1 : H a = some (.lst vs)) (f : FrL F0 G vs (l.map eI)) (h : idxF l x = some i) (q : Q (.int i) H) : rIndex K (.ref a) [.int x] H Q := by
  rw [frl_ints f] at h1
  obtain ⟨j, rfl, h2, h3⟩ := idx_at h
  refine ⟨a, l.map V.int, .int x, j, .int x, rfl, rfl, SqL.of h1, rfl, by rw [List.all_eq_true]; rintro _ hz; obtain ⟨u, _, rfl⟩ := List.mem_map.mp hz; rfl, by rw [List.getElem?_map, h2]; rfl, by show (x == x) = true; exact beq_self_eq_true x, fun m z' hm hz => ?_, q⟩
  rw [List.getElem?_map] at hz
  obtain ⟨u, hu, rfl⟩ := Option.map_eq_some_iff.mp hz
  show (u == x) = false
  exact beq_eq_false_iff_ne.mpr (h3 m hm u hu)
end
section
variable {X : Cx} {K : PySem.W.Frag}
theorem ksortedS (h : X.K = K := by rfl) : CallR X (.builtin "sorted") (rSortedS K) := h ▸ cr_sortedS
theorem kindex (h : X.K = K := by rfl) : MtR X "list.index" (rIndex K) := h ▸ mt_index
end
end LQ

/-! min and max of lists of numbers. -/
namespace LQ
open PySem PySem.Spec PyProof.Rows L2 LX PySem.W
def minL : List Int → Option Int
  | [] => none
  | x :: xs => some (xs.foldl min x)
def maxL : List Int → Option Int
  | [] => none
  | x :: xs => some (xs.foldl max x)
def minDL (l : List Int) (d : Int) : Int := match l with
  | [] => d
  | x :: xs => xs.foldl min x
theorem foldmin : ∀ (xs : List Int) (x : Int), (xs.foldl min x = x ∨ xs.foldl min x ∈ xs) ∧ xs.foldl min x ≤ x ∧ ∀ y ∈ xs, xs.foldl min x ≤ y
  | [], x => ⟨Or.inl rfl, Int.le_refl _, fun y h => nomatch h⟩
  | z :: xs, x => by
    obtain ⟨h1, h2, h3⟩ := foldmin xs (min x z)
    rw [List.foldl_cons]
    refine ⟨?_, by omega, fun y hy => ?_⟩
    · rcases h1 with h1 | h1
      · rw [h1]
        by_cases c : x ≤ z
        · exact Or.inl (by omega)
        · exact Or.inr (by rw [show min x z = z by omega]; exact List.mem_cons_self)
      · exact Or.inr (List.mem_cons_of_mem _ h1)
    · rcases List.mem_cons.mp hy with e | e
      · rw [e]; omega
      · exact h3 y e
theorem foldmax : ∀ (xs : List Int) (x : Int), (xs.foldl max x = x ∨ xs.foldl max x ∈ xs) ∧ x ≤ xs.foldl max x ∧ ∀ y ∈ xs, y ≤ xs.foldl max x
  | [], x => ⟨Or.inl rfl, Int.le_refl _, fun y h => nomatch h⟩
  | z :: xs, x => by
    obtain ⟨h1, h2, h3⟩ := foldmax xs (max x z)
    rw [List.foldl_cons]
    refine ⟨?_, by omega, fun y hy => ?_⟩
    · rcases h1 with h1 | h1
      · rw [h1]
        by_cases c : z ≤ x
        · exact Or.inl (by omega)
        · exact Or.inr (by rw [show max x z = z by omega]; exact List.mem_cons_self)
      · exact Or.inr (List.mem_cons_of_mem _ h1)
    · rcases List.mem_cons.mp hy with e | e
      · rw [e]; omega
      · exact h3 y e
theorem minL_is {l : List Int} {m k : Int} (h : minL l = some m) (h1 : k ∈ l) (h2 : ∀ y ∈ l, k ≤ y) : k = m := by
  cases l with
  | nil => cases h
  | cons x xs =>
    cases som h
    obtain ⟨a, b, c⟩ := foldmin xs x
    have e1 := h2 (xs.foldl min x) (by rcases a with a | a; · rw [a]; exact List.mem_cons_self
                                       · exact List.mem_cons_of_mem _ a)
    rcases List.mem_cons.mp h1 with e | e
    · omega
    · have := c k e
      omega
theorem maxL_is {l : List Int} {m k : Int} (h : maxL l = some m) (h1 : k ∈ l) (h2 : ∀ y ∈ l, y ≤ k) : k = m := by
  cases l with
  | nil => cases h
  | cons x xs =>
    cases som h
    obtain ⟨a, b, c⟩ := foldmax xs x
    have e1 := h2 (xs.foldl max x) (by rcases a with a | a; · rw [a]; exact List.mem_cons_self
                                       · exact List.mem_cons_of_mem _ a)
    rcases List.mem_cons.mp h1 with e | e
    · omega
    · have := c k e
      omega
section
variable {X : Cx} {F0 H0 G H : Hp} {a : Addr} {vs : List V} {Q : VK} {K : PySem.W.Frag} {l : List Int} {m : Int}
theorem kmin1 (hc : X.calm = true) (h : X.K = K := by rfl) : CallR X (.builtin "min") (rMin K) := h ▸ cr_min hc
theorem kmax1 (hc : X.calm = true) (h : X.K = K := by rfl) : CallR X (.builtin "max") (rMax K) := h ▸ cr_max hc
theorem q_min1 (h1 : H a = some (.lst vs)) (f : FrL F0 G vs (l.map eI)) (h : minL l = some m) (q : Q (.int m) H) : rMin K [.ref a] H Q := by
  rw [frl_ints f] at h1
  refine ⟨a, l, rfl, SqL.of h1, ?_, fun k h2 h3 => by rw [minL_is h h2 h3]; exact q⟩
  cases l with
  | nil => cases h
  | cons => exact Nat.succ_pos _
theorem q_max1 (h1 : H a = some (.lst vs)) (f : FrL F0 G vs (l.map eI)) (h : maxL l = some m) (q : Q (.int m) H) : rMax K [.ref a] H Q := by
  rw [frl_ints f] at h1
  refine ⟨a, l, rfl, SqL.of h1, ?_, fun k h2 h3 => by rw [maxL_is h h2 h3]; exact q⟩
  cases l with
  | nil => cases h
  | cons => exact Nat.succ_pos _
def zMinD (K : PySem.W.Frag) : List V → List V → Hp → VK → Prop := fun xs zs H Q => ∃ a ns d, xs = [.ref a] ∧ zs = [.int d] ∧ SqL K H a (ns.map V.int) ∧ Q (.int (minDL ns d)) H
theorem kminD (hc : X.calm = true) (hu : X.A.units + 64 < cLine) (h : X.K = K := by rfl) : CallRK X (.builtin "min") [Str.ofString "default"] (zMinD K) := by
  subst h
  intro pins s σ H xs zs us ws Q I r rz h
  obtain ⟨a, ns, d, rfl, rfl, hs, q⟩ := h
  obtain rfl := Vals.ref1 r
  obtain ⟨w1, rfl, t, rfl⟩ := vals1 rz
  obtain ⟨its, rv, hl, _⟩ := I.list hs
  refine min_list_datum_default (α := Int) (I.ok.hd hc) hl.isList (HoldAll.of_ints (by rw [List.toList_toArray]; exact rv.ints)) (by show X.A.units + 1 + 0 < cLine; omega) (fun e h' tk hk => ?_) fun y ys i v h' tk e hi hv hk => ?_
  · subst e
    exact ⟨.int d, H, I.kept hk, ⟨_, rfl⟩, q⟩
  · subst e
    obtain ⟨as, rd⟩ := hv
    obtain ⟨t2, rfl, _⟩ := reads_int_inv rd
    have : minOf y ys = ys.foldl min y := by
      unfold minOf
      have : ∀ (ys : List Int) (y : Int), ys.foldl (fun a y => if DatumOrd.lt y a = true then y else a) y = ys.foldl min y := by
        intro ys
        induction ys with
        | nil => intro y; rfl
        | cons z zs ih =>
          intro y
          rw [List.foldl_cons, List.foldl_cons, ← ih]
          congr 1
          show (if decide (z < y) = true then z else y) = min y z
          split
          · rename_i c; have := of_decide_eq_true c; omega
          · rename_i c; have : ¬ z < y := fun h => c (decide_eq_true h); omega
      exact this ys y
    exact ⟨.int _, H, I.kept hk, ⟨t2, rfl⟩, by
      rw [this]
      exact q⟩
theorem q_minD {d : Int} (h1 : H a = some (.lst vs)) (f : FrL F0 G vs (l.map eI)) (q : Q (.int (minDL l d)) H) : zMinD K [.ref a] [.int d] H Q := by
  rw [frl_ints f] at h1
  exact ⟨a, l, d, rfl, rfl, SqL.of h1, q⟩
theorem rd_kwMin {ta tk : TA} {σ : L2.St} (q : ta σ H fun vs H1 => tk σ H1 fun zs H2 => zMinD K vs zs H2 Q) : tCKw (zMinD K) ta tk σ H Q := q
end
section
variable {α : Type} {e : α → PyData} {F0 G : Hp} {a : Addr} {vs : List V} {l : List α} {K : PySem.W.Frag}
theorem w_rev (f : FrL F0 G vs (l.map e)) : Walk (Itv K a vs.length) l.reverse.length (fun H => H a = some (.lst vs)) (fun i H v H' => H' = H ∧ ∀ x, l.reverse[i]? = some x → Fr F0 G v (e x)) := by
  have h : l.reverse.length = vs.length := by rw [List.length_reverse, f.len, List.length_map]
  rw [h]
  refine walk_rev.mono (fun _ h => SqL.of h) fun i H x H' hi _ y => ⟨y.1, fun z hz => ?_⟩
  have hl : l.length = vs.length := by rw [f.len, List.length_map]
  rw [List.getElem?_reverse (by omega), hl] at hz
  exact frl_at f hz y.2
theorem rd_iRevZ {ta : TA} {σ : L2.St} {H : Hp} {R : It → Hp → Prop} (q : ta σ H fun vs H1 => ∃ (a : Addr) (xs : List V), vs = [.ref a] ∧ SqL K H1 a xs ∧ R (Itv K a xs.length) H1) : iRev K ta σ H R := q
end
section
variable {F0 G H : Hp} {a : Addr} {vs : List V} {Q : VK} {K : PySem.W.Frag}
theorem frl_oI {l : List (Option Int)} (h : FrL F0 G vs (l.map (eO eI))) : vs = l.map (vO V.int) := by
  induction l generalizing vs with
  | nil => cases h; rfl
  | cons x l ih => cases h with
    | cons f hs => rw [List.map_cons, ih hs, fr_oI f]
theorem frl_oS {l : List (Option Str)} (h : FrL F0 G vs (l.map (eO eS))) : vs = l.map (vO V.str) := by
  induction l generalizing vs with
  | nil => cases h; rfl
  | cons x l ih => cases h with
    | cons f hs => rw [List.map_cons, ih hs, fr_oS f]
theorem eqV_oI (i j : Option Int) : eqV (vO V.int i) (vO V.int j) = decide (i = j) := by
  cases i <;> cases j <;> first | rfl | (rename_i a b; exact Bool.eq_iff_iff.mpr ⟨fun h => decide_eq_true (by rw [eq_of_beq (show (a == b) = true from h)]), fun h => by have h2 := Option.some.inj (of_decide_eq_true h); subst h2; exact beq_self_eq_true a⟩)
theorem eqV_oS (i j : Option Str) : eqV (vO V.str i) (vO V.str j) = decide (i = j) := by
  cases i <;> cases j <;> first | rfl | (rename_i a b; exact Bool.eq_iff_iff.mpr ⟨fun h => decide_eq_true (by rw [eq_of_beq (show (a == b) = true from h)]), fun h => by have h2 := Option.some.inj (of_decide_eq_true h); subst h2; exact beq_self_eq_true a⟩)
theorem inV_o {β : Type} {f : β → V} (hf : ∀ i j, eqV (f i) (f j) = true ↔ i = j) (i : β) (l : List β) [Decidable (i ∈ l)] : inV (f i) (l.map f) = decide (i ∈ l) := by
  unfold inV
  rw [List.any_map]
  by_cases h : i ∈ l
  · rw [decide_eq_true h]
    exact List.any_eq_true.mpr ⟨i, h, (hf i i).mpr rfl⟩
  · rw [decide_eq_false h]
    refine Bool.eq_false_iff.mpr fun z => h ?_
    obtain ⟨k, h1, h2⟩ := List.any_eq_true.mp z
    first
      | exact (hf _ _).mp h2 ▸ h1
      | exact ((hf _ _).mp h2).symm ▸ h1
theorem iff_oI (i j : Option Int) : eqV (vO V.int i) (vO V.int j) = true ↔ i = j := by rw [eqV_oI, decide_eq_true_iff]
theorem iff_oS (i j : Option Str) : eqV (vO V.str i) (vO V.str j) = true ↔ i = j := by rw [eqV_oS, decide_eq_true_iff]
theorem flatV_oI (o : Option Int) : flatV (vO V.int o) = true := by cases o <;> rfl
theorem flatV_oS (o : Option Str) : flatV (vO V.str o) = true := by cases o <;> rfl
theorem all_oI (l : List (Option Int)) : (l.map (vO V.int)).all flatV = true := by
  rw [List.all_eq_true]
  intro x hx
  obtain ⟨o, _, rfl⟩ := List.mem_map.mp hx
  exact flatV_oI o
theorem all_oS (l : List (Option Str)) : (l.map (vO V.str)).all flatV = true := by
  rw [List.all_eq_true]
  intro x hx
  obtain ⟨o, _, rfl⟩ := List.mem_map.mp hx
  exact flatV_oS o
theorem q_inOI {i : Option Int} {l : List (Option Int)} (h : H a = some (.lst vs)) (f : FrL F0 G vs (l.map (eO eI))) (q : Q (.bl (decide (i ∈ l))) H) : rIn K false (vO V.int i) (.ref a) H Q := by
  rw [frl_oI f] at h
  exact rd_isin h (flatV_oI i) (all_oI l) (inV_o iff_oI i l) q
theorem q_niOI {i : Option Int} {l : List (Option Int)} (h : H a = some (.lst vs)) (f : FrL F0 G vs (l.map (eO eI))) (q : Q (.bl (!decide (i ∈ l))) H) : rIn K true (vO V.int i) (.ref a) H Q := by
  rw [frl_oI f] at h
  exact rd_notin h (flatV_oI i) (all_oI l) (inV_o iff_oI i l) q
theorem q_inOS {i : Option Str} {l : List (Option Str)} (h : H a = some (.lst vs)) (f : FrL F0 G vs (l.map (eO eS))) (q : Q (.bl (decide (i ∈ l))) H) : rIn K false (vO V.str i) (.ref a) H Q := by
  rw [frl_oS f] at h
  exact rd_isin h (flatV_oS i) (all_oS l) (inV_o iff_oS i l) q
theorem q_niOS {i : Option Str} {l : List (Option Str)} (h : H a = some (.lst vs)) (f : FrL F0 G vs (l.map (eO eS))) (q : Q (.bl (!decide (i ∈ l))) H) : rIn K true (vO V.str i) (.ref a) H Q := by
  rw [frl_oS f] at h
  exact rd_notin h (flatV_oS i) (all_oS l) (inV_o iff_oS i l) q
/-- none of them is None -/
def unO {α : Type} : List (Option α) → Option (List α)
  | [] => some []
  | x :: xs => x.bind fun y => (unO xs).bind fun ys => some (y :: ys)
theorem unO_is {α : Type} : ∀ {l : List (Option α)} {m : List α}, unO l = some m → l = m.map some
  | [], m, h => by cases som h; rfl
  | x :: xs, m, h => by
    obtain ⟨y, h1, h⟩ := bnd h
    obtain ⟨ys, h2, h⟩ := bnd h
    cases som h
    rw [List.map_cons, ← unO_is h2, h1]
theorem frl_un {α : Type} {e : α → PyData} {l : List (Option α)} {m : List α} (h : unO l = some m) (f : FrL F0 G vs (l.map (eO e))) : FrL F0 G vs (m.map e) := by
  rw [unO_is h, List.map_map] at f
  exact f
end
theorem rd_lenAL {K : PySem.W.Frag} {xs : List V} {H : Hp} {Q : VK} (q : qLen K xs H Q) : qLenA K xs H Q := Or.inl q
theorem rd_lenAS {K : PySem.W.Frag} {xs : List V} {H : Hp} {Q : VK} (q : zLenS xs H Q) : qLenA K xs H Q := Or.inr q
theorem rd_listAL {K : PySem.W.Frag} {xs : List V} {H : Hp} {Q : VK} (q : qList K xs H Q) : qListA K xs H Q := Or.inl q
theorem rd_listAS {K : PySem.W.Frag} {xs : List V} {H : Hp} {Q : VK} (q : rListS xs H Q) : qListA K xs H Q := Or.inr q
section
variable {F0 G G' : Hp} {a : Addr}
theorem Fr.frzor {v : V} {x : PyData} (f : Fr F0 G v x) (d : G' = G ∨ FrzG G a G') : Fr F0 G' v x := by
  rcases d with rfl | d
  · exact f
  · exact f.frz d
theorem FrL.frzor {v : List V} {x : List PyData} (f : FrL F0 G v x) (d : G' = G ∨ FrzG G a G') : FrL F0 G' v x := by
  rcases d with rfl | d
  · exact f
  · exact f.frz d
theorem FrK.frzor {v : List (Key × V)} {x : List (PyData × PyData)} (f : FrK F0 G v x) (d : G' = G ∨ FrzG G a G') : FrK F0 G' v x := by
  rcases d with rfl | d
  · exact f
  · exact f.frz d
theorem _root_.LX.Scr.frzor {K : PySem.W.Frag} {ns : List Int} {l : Addr} (f : Scr K G l ns) (d : G' = G ∨ FrzG G a G') : Scr K G' l ns := by
  rcases d with rfl | d
  · exact f
  · exact f.frz d
end
theorem rd_zpA {K : PySem.W.Frag} {ta : TA} {σ : L2.St} {H : Hp} {R : It → Hp → Prop} (q : ta σ H fun vs H1 => ∃ a b xs ys, vs = [.ref a, .ref b] ∧ ((SqL K H1 a xs ∧ SqL K H1 b ys ∧ R (Itz K a b) H1) ∨ (SqT K H1 a xs ∧ SqT K H1 b ys ∧ R (RZ.ItzT K a b) H1))) : RZ.iZipA K ta σ H R := q
end LQ

/-! Data that a law's comparing def finds equal: lists and plain values, less deep than n. -/
namespace LQ
open PySem L2 LX
def okSD : Nat → PyData → PyData → Bool
  | 0, _, _ => false
  | n + 1, d, e => match d, e with
    | .none, .none => true
    | .bool a, .bool b => a == b
    | .int a, .int b => a == b
    | .str a, .str b => a == b
    | .list xs, .list ys => decide (xs.length = ys.length) && decide (xs.length ≤ 1000) && (xs.zip ys).all fun p => okSD n p.1 p.2
    | _, _ => false
/-- the same with tuples, without truth values -/
def okST : Nat → PyData → PyData → Bool
  | 0, _, _ => false
  | n + 1, d, e => match d, e with
    | .none, .none => true
    | .int a, .int b => a == b
    | .str a, .str b => a == b
    | .list xs, .list ys => decide (xs.length = ys.length) && decide (xs.length ≤ 1000) && (xs.zip ys).all fun p => okST n p.1 p.2
    | .tuple xs, .tuple ys => decide (xs.length = ys.length) && decide (xs.length ≤ 1000) && (xs.zip ys).all fun p => okST n p.1 p.2
    | _, _ => false
/-- two values that are the same data -/
def SDL : Nat → Hp → V → V → Prop
  | 0, _, _, _ => False
  | n + 1, H, v, e => ((v = .non ∧ e = .non) ∨ ∃ b : Bool, v = .bl b ∧ e = .bl b) ∨ (∃ i : Int, v = .int i ∧ e = .int i) ∨ (∃ x : Str, v = .str x ∧ e = .str x) ∨
    (∃ (c d : Addr) (xs ys : List V), v = .ref c ∧ e = .ref d ∧ H c = some (.lst xs) ∧ H d = some (.lst ys) ∧ xs.length = ys.length ∧ xs.length ≤ 1000 ∧ ∀ (i : Nat) (x y : V), xs[i]? = some x → ys[i]? = some y → SDL n H x y)
theorem SDL.mono {H H' : Hp} (s : Same H H') : ∀ (n : Nat) (v e : V), SDL n H v e → SDL n H' v e
  | 0, _, _, h => h.elim
  | n + 1, v, e, h => by
    rcases h with h | h | h | ⟨c, d, xs, ys, rfl, rfl, h1, h2, h3, h4, h5⟩
    · exact Or.inl h
    · exact Or.inr (Or.inl h)
    · exact Or.inr (Or.inr (Or.inl h))
    · exact Or.inr (Or.inr (Or.inr ⟨c, d, xs, ys, rfl, rfl, s _ _ h1, s _ _ h2, h3, h4, fun i x y hx hy => SDL.mono s n x y (h5 i x y hx hy)⟩))
theorem frl_get {F0 G : Hp} : ∀ {vs : List V} {ds : List PyData} (i : Nat) {v : V}, FrL F0 G vs ds → vs[i]? = some v → ∃ d, ds[i]? = some d ∧ Fr F0 G v d
  | _, _, _, _, .nil, h => by simp at h
  | _, _, 0, _, .cons f _, h => ⟨_, rfl, by cases (show some _ = some _ from h); exact f⟩
  | _, _, i + 1, _, .cons _ fs, h => frl_get i fs h
theorem sdl_of {H : Hp} : ∀ (n : Nat) {v e : V} {x y : PyData}, Fr E0h H v x → Fr E0h H e y → okSD n x y = true → SDL n H v e
  | 0, _, _, _, _, _, _, h => nomatch h
  | n + 1, v, e, x, y, f, g, h => by
    cases f with
    | non => cases g <;> first | exact Or.inl (Or.inl ⟨rfl, rfl⟩) | exact absurd h Bool.false_ne_true
    | bl b =>
      cases g with
      | bl c =>
        have : b = c := eq_of_beq (show (b == c) = true from h)
        subst this
        exact Or.inl (Or.inr ⟨b, rfl, rfl⟩)
      | _ => exact absurd h Bool.false_ne_true
    | int i =>
      cases g with
      | int j =>
        have : i = j := eq_of_beq (show (i == j) = true from h)
        subst this
        exact Or.inr (Or.inl ⟨i, rfl, rfl⟩)
      | _ => exact absurd h Bool.false_ne_true
    | str i =>
      cases g with
      | str j =>
        have : i = j := eq_of_beq (show (i == j) = true from h)
        subst this
        exact Or.inr (Or.inr (Or.inl ⟨i, rfl, rfl⟩))
      | _ => exact absurd h Bool.false_ne_true
    | lst h1 _ hs =>
      cases g with
      | lst k1 _ ks =>
        simp only [okSD, Bool.and_eq_true, decide_eq_true_iff, List.all_eq_true] at h
        refine Or.inr (Or.inr (Or.inr ⟨_, _, _, _, rfl, rfl, h1, k1, by rw [hs.len, ks.len]; exact h.1.1, by rw [hs.len]; exact h.1.2, fun i u w hu hw => ?_⟩))
        obtain ⟨d, hd, fd⟩ := frl_get i hs hu
        obtain ⟨d2, hd2, fd2⟩ := frl_get i ks hw
        refine sdl_of n fd fd2 (h.2 (d, d2) ?_)
        refine List.mem_of_getElem? (i := i) ?_
        rw [List.getElem?_zip_eq_some]
        exact ⟨hd, hd2⟩
      | _ => exact absurd h Bool.false_ne_true
    | tup h1 hs => cases g <;> exact absurd h Bool.false_ne_true
    | dic h1 _ hs => cases g <;> exact absurd h Bool.false_ne_true
theorem Ret.same {H H' : Hp} (s : Same H H') : Ret [] H H' H' := ⟨fun _ _ e => e, fun _ h => absurd h List.not_mem_nil, fun b o e _ => s b o e, (fun b e => by
  cases h : H b with
  | none => rfl
  | some o => rw [s b o h] at e; cases e), fun _ _ e => e⟩
/-- data that are lists of plain values are the same as themselves -/
theorem okSD_list {α : Type} {e : α → PyData} {n : Nat} {l : List α} (z : l.length ≤ 1000) (h : ∀ x ∈ l, okSD n (e x) (e x) = true) : okSD (n + 1) (eL e l) (eL e l) = true := by
  show (decide ((l.map e).length = (l.map e).length) && decide ((l.map e).length ≤ 1000) && ((l.map e).zip (l.map e)).all fun p => okSD n p.1 p.2) = true
  rw [decide_eq_true rfl, decide_eq_true (by rw [List.length_map]; exact z), Bool.true_and, Bool.true_and, List.all_eq_true]
  intro p hp
  have key : ∀ l : List α, (∀ x ∈ l, okSD n (e x) (e x) = true) → ∀ p ∈ (l.map e).zip (l.map e), okSD n p.1 p.2 = true := by
    intro l
    induction l with
    | nil => intro _ p hp; cases hp
    | cons x l ih =>
      intro h p hp
      rw [List.map_cons, List.zip_cons_cons] at hp
      rcases List.mem_cons.mp hp with c | c
      · rw [c]; exact h x List.mem_cons_self
      · exact ih (fun y hy => h y (List.mem_cons_of_mem _ hy)) p c
  exact key l h p hp
theorem okSD_int (n : Nat) (i : Int) : okSD (n + 1) (eI i) (eI i) = true := beq_self_eq_true i
theorem okSD_str (n : Nat) (i : Str) : okSD (n + 1) (eS i) (eS i) = true := beq_self_eq_true i
theorem okSD_bool (n : Nat) (i : Bool) : okSD (n + 1) (eB i) (eB i) = true := beq_self_eq_true i
theorem okSD_oI (n : Nat) (i : Option Int) : okSD (n + 1) (eO eI i) (eO eI i) = true := by
  cases i
  · rfl
  · exact beq_self_eq_true _
end LQ
namespace LQF
def F__law_same (x y : PySem.PyData) : Option Bool := cond (LQ.okSD 4 x y) (some true) none
def F__law_equal (x y : PySem.PyData) : Option Bool := cond (LQ.okST 4 x y) (some true) none
end LQF

/-! Deep members, locked dicts, lists shown at once. -/
namespace LQ
open PySem PySem.Spec PyProof.Rows L2 LX
theorem units65 {k : Nat} {A : Around} (r : Room k A) : A.units + 65 < cLine := by have := r.un; omega
section
variable {ms : List Addr} {F0 F1 H0 G G' H H' H2 : Hp} {cs : List (Addr × HO)} {a b p : Addr} {vs us : List V} {K : PySem.W.Frag} {Q : VK} {v x y : V} {d : PyData} {ds : List PyData} {X : Cx}
theorem kinD (hu : X.A.units + 65 < cLine) (h : X.K = K := by rfl) : OpR X (compareOp .In) (rInD K) := h ▸ op_inD hu
theorem knotInD (hu : X.A.units + 65 < cLine) (h : X.K = K := by rfl) : OpR X (compareOp .NotIn) (rNotInD K) := h ▸ op_notInD hu
theorem kindexD (hu : X.A.units + 65 < cLine) (h : X.K = K := by rfl) : MtR X "list.index" (rIndexD K) := h ▸ mt_indexD hu
def okD (d : PyData) : Bool := SeqAt.shaped d && !d.hasDict
def inDF (d : PyData) (ds : List PyData) : Option Bool := cond (okD d && okD (.list ds)) (some (ds.any fun z => PyData.eqv z d)) none
def idxDF (d : PyData) (ds : List PyData) : Option Int := cond (okD d && okD (.list ds)) ((ds.findIdx? fun z => PyData.eqv z d).map fun j : Nat => (j : Int)) none
theorem okD_is (h : okD d = true) : SeqAt.shaped d = true ∧ d.hasDict = false := by
  unfold okD at h
  rw [Bool.and_eq_true, Bool.not_eq_true'] at h
  exact h
theorem inDF_is {t : Bool} (h : inDF d ds = some t) : (SeqAt.shaped d = true ∧ d.hasDict = false) ∧ (SeqAt.shaped (.list ds) = true ∧ (PyData.list ds).hasDict = false) ∧ (ds.any fun z => PyData.eqv z d) = t := by
  unfold inDF at h
  obtain ⟨h1, h2⟩ := grd h
  rw [Bool.and_eq_true] at h1
  exact ⟨okD_is h1.1, okD_is h1.2, som h2⟩
theorem q_inD {t : Bool} (f : Fr F0 H x d) (g : Fr F1 H y (.list ds)) (h : inDF d ds = some t) (q : Q (.bl t) H) : rInD K x y H Q := by
  obtain ⟨h1, h2, h3⟩ := inDF_is h
  exact ⟨d, ds, f.dp h1.2, g.dp h2.2, h1.1, h2.1, by rw [h3]; exact q⟩
theorem q_niD {t : Bool} (f : Fr F0 H x d) (g : Fr F1 H y (.list ds)) (h : inDF d ds = some t) (q : Q (.bl (!t)) H) : rNotInD K x y H Q := by
  obtain ⟨h1, h2, h3⟩ := inDF_is h
  exact ⟨d, ds, f.dp h1.2, g.dp h2.2, h1.1, h2.1, by rw [h3]; exact q⟩
theorem findIdx_is {α : Type} {p : α → Bool} : ∀ {l : List α} {j : Nat}, l.findIdx? p = some j → (∃ z, l[j]? = some z ∧ p z = true) ∧ ∀ m z, m < j → l[m]? = some z → p z = false := fun {l j} h => by
  obtain ⟨h1, h2, h3⟩ := List.findIdx?_eq_some_iff_getElem.mp h
  refine ⟨⟨l[j], List.getElem?_eq_getElem h1, h2⟩, fun m z hm hz => ?_⟩
  obtain ⟨h4, h5⟩ := List.getElem?_eq_some_iff.mp hz
  have := h3 m hm
  rw [h5] at this
  simpa using this
theorem q_idxD {i : Int} (f : Fr F0 H x d) (g : Fr F1 H (.ref a) (.list ds)) (h : idxDF d ds = some i) (q : Q (.int i) H) : rIndexD K (.ref a) [x] H Q := by
  unfold idxDF at h
  obtain ⟨h1, h2⟩ := grd h
  rw [Bool.and_eq_true] at h1
  obtain ⟨k1, k2⟩ := okD_is h1.1
  obtain ⟨k3, k4⟩ := okD_is h1.2
  obtain ⟨j, hj, e⟩ := Option.map_eq_some_iff.mp h2
  obtain ⟨⟨z, h3, h4⟩, h5⟩ := findIdx_is hj
  exact ⟨a, x, d, ds, j, z, rfl, rfl, g.dp k4, f.dp k2, k3, k1, h3, h4, fun m z' hm hz => h5 m z' hm hz, by
    have e' : (Int.ofNat j) = i := e
    show Q (.int (Int.ofNat j)) H
    rw [e']
    exact q⟩
theorem frl_some {α : Type} {e : α → PyData} {l : List α} (f : FrL F0 G vs (l.map e)) : FrL F0 G vs ((l.map some).map (eO e)) := by rw [List.map_map]; exact f
/-- a list for the moment: it holds what is read now, owned things too -/
theorem q_lstT (S : Sep ms H0 G H cs) (z : vs.length ≤ LIM) (f : FrL E0h H vs ds) (q : ∀ p G' H', Sep ms H0 G' H' cs → Same G G' → Fr E0h H' (.ref p) (.list ds) → Q (.ref p) H') : zLst vs H Q :=
  ⟨lim_le z, fun p hp => q p _ _ (S.sh hp) (sNew (S.gfree hp)) (.lst upd_same rfl (f.same (sNew hp)))⟩
/-! an owned dict that is walked in an expression -/
theorem frz_tup {od : Obj} {u : HO} : ∀ xs, HO.frz od u ≠ .tup xs := fun _ z => by cases z
theorem dK_tup {kvs : List (Key × V)} : ∀ xs, HO.dK kvs ≠ .tup xs := fun _ z => by cases z
theorem q_lockE {t : TE} {σ : L2.St} {kvs : List (Key × V)} (S : Sep ms H0 G H cs) (i : Nat) (h : cs[i]? = some (a, .dK kvs)) (q : ∀ od H', Sep ms H0 G H' (cs.set i (a, .frz od (.dK kvs))) → t σ H' fun v H2 => H2 a = some (.frz od (.dK kvs)) ∧ Q v (upd H2 a (.dK kvs))) : tLockE t σ H Q :=
  ⟨a, _, S.get i h, True.intro, fun od => q od _ (S.put i h frz_tup)⟩
theorem q_unlockE {kvs : List (Key × V)} {od : Obj} (S : Sep ms H0 G H cs) (i : Nat) (h : cs[i]? = some (a, .frz od (.dK kvs))) (q : ∀ H', Sep ms H0 G H' (cs.set i (a, .dK kvs)) → Q v H') : H a = some (.frz od (.dK kvs)) ∧ Q v (upd H a (.dK kvs)) :=
  ⟨S.get i h, q _ (S.put i h dK_tup)⟩
def lkD (D : Ends) (a : Addr) (od : Obj) (u : HO) : Ends := ⟨fun σ' H' => H' a = some (.frz od u) ∧ D.nx σ' (upd H' a u), fun v H' => H' a = some (.frz od u) ∧ D.rt v (upd H' a u), fun σ' H' => H' a = some (.frz od u) ∧ D.bk σ' (upd H' a u), fun σ' H' => H' a = some (.frz od u) ∧ D.ct σ' (upd H' a u)⟩
theorem q_lockS {t : TS} {D : Ends} {σ : L2.St} {kvs : List (Key × V)} (S : Sep ms H0 G H cs) (i : Nat) (h : cs[i]? = some (a, .dK kvs)) (q : ∀ od H', Sep ms H0 G H' (cs.set i (a, .frz od (.dK kvs))) → t (lkD D a od (.dK kvs)) σ H') : tLock t D σ H :=
  ⟨a, _, S.get i h, True.intro, fun od => q od _ (S.put i h frz_tup)⟩
theorem q_unlockS {D : Ends} {σ : L2.St} {kvs : List (Key × V)} {od : Obj} (S : Sep ms H0 G H cs) (i : Nat) (h : cs[i]? = some (a, .frz od (.dK kvs))) (q : ∀ H', Sep ms H0 G H' (cs.set i (a, .dK kvs)) → D.nx σ H') : (lkD D a od (.dK kvs)).nx σ H :=
  ⟨S.get i h, q _ (S.put i h dK_tup)⟩
end
end LQ

/-! min of a list of alike data; tuples of what is owned. -/
namespace LQ
open PySem PySem.Spec PyProof.Rows L2 LX
theorem minD_mem : ∀ (xs : List PyData) (x : PyData), PySem.W.minD x xs ∈ x :: xs
  | [], x => List.mem_cons_self
  | y :: xs, x => by
    show PySem.W.minD (if PySem.W.dataLt y x then y else x) xs ∈ _
    have := minD_mem xs (if PySem.W.dataLt y x then y else x)
    rcases List.mem_cons.mp this with h | h
    · rw [h]
      split
      · exact List.mem_cons_of_mem _ List.mem_cons_self
      · exact List.mem_cons_self
    · exact List.mem_cons_of_mem _ (List.mem_cons_of_mem _ h)
def zMinT (K : PySem.W.Frag) : List V → Hp → VK → Prop := fun vs H Q => ∃ (a : Addr) (xs : List V) (x : PyData) (r : List PyData), vs = [.ref a] ∧ SqL K H a xs ∧ DpAll K H xs (x :: r) ∧ PySem.W.AlikeAll (x :: r) ∧ PyData.canLayAll0 (x :: r) = true ∧ PyData.depthAll (x :: r) ≤ 60 ∧
  ∀ (i : Nat) (v : V), xs[i]? = some v → (x :: r)[i]? = some (PySem.W.minD x r) → Q v H
theorem canLay_mem : ∀ {ds : List PyData} {d : PyData}, PyData.canLayAll0 ds = true → d ∈ ds → d.canLay0 = true
  | [], _, _, h => nomatch h
  | x :: ds, d, c, h => by
    simp only [PyData.canLayAll0, Bool.and_eq_true] at c
    rcases List.mem_cons.mp h with e | e
    · rw [e]; exact c.1
    · exact canLay_mem c.2 e
theorem kminT {X : Cx} {K : PySem.W.Frag} (hc : X.calm = true) (hu : X.A.units + 64 < cLine) (h : X.K = K := by rfl) : CallR X (.builtin "min") (zMinT K) := by
  subst h
  intro pins s σ H vs us Q I r h
  obtain ⟨a, xs, x, ds, rfl, hs, ha, al, cl, dp, q⟩ := h
  obtain rfl := Vals.ref1 r
  obtain ⟨its, rv, hl, _⟩ := I.list hs
  obtain ⟨as, h4⟩ := Dp.readsAll I (x :: ds) _ its ha rv
  refine PySem.W.min_list_data (I.ok.hd hc) hl.isList (x := x) (xs := ds) (as := as) (by rw [List.toList_toArray]; exact h4) al (by show X.A.units + 1 + _ < cLine; omega) fun i u h' tk bs hi hr hk => ?_
  have hi' : its[i]? = some u := by simpa using hi
  have il := (List.getElem?_eq_some_iff.mp hi').1
  have hv : xs[i]? = some (xs[i]'(by rw [rv.length]; exact il)) := List.getElem?_eq_getElem _
  obtain ⟨u', hu', ru⟩ := rv.get hv
  rw [hi'] at hu'
  cases hu'
  obtain ⟨cs, r2, i2, m2, _⟩ := PySem.W.readsAll_at h4 i u hi'
  have e1 := SeqAt.readOf_eq (canLay_mem cl (minD_mem ds x)) hr
  have e2 := SeqAt.readOf_eq (canLay_mem cl m2) (PySem.W.reads_keeps hk r2)
  refine ⟨_, H, I.kept hk, ru, q i _ hv ?_⟩
  rw [List.getElem?_eq_getElem i2, ← e1, e2]
  congr 1
  rw [List.getD_eq_getElem?_getD, List.getElem?_eq_getElem i2]
  rfl
/-- the least, typed -/
def minAt {α : Type} (e : α → PyData) : List α → Option α
  | [] => none
  | x :: xs => cond (((x :: xs).all fun a => (x :: xs).all fun b => PySem.W.alike (e a) (e b)) && ((x :: xs).all fun a => (e a).canLay0 && decide ((e a).depth ≤ 50) && !(e a).hasDict && !(match e a with | .none => true | _ => false)))
    (some (xs.foldl (fun a y => if PySem.W.dataLt (e y) (e a) = true then y else a) x)) none
theorem minAt_fold {α : Type} (e : α → PyData) : ∀ (xs : List α) (x : α), e (xs.foldl (fun a y => if PySem.W.dataLt (e y) (e a) = true then y else a) x) = PySem.W.minD (e x) (xs.map e)
  | [], _ => rfl
  | y :: xs, x => by
    rw [List.foldl_cons, minAt_fold e xs]
    show _ = PySem.W.minD (if PySem.W.dataLt (e y) (e x) then e y else e x) (xs.map e)
    congr 1
    split <;> rfl
theorem depth_all {n : Nat} : ∀ {ds : List PyData}, (∀ d ∈ ds, d.depth ≤ n) → PyData.depthAll ds ≤ n
  | [], _ => by simp only [PyData.depthAll]; omega
  | d :: ds, h => by
    simp only [PyData.depthAll]
    have := h d List.mem_cons_self
    have := depth_all fun y hy => h y (List.mem_cons_of_mem _ hy)
    omega
theorem canLay_all : ∀ {ds : List PyData}, (∀ d ∈ ds, d.canLay0 = true) → PyData.canLayAll0 ds = true
  | [], _ => by simp only [PyData.canLayAll0]
  | d :: ds, h => by
    simp only [PyData.canLayAll0, Bool.and_eq_true]
    exact ⟨h d List.mem_cons_self, canLay_all fun y hy => h y (List.mem_cons_of_mem _ hy)⟩
theorem hasDict_all : ∀ {ds : List PyData}, (∀ d ∈ ds, d.hasDict = false) → PyData.hasDictAll ds = false
  | [], _ => by simp only [PyData.hasDictAll]
  | d :: ds, h => by
    simp only [PyData.hasDictAll, Bool.or_eq_false_iff]
    exact ⟨h d List.mem_cons_self, hasDict_all fun y hy => h y (List.mem_cons_of_mem _ hy)⟩
section
variable {ms : List Addr} {F0 H0 G H : Hp} {cs : List (Addr × HO)} {a : Addr} {vs : List V} {K : PySem.W.Frag} {Q : VK}
theorem q_minT {α : Type} {e : α → PyData} {l : List α} {y : α} (sG : Same G H) (h1 : H a = some (.lst vs)) (f : FrL F0 G vs (l.map e)) (h : minAt e l = some y) (q : ∀ v, Fr F0 G v (e y) → Q v H) : zMinT K [.ref a] H Q := by
  cases l with
  | nil => cases h
  | cons x xs =>
    unfold minAt at h
    obtain ⟨h2, h3⟩ := grd h
    rw [Bool.and_eq_true, List.all_eq_true, List.all_eq_true] at h2
    obtain ⟨al, sm⟩ := h2
    have sm' : ∀ d ∈ (x :: xs).map e, d.canLay0 = true ∧ d.depth ≤ 50 ∧ d.hasDict = false ∧ d ≠ .none := fun d hd => by
      obtain ⟨b, hb, rfl⟩ := List.mem_map.mp hd
      have := sm b hb
      simp only [Bool.and_eq_true, decide_eq_true_iff, Bool.not_eq_true'] at this
      refine ⟨this.1.1.1, this.1.1.2, this.1.2, fun z => ?_⟩
      have w := this.2
      rw [z] at w
      exact absurd w (by simp)
    have em := minAt_fold e xs x
    cases som h3
    refine ⟨a, vs, e x, xs.map e, rfl, SqL.of h1, (f.same sG).dp (hasDict_all fun d hd => (sm' d hd).2.2.1), ⟨fun p hp r hr => ?_, fun p hp => (sm' p hp).2.2.2⟩, canLay_all fun d hd => (sm' d hd).1, Nat.le_trans (depth_all fun d hd => (sm' d hd).2.1) (by decide), fun i v hv hi => ?_⟩
    · obtain ⟨b, hb, rfl⟩ := List.mem_map.mp (show p ∈ (x :: xs).map e from hp)
      obtain ⟨c, hc, rfl⟩ := List.mem_map.mp (show r ∈ (x :: xs).map e from hr)
      have := al b hb
      rw [List.all_eq_true] at this
      exact this c hc
    · refine q v ?_
      obtain ⟨d, hd, fd⟩ := f.get' hv
      have : (x :: xs).map e = e x :: xs.map e := rfl
      rw [this, hi] at hd
      cases hd
      rw [em]
      exact fd
/-- a tuple of what is owned -/
theorem q_tupC {xs : List V} (S : Sep ms H0 G H cs) (z : xs.length ≤ LIM) (q : ∀ p G' H', Sep ms H0 G' H' cs → Same G G' → H' p = some (.tup xs) → Q (.ref p) H') : zTup xs H Q :=
  ⟨lim_le z, fun p hp => q p _ _ (S.sh hp) (sNew (S.gfree hp)) upd_same⟩
def remF (l : List Int) (x : Int) : Option (List Int) := cond (decide (x ∈ l)) (some (l.erase x)) none
theorem kremove {X : Cx} (_h : X.K = K := by rfl) : MtR X "list.remove" rRemI := mt_remove
theorem erase_is : ∀ {l : List Int} {x : Int}, x ∈ l → ∃ j, l[j]? = some x ∧ (∀ m : Nat, m < j → l[m]? ≠ some x) ∧ l.eraseIdx j = l.erase x
  | [], _, h => nomatch h
  | y :: l, x, h => by
    by_cases c : y = x
    · subst c
      exact ⟨0, rfl, fun m hm => absurd hm (Nat.not_lt_zero _), by simp⟩
    · have hx : x ∈ l := by
        rcases List.mem_cons.mp h with e | e
        · exact absurd e.symm c
        · exact e
      obtain ⟨j, h1, h2, h3⟩ := erase_is hx
      refine ⟨j + 1, by simpa using h1, fun m hm => ?_, ?_⟩
      · cases m with
        | zero => intro z; exact c (Option.some.inj z)
        | succ m => simpa using h2 m (by omega)
      · rw [List.eraseIdx_cons_succ, h3, List.erase_cons_tail (by simpa using c)]
theorem q_remI {l y : List Int} {x : Int} (S : Sep ms H0 G H cs) (i : Nat) (h : cs[i]? = some (a, .lst vs)) (f : FrL F0 G vs (l.map eI)) (hy : remF l x = some y) (q : ∀ us H', Sep ms H0 G H' (cs.set i (a, .lst us)) → FrL F0 G us (y.map eI) → Q .non H') : rRemI (.ref a) [.int x] H Q := by
  unfold remF at hy
  obtain ⟨h1, h2⟩ := grd hy
  cases som h2
  obtain ⟨j, k1, k2, k3⟩ := erase_is (of_decide_eq_true h1)
  have e := frl_ints f
  subst e
  refine ⟨a, l, x, j, rfl, rfl, S.get i h, k1, k2, ?_⟩
  rw [k3]
  exact q _ _ (S.put i h lst_tup) (ints_frl _)
theorem rd_glstE {n : Nat} {s : TGs} {p : Addr} {xs ys : List V} {σ : L2.St} {R : L2.St → Hp → Prop} (h : H p = some (.lst xs)) (e : xs = ys) (z : ys.length = n) (q : s ys σ H R) : gLst K n s (.ref p) σ H R := by
  subst e
  exact rd_glst h z q
theorem kpe_notT {X : Cx} {e : Expr} {ta : TE} {pos : Pos} (ha : PE X e ta) (h : X.K = K := by rfl) : PE X (.UnaryOp .Not e pos) (tNotT K ta) := h ▸ pe_notT ha
theorem rd_notT {ta : TE} {σ : L2.St} (q : ta σ H fun x H1 => ∃ k, TruV K x H1 k ∧ Q (.bl (!k)) H1) : tNotT K ta σ H Q := q
theorem q_isB {b c : Bool} (q : Q (.bl (decide (b = c))) H) : rIsB (.bl b) (.bl c) H Q := ⟨b, c, rfl, rfl, q⟩
theorem q_isNotB {b c : Bool} (q : Q (.bl (!decide (b = c))) H) : rNotB (.bl b) (.bl c) H Q := ⟨b, c, rfl, rfl, q⟩
theorem frO_non {α : Type} {e : α → PyData} {o : Option α} {v : V} (f : Fr F0 G v (eO e o)) (c : o.isNone = true) : v = .non := by
  cases o with
  | none => exact fr_non f
  | some _ => cases c
end
end LQ

/-! dicts whose keys are tuples of tuples: HO.ext, one object; the keys stand by what H says of the tuples. -/
namespace LQ
open PySem PySem.Spec PyProof.Rows L2 LX
section
variable {P : Program} {w : World} {H : Hp} {h : Heap}
mutual
theorem nested_of (ok : HOk P w H h) : ∀ (k : NestedKey) {F0 : Hp} {v : V} {u : Value}, Fr F0 H v k.data → RelV v u → NestedIs h k u
  | .none, F0, v, u, f, r => by
    have e := fr_non f
    subst e
    cases r
    exact .none
  | .num i, F0, v, u, f, r => by
    cases f with
    | int _ =>
      obtain ⟨t, e⟩ := (show ∃ t, u = Value.int i t from r)
      subst e
      exact .int i t
  | .text x, F0, v, u, f, r => by
    cases f with
    | str _ =>
      obtain ⟨t, e⟩ := (show ∃ t, u = Value.str x t from r)
      subst e
      exact .text x t
  | .tup ks, F0, v, u, f, r => by
    cases f with
    | @tup a vs _ hh hs =>
      cases (show u = Value.ref a from r)
      obtain ⟨z, its, rv, o, e, c1, n, c2⟩ := (show ObjOk P w H h a (.tup vs) from ok a _ hh)
      exact .tup e c1 c2 (by rw [List.toList_toArray]; exact nested_ofL ok ks hs rv)
theorem nested_ofL (ok : HOk P w H h) : ∀ (ks : List NestedKey) {F0 : Hp} {vs : List V} {us : List Value}, FrL F0 H vs (NestedKey.datas ks) → Vals vs us → NestedAll h ks us
  | [], F0, vs, us, f, r => by
    cases f
    cases r
    exact .nil
  | k :: ks, F0, vs, us, f, r => by
    cases f with
    | cons f1 fs =>
      cases r with
      | cons r1 rs => exact .cons (nested_of ok k f1 r1) (nested_ofL ok ks fs rs)
end
end
/-- a key at an address, by what H says -/
def KeyAt (H : Hp) (k : NestedKey) (b : Addr) : Prop := Fr E0h H (.ref b) k.data ∧ k.depth ≤ 8
theorem key_is {P : Program} {w : World} {H : Hp} {h : Heap} (ok : HOk P w H h) {k : NestedKey} {b : Addr} (f : KeyAt H k b) : (nestedKind P w).is h k b := ⟨nested_of ok k f.1 rfl, f.2⟩
abbrev NKv := List (NestedKey × Addr × V)
def KN (kvs : NKv) (xs : List (NestedKey × Addr × Value)) : Prop := Paired (fun (p : NestedKey × Addr × V) (q : NestedKey × Addr × Value) => p.1 = q.1 ∧ p.2.1 = q.2.1 ∧ RelV p.2.2 q.2.2) kvs xs
def DN (P : Program) (w : World) (a : Addr) (kvs : NKv) : HO := .ext fun h => kvs.length ≤ sizeLine ∧ (a == sysModules) = false ∧ ∃ xs, KN kvs xs ∧
  ∃ o es ep, h.get? a = some o ∧ o.ExactDict ∧ o.data = .dict es ep ∧ es.toList = xs.map (entryOfKey (nestedKind P w)) ∧ (xs.map (·.1)).Nodup
def KeysAt (H : Hp) (kvs : NKv) : Prop := ∀ p ∈ kvs, KeyAt H p.1 p.2.1
def valN (kvs : NKv) (k : NestedKey) : Option V := (kvs.find? fun x => decide (x.1 = k)).map (·.2.2)
def putN (kvs : NKv) (k : NestedKey) (b : Addr) (v : V) : NKv := if (valN kvs k).isSome = true then kvs.map fun x => if x.1 = k then (x.1, x.2.1, v) else x else kvs ++ [(k, b, v)]
theorem KN.keys {kvs : NKv} {xs : List (NestedKey × Addr × Value)} (r : KN kvs xs) : ∀ x ∈ xs, ∃ p ∈ kvs, p.1 = x.1 ∧ p.2.1 = x.2.1 := by
  unfold KN at r
  induction r with
  | nil => intro x hx; cases hx
  | @cons p q ps qs h t ih =>
    intro x hx
    rcases List.mem_cons.mp hx with e | e
    · subst e; exact ⟨p, List.mem_cons_self, h.1, h.2.1⟩
    · obtain ⟨p', h1, h2⟩ := ih x e
      exact ⟨p', List.mem_cons_of_mem _ h1, h2⟩
theorem KN.val {kvs : NKv} {xs : List (NestedKey × Addr × Value)} (r : KN kvs xs) (k : NestedKey) : RelO (valN kvs k) ((atKey xs k).map (·.2)) := by
  unfold KN at r
  induction r with
  | nil => exact trivial
  | @cons p q ps qs h t ih =>
    unfold valN atKey at ih ⊢
    by_cases c : p.1 = k
    · rw [List.find?_cons_of_pos (by simpa using c), List.find?_cons_of_pos (by rw [← h.1]; simpa using c)]
      exact h.2.2
    · rw [List.find?_cons_of_neg (by simpa using c), List.find?_cons_of_neg (by rw [← h.1]; simpa using c)]
      exact ih
theorem KN.put {kvs : NKv} {xs : List (NestedKey × Addr × Value)} (r : KN kvs xs) (k : NestedKey) (b : Addr) {v : V} {u : Value} (rv : RelV v u) : KN (putN kvs k b v) (storedH xs k b u) := by
  have q := (r.val k).isSome_eq
  rw [Option.isSome_map] at q
  unfold putN storedH
  rw [q]
  by_cases c : (atKey xs k).isSome = true
  · rw [if_pos c, if_pos c]
    clear q c
    unfold KN at r ⊢
    induction r with
    | nil => exact .nil
    | @cons p q ps qs h t ih =>
      refine .cons ?_ ih
      unfold putAt
      dsimp only
      by_cases d : p.1 = k
      · rw [if_pos d, if_pos (h.1.symm.trans d)]
        exact ⟨h.1, h.2.1, rv⟩
      · rw [if_neg d, if_neg (fun z => d (h.1.trans z))]
        exact h
  · rw [if_neg c, if_neg c]
    clear q c
    unfold KN at r ⊢
    induction r with
    | nil => exact .cons ⟨rfl, rfl, rv⟩ .nil
    | cons h t ih => exact .cons h ih
section
variable {P : Program} {w : World} {H : Hp} {h : Heap} {a : Addr} {kvs : NKv}
theorem dn_of (ok : HOk P w H h) (e : Rd H a (DN P w a kvs)) (ks : KeysAt H kvs) : kvs.length ≤ sizeLine ∧ (a == sysModules) = false ∧ ∃ xs, KN kvs xs ∧ h.DictOfH (nestedKind P w) a xs := by
  obtain ⟨⟨z, y, xs, r, o, es, ep, h1, h2, h3, h4, h5⟩, _, _⟩ := (show ObjOk P w H h a (DN P w a kvs) from e.ok ok)
  refine ⟨z, y, xs, r, o, es, ep, h1, h2, h3, h4, fun x hx => ?_, h5⟩
  obtain ⟨p, hp, e1, e2⟩ := r.keys x hx
  rw [← e1, ← e2]
  exact key_is ok (ks p hp)
theorem dn_ok {h' : Heap} {H' : Hp} {xs : List (NestedKey × Addr × Value)} (z : kvs.length ≤ sizeLine) (hd : (a == sysModules) = false) (r : KN kvs xs) (dd : h'.DictOfH (nestedKind P w) a xs) : ObjOk P w H' h' a (DN P w a kvs) := by
  obtain ⟨o, es, ep, h1, h2, h3, h4, _, h5⟩ := dd
  refine ⟨⟨z, hd, xs, r, o, es, ep, h1, h2, h3, h4, h5⟩, ⟨o, h1⟩, fun g1 g2 ⟨z, hd, xs, r, o, es, ep, h1, h2, h3, h4, h5⟩ k => ⟨z, hd, xs, r, o, es, ep, k _ h1, h2, h3, h4, h5⟩⟩
end
def DGetN (P : Program) (w : World) (H : Hp) (a : Addr) (y : V) (r : Option V) : Prop := ∃ kvs k b, Rd H a (DN P w a kvs) ∧ KeysAt H kvs ∧ y = .ref b ∧ KeyAt H k b ∧ r = valN kvs k
def DPutN (P : Program) (w : World) (H : Hp) (a : Addr) (y v : V) (H' : Hp) : Prop := ∃ kvs k b, H a = some (DN P w a kvs) ∧ KeysAt H kvs ∧ y = .ref b ∧ KeyAt H k b ∧ kvs.length < sizeLine ∧ H' = upd H a (DN P w a (putN kvs k b v))
theorem room_n {A : Around} (hu : A.units + 64 < cLine) : (nestedKind P w).room A.in1 := by
  show A.units + 1 + 8 < cLine
  omega
section
variable {X : Cx} {pins : List (Addr × Obj)} {σ : L2.St} {H : Hp} {s : Shared} {a : Addr} {y v : V} {u r : Value} {o : Option V} {E : Value → Shared → Prop} {A : Around}
theorem dn_notIn {Q : Value → Shared → Prop} (hu : A.units + 64 < cLine) (I : Inv X pins σ H s) (g : DGetN X.prog X.w H a y o) (ry : RelV y u) (h : ∀ s', Inv X pins σ H s' → Q (.bool (!o.isSome)) s') :
    wpAny (model X.prog X.w) A (compareOp .NotIn u (.ref a)) Q E s := by
  obtain ⟨kvs, k, b, e, ks, ey, eb, l⟩ := g
  subst ey
  cases (show u = Value.ref b from ry)
  obtain ⟨z, hd, xs, rel, dd⟩ := dn_of I.hok e ks
  refine wpAny_notIn_heap (room_n hu) (key_is I.hok eb) hd dd ?_
  have q := (rel.val k).isSome_eq
  rw [Option.isSome_map] at q
  rw [← q, ← l]
  exact h _ (I.tok _)
theorem dn_in {Q : Value → Shared → Prop} (hu : A.units + 64 < cLine) (I : Inv X pins σ H s) (g : DGetN X.prog X.w H a y o) (ry : RelV y u) (h : ∀ s', Inv X pins σ H s' → Q (.bool o.isSome) s') :
    wpAny (model X.prog X.w) A (compareOp .In u (.ref a)) Q E s := by
  obtain ⟨kvs, k, b, e, ks, ey, eb, l⟩ := g
  subst ey
  cases (show u = Value.ref b from ry)
  obtain ⟨z, hd, xs, rel, dd⟩ := dn_of I.hok e ks
  refine wpAny_in_heap (room_n hu) (key_is I.hok eb) hd dd ?_
  have q := (rel.val k).isSome_eq
  rw [Option.isSome_map] at q
  rw [← q, ← l]
  exact h _ (I.tok _)
theorem dn_getItem {Q : Value → Shared → Prop} (hu : A.units + 64 < cLine) (I : Inv X pins σ H s) (g : DGetN X.prog X.w H a y (some v)) (ry : RelV y u) (h : ∀ w' s', Inv X pins σ H s' → RelV v w' → Q w' s') :
    wpAny (model X.prog X.w) A (getItem (.ref a) u) Q E s := by
  obtain ⟨kvs, k, b, e, ks, ey, eb, l⟩ := g
  subst ey
  cases (show u = Value.ref b from ry)
  obtain ⟨z, hd, xs, rel, dd⟩ := dn_of I.hok e ks
  obtain ⟨w', hw, rw'⟩ := RelO.some_of (v := v) (o := (atKey xs k).map (·.2)) (by rw [l]; exact rel.val k)
  obtain ⟨p, hp, hp2⟩ := Option.map_eq_some_iff.mp hw
  refine wpAny_getItem_heap (room_n hu) (key_is I.hok eb) dd hp ?_
  rw [hp2]
  exact h w' _ (I.tok _) rw'
theorem length_putN (kvs : NKv) (k : NestedKey) (b : Addr) (v : V) : (putN kvs k b v).length ≤ kvs.length + 1 := by
  unfold putN
  split
  · rw [List.length_map]; omega
  · rw [List.length_append]; exact Nat.le_refl _
theorem dn_setItem {H' : Hp} {Q : Unit → Shared → Prop} (hu : A.units + 64 < cLine) (I : Inv X pins σ H s) (g : DPutN X.prog X.w H a y v H') (ry : RelV y u) (rv : RelV v r) (h : ∀ s', Inv X pins σ H' s' → Q () s') :
    wpAny (model X.prog X.w) A (setItem (.ref a) u r) Q E s := by
  obtain ⟨kvs, k, b, e, ks, ey, eb, l, eH⟩ := g
  subst ey eH
  cases (show u = Value.ref b from ry)
  obtain ⟨z, hd, xs, rel, dd⟩ := dn_of I.hok (Or.inl e) ks
  have hz : xs.length ≤ sizeLine := by rw [← Paired.length rel]; exact z
  have hl : (putN kvs k b v).length ≤ sizeLine := by have := length_putN kvs k b v; omega
  refine wpAny_setItem_heap (hsz := hz) (room_n hu) (key_is I.hok eb) dd fun h' dd' hs => h _ ?_
  have he : ∃ q, h'.get? a = some q := let ⟨q, _, _, hq, _⟩ := dd'; ⟨q, hq⟩
  exact d_write I (by rw [e]; exact True.intro) hs he (dn_ok hl hd (rel.put k b rv) dd')
theorem dn_typeIs (I : Inv X pins σ H s) (g : DGetN X.prog X.w H a y o) : s.TypeIs (.ref a) "dict" := by
  obtain ⟨kvs, k, b, e, ks, _⟩ := g
  obtain ⟨_, _, xs, _, dd⟩ := dn_of I.hok e ks
  exact dd.typeIs
end
/-! ### rules -/
section
variable {X : Cx} {o i e value kx vx : Expr} {pos pos' tpos : Pos} {td ty tv tk : TE}
def tDGetN (P : Program) (w : World) (td ty : TE) : TE := fun σ H Q => td σ H fun x H1 => ty σ H1 fun y H2 => ∃ a v, x = .ref a ∧ DGetN P w H2 a y (some v) ∧ Q v H2
def tDInN (P : Program) (w : World) (ty td : TE) : TE := fun σ H Q => ty σ H fun y H1 => td σ H1 fun x H2 => ∃ a o, x = .ref a ∧ DGetN P w H2 a y o ∧ Q (.bl o.isSome) H2
def tDNotInN (P : Program) (w : World) (ty td : TE) : TE := fun σ H Q => ty σ H fun y H1 => td σ H1 fun x H2 => ∃ a o, x = .ref a ∧ DGetN P w H2 a y o ∧ Q (.bl (!o.isSome)) H2
def sDPutN (P : Program) (w : World) (td ty tv : TE) : TS := fun D σ H => tv σ H fun v H1 => td σ H1 fun x H2 => ty σ H2 fun y H3 => ∃ a H4, x = .ref a ∧ DPutN P w H3 a y v H4 ∧ D.nx σ H4
def tDisp1N (P : Program) (w : World) (tk tv : TE) : TE := fun σ H Q => ∀ p, H p = none → tk σ (upd H p (DN P w p [])) fun x H1 => tv σ H1 fun y H2 => H2 p = some (DN P w p []) ∧ ∃ k b, x = .ref b ∧ KeyAt H2 k b ∧ Q (.ref p) (upd H2 p (DN P w p [(k, b, y)]))
theorem pe_dgetN (hu : X.A.units + 64 < cLine) (ho : PE X o td) (hi : PE X i ty) (hs : NoSl i) : PE X (.Subscript o i pos) (tDGetN X.prog X.w td ty) := by
  refine ⟨fun pins s σ H Q I h => ?_⟩
  refine subD_of PySem.F.slot_dict_getitem.lookup hs (thn (ho.run pins s σ H _ I h) fun u s1 ⟨x, H1, I1, rx, q1⟩ => thn (hi.run pins s1 σ H1 _ I1 q1) fun iv s2 ⟨y, H2, I2, ry, a, v, ex, g, q2⟩ => ?_)
  subst ex
  obtain rfl : u = Value.ref a := rx
  exact ⟨dn_typeIs I2 g, dn_getItem hu I2 g ry fun w' s3 I3 rw' => ⟨v, H2, I3, rw', q2⟩⟩
theorem pc_dinN (hu : X.A.units + 64 < cLine) (hi : PE X i ty) (ho : PE X o td) : PC X .In i o (tDInN X.prog X.w ty td) := by
  refine ⟨fun pins s σ H Q I h => ?_⟩
  refine thn (hi.run pins s σ H _ I h) fun iv s1 ⟨y, H1, I1, ry, q1⟩ => thn (ho.run pins s1 σ H1 _ I1 q1) fun u s2 ⟨x, H2, I2, rx, a, ov, ex, g, q2⟩ => ?_
  subst ex
  obtain rfl : u = Value.ref a := rx
  exact dn_in hu I2 g ry fun s3 I3 => ⟨.bl ov.isSome, H2, I3, rfl, q2⟩
theorem pc_dnotinN (hu : X.A.units + 64 < cLine) (hi : PE X i ty) (ho : PE X o td) : PC X .NotIn i o (tDNotInN X.prog X.w ty td) := by
  refine ⟨fun pins s σ H Q I h => ?_⟩
  refine thn (hi.run pins s σ H _ I h) fun iv s1 ⟨y, H1, I1, ry, q1⟩ => thn (ho.run pins s1 σ H1 _ I1 q1) fun u s2 ⟨x, H2, I2, rx, a, ov, ex, g, q2⟩ => ?_
  subst ex
  obtain rfl : u = Value.ref a := rx
  exact dn_notIn hu I2 g ry fun s3 I3 => ⟨.bl (!ov.isSome), H2, I3, rfl, q2⟩
theorem ps_dputN (hu : X.A.units + 64 < cLine) (ho : PE X o td) (hi : PE X i ty) (hv : PE X value tv) (hs : swapsWith value (some (.Subscript o i pos')) pos.line X.env = pure false) :
    PS X (.Assign [.Subscript o i pos'] value pos) (sDPutN X.prog X.w td ty tv) := by
  refine ⟨fun pins s σ H D I h => ?_⟩
  refine wpAny_Assign_Subscript (thn (hv.run pins s σ H _ I h) fun r s1 ⟨v, H1, I1, rv, q1⟩ => thn (ho.run pins s1 σ H1 _ I1 q1) fun u s2 ⟨x, H2, I2, rx, q2⟩ => thn (hi.run pins s2 σ H2 _ I2 q2) fun iv s3 ⟨y, H3, I3, ry, a, H4, ex, g, q3⟩ => ?_) hs
  subst ex
  obtain rfl : u = Value.ref a := rx
  exact dn_setItem hu I3 g ry rv fun s4 I4 => ⟨σ, H4, I4, q3⟩
theorem dn_empty {P : Program} {w : World} {H : Hp} (h : Heap) (hb : sysModules < h.objs.size) : ObjOk P w H (h.push { cls := .type "dict", data := .dict #[] }) h.objs.size (DN P w h.objs.size []) :=
  dn_ok (Nat.zero_le _) (beq_eq_false_iff_ne.mpr (Nat.ne_of_gt hb)) .nil (Heap.DictOfH.new h)
theorem dictPairsH {prog : Program} {w : World} {K : Type} [DecidableEq K] {knd : HeapKind prog w K} {A : Around} {E : Value → Shared → Prop} {s : Shared} {env : Env} {keys : List (Option Expr)} {values : List Expr} {pos : Pos} {pairs : List (Sem Value × Sem Value)} {Q : Value → Shared → Prop} (hu : knd.room A)
    (hshape : (evalEachOpt keys env).zip ((evalEach values env).map fun v => do let x ← v; standAt pos; pure x) = pairs.map fun p => (some p.1, p.2)) (h0 : pairs ≠ []) (hlen : pairs.length ≤ 15)
    (h : wpAny (model prog w) A (evalPairs pairs) (fun vs s₁ => ∃ ps, CarriesH knd s₁.heap vs ps ∧ s₁.heap.DictOfH knd s.heap.objs.size [] ∧
      ∀ h' tk, h'.DictOfH knd s.heap.objs.size (storedAllH [] ps) → Heap.SameBut s.heap.objs.size s₁.heap h' → Q (.ref s.heap.objs.size) { s₁ with heap := h', toks := tk }) E
      { s with heap := s.heap.push { cls := .type "dict", data := .dict #[] } }) :
    wpAny (model prog w) A (eval (.Dict keys values pos) env) Q E s := by
  rw [arm_eval_Dict, hshape, dictDisplay_pairs pairs h0 (by omega)]
  exact wpAny_bind (wpAny_standAt (wpAny_bind (wpAny_subDictH (knd := knd) (Q := fun d s' => wpAny (model prog w) A (pure (Value.ref d)) Q E s') hu hlen
    (wpAny_mono h (fun vs s₁ h₁ => by obtain ⟨ps, hc, hm, hq⟩ := h₁; exact ⟨ps, hc, hm, fun h' tk a b => wpAny_pure (hq h' tk a b)⟩) fun _ _ e => e))))
theorem pe_disp1N (hu : X.A.units + 64 < cLine) (hk : PE X kx tk) (hv : PE X vx tv) : PE X (.Dict [some kx] [vx] pos) (tDisp1N X.prog X.w tk tv) := by
  refine ⟨fun pins s σ H Q I q => ?_⟩
  have hn := I.hok.fresh (Nat.le_refl s.heap.objs.size)
  have I1 := I.laid (a := s.heap.objs.size) (o := DN X.prog X.w s.heap.objs.size []) (h' := s.heap.push { cls := .type "dict", data := .dict #[] }) (t' := s.toks) (fun _ _ q => Heap.get?_push_of_some _ q) (Nat.le_refl _) (dn_empty s.heap I.big)
  have hl := pairTrees_length [some kx] [vx] X.env pos rfl rfl
  refine dictPairsH (knd := nestedKind X.prog X.w) (pairs := pairTrees [some kx] [vx] X.env pos) (by show X.A.units + 8 < cLine; omega) (zip_pairTrees [some kx] [vx] X.env pos rfl rfl) (fun e => by rw [e] at hl; cases hl) (by rw [hl]; exact (show 1 ≤ 15 by decide)) ?_
  refine pairTrees_cons_walk (thn (hk.run pins _ σ _ _ I1 (q _ hn)) fun u s1 ⟨x, H1, I2, rx, q1⟩ => thn (hv.run pins s1 σ H1 _ I2 q1) fun w2 s2 ⟨y, H2, I3, ry, e, k, b, ex, kb, q2⟩ => pairTrees_nil_walk ?_)
  subst ex
  cases (show u = Value.ref b from rx)
  obtain ⟨z, hd, xs, r0, dd⟩ := dn_of I3.hok (Or.inl e) (fun p hp => nomatch hp)
  cases r0
  refine ⟨[(k, b, w2)], ⟨rfl, rfl, key_is I3.hok kb, trivial⟩, dd, fun h' tk dd' hs => ⟨.ref s.heap.objs.size, _, ?_, rfl, q2⟩⟩
  have he : ∃ q, h'.get? s.heap.objs.size = some q := let ⟨q, _, _, hq, _⟩ := dd'; ⟨q, hq⟩
  exact d_write I3 (by rw [e]; exact True.intro) hs he (dn_ok (by rw [sizeLine_eq]; exact (show 1 ≤ 16777216 by decide)) hd (.cons ⟨rfl, rfl, ry⟩ .nil) dd')
end
/-! ### by what they hold -/
/-- a tuple of things of one kind -/
@[reducible] def eVT {α : Type} (e : α → PyData) (l : List α) : PyData := .tuple (l.map e)
theorem datas_map {α : Type} (f : α → NestedKey) : ∀ l : List α, NestedKey.datas (l.map f) = l.map fun x => (f x).data
  | [] => rfl
  | x :: l => by
    show NestedKey.datas (f x :: l.map f) = _
    simp only [NestedKey.datas, List.map_cons]
    rw [datas_map f l]
def kE (e : Int × Str) : NestedKey := .tup [.num e.1, .text e.2]
def kRow (l : List (Int × Str)) : NestedKey := .tup (l.map kE)
theorem kE_data (e : Int × Str) : (kE e).data = eT2 eI eS e := by
  unfold kE
  simp only [NestedKey.data, NestedKey.datas]
theorem kRow_data (l : List (Int × Str)) : (kRow l).data = eVT (eT2 eI eS) l := by
  unfold kRow
  simp only [NestedKey.data]
  rw [datas_map]
  show PyData.tuple _ = PyData.tuple _
  exact congrArg PyData.tuple (List.map_congr_left fun e _ => kE_data e)
theorem kE_depth : ∀ l : List (Int × Str), NestedKey.depthAll (l.map kE) ≤ 1
  | [] => by simp only [List.map_nil, NestedKey.depthAll]; omega
  | e :: l => by
    have := kE_depth l
    simp only [List.map_cons, NestedKey.depthAll, kE, NestedKey.depth]
    omega
theorem kRow_depth (l : List (Int × Str)) : (kRow l).depth ≤ 8 := by
  have := kE_depth l
  unfold kRow
  simp only [NestedKey.depth]
  omega
theorem kE_inj {a b : Int × Str} (h : kE a = kE b) : a = b := by
  unfold kE at h
  injection h with h
  injection h with h1 h2
  injection h1 with h1
  injection h2 with h2
  injection h2 with h2
  exact Prod.ext h1 h2
theorem kRow_inj : ∀ a b : List (Int × Str), kRow a = kRow b → a = b := fun a b h => by
  unfold kRow at h
  injection h with h
  induction a generalizing b with
  | nil =>
    cases b with
    | nil => rfl
    | cons y b => cases h
  | cons x a ih =>
    cases b with
    | nil => cases h
    | cons y b =>
      rw [List.map_cons, List.map_cons] at h
      injection h with h1 h2
      rw [kE_inj h1, ih b h2]
/-- a key kind: rows -/
structure KK {κ : Type} (ek : κ → PyData) (kk : κ → NestedKey) : Prop where
  data : ∀ k, (kk k).data = ek k
  depth : ∀ k, (kk k).depth ≤ 8
  inj : ∀ a b, kk a = kk b → a = b
theorem kkRow : KK (eVT (eT2 eI eS)) kRow := ⟨kRow_data, kRow_depth, kRow_inj⟩
inductive FrN {κ α : Type} (kk : κ → NestedKey) (e : α → PyData) (F0 G : Hp) : NKv → List (κ × α) → Prop
  | nil : FrN kk e F0 G [] []
  | cons {b : Addr} {v : V} {kvs : NKv} {k : κ} {x : α} {l : List (κ × α)} : KeyAt G (kk k) b → Fr F0 G v (e x) → FrN kk e F0 G kvs l → FrN kk e F0 G ((kk k, b, v) :: kvs) ((k, x) :: l)
section
variable {κ α : Type} [DecidableEq κ] {kk : κ → NestedKey} {ek : κ → PyData} {e : α → PyData} {F0 H0 G G' H H' : Hp} {kvs : NKv} {l : List (κ × α)} {k : κ} {x : α} {v y : V} {a b : Addr} {ms : List Addr} {cs : List (Addr × HO)} {Q : VK} {P : Program} {w : World}
theorem FrN.same (f : FrN kk e F0 G kvs l) (s : Same G G') : FrN kk e F0 G' kvs l := by
  induction f with
  | nil => exact .nil
  | cons h1 h2 _ ih => exact .cons ⟨h1.1.same s, h1.2⟩ (h2.same s) ih
theorem FrN.rp (f : FrN kk e F0 G kvs l) : FrN kk e E0h G kvs l := by
  induction f with
  | nil => exact .nil
  | cons h1 h2 _ ih => exact .cons h1 h2.rp ih
theorem FrN.keys (f : FrN kk e F0 G kvs l) (s : Same G H) : KeysAt H kvs := by
  induction f with
  | nil => exact fun p hp => nomatch hp
  | cons h1 h2 _ ih =>
    intro p hp
    rcases List.mem_cons.mp hp with z | z
    · subst z; exact ⟨h1.1.same s, h1.2⟩
    · exact ih p z
theorem FrN.len (f : FrN kk e F0 G kvs l) : kvs.length = l.length := by
  induction f with
  | nil => rfl
  | cons _ _ _ ih => rw [List.length_cons, List.length_cons, ih]
theorem FrN.get (hk : KK ek kk) (f : FrN kk e F0 G kvs l) (k : κ) : (∃ x v, dget l k = some x ∧ valN kvs (kk k) = some v ∧ Fr F0 G v (e x)) ∨ (dget l k = none ∧ valN kvs (kk k) = none) := by
  induction f with
  | nil => exact Or.inr ⟨rfl, rfl⟩
  | @cons b v kvs k' x l h1 h2 _ ih =>
    unfold dget valN at ih ⊢
    by_cases c : k' = k
    · subst c
      rw [List.find?_cons_of_pos (by simp), List.find?_cons_of_pos (by simp)]
      exact Or.inl ⟨x, v, rfl, rfl, h2⟩
    · rw [List.find?_cons_of_neg (by simpa using c), List.find?_cons_of_neg (by simpa using fun z => c (hk.inj _ _ z))]
      exact ih
theorem FrN.has (hk : KK ek kk) (f : FrN kk e F0 G kvs l) (k : κ) : (valN kvs (kk k)).isSome = dhas l k := by
  unfold dhas
  rcases f.get hk k with ⟨x, v, h1, h2, _⟩ | ⟨h1, h2⟩ <;> rw [h1, h2] <;> rfl
theorem FrN.put (hk : KK ek kk) (f : FrN kk e F0 G kvs l) (kb : KeyAt G (kk k) b) (g : Fr F0 G v (e x)) : FrN kk e F0 G (putN kvs (kk k) b v) (dput l k x) := by
  have any : (valN kvs (kk k)).isSome = l.any fun p => decide (p.1 = k) := by
    rw [f.has hk k]
    unfold dhas dget
    rw [Option.isSome_map, Bool.eq_iff_iff, List.find?_isSome, List.any_eq_true]
  unfold putN dput
  rw [any]
  by_cases c : (l.any fun p => decide (p.1 = k)) = true
  · rw [if_pos c, if_pos c]
    clear c any
    induction f with
    | nil => exact .nil
    | @cons b' v' kvs k' x' l h1 h2 _ ih =>
      rw [List.map_cons, List.map_cons]
      by_cases d : k' = k
      · rw [if_pos (congrArg kk d), if_pos d]
        exact .cons h1 g ih
      · rw [if_neg (fun z => d (hk.inj _ _ z)), if_neg d]
        exact .cons h1 h2 ih
  · rw [if_neg c, if_neg c]
    clear c any
    induction f with
    | nil => exact .cons kb g .nil
    | cons h1 h2 _ ih => exact .cons h1 h2 ih
theorem dn_tup : ∀ xs, DN P w a kvs ≠ .tup xs := fun _ z => nomatch z
def zDGetN (P : Program) (w : World) (x y : V) (H : Hp) (Q : VK) : Prop := ∃ a v, x = .ref a ∧ DGetN P w H a y (some v) ∧ Q v H
theorem rd_dgetN {td ty : TE} {σ : L2.St} (q : td σ H fun x H1 => ty σ H1 fun y H2 => zDGetN P w x y H2 Q) : tDGetN P w td ty σ H Q := q
def zDInN (P : Program) (w : World) (y x : V) (H : Hp) (Q : VK) : Prop := ∃ a o, x = .ref a ∧ DGetN P w H a y o ∧ Q (.bl o.isSome) H
def zDNotInN (P : Program) (w : World) (y x : V) (H : Hp) (Q : VK) : Prop := ∃ a o, x = .ref a ∧ DGetN P w H a y o ∧ Q (.bl (!o.isSome)) H
theorem rd_dinN {td ty : TE} {σ : L2.St} (q : ty σ H fun y H1 => td σ H1 fun x H2 => zDInN P w y x H2 Q) : tDInN P w ty td σ H Q := q
theorem rd_dniN {td ty : TE} {σ : L2.St} (q : ty σ H fun y H1 => td σ H1 fun x H2 => zDNotInN P w y x H2 Q) : tDNotInN P w ty td σ H Q := q
def zDPutN (P : Program) (w : World) (v x y : V) (H : Hp) (R : Hp → Prop) : Prop := ∃ a H4, x = .ref a ∧ DPutN P w H a y v H4 ∧ R H4
theorem rd_dputN {td ty tv : TE} {σ : L2.St} {D : Ends} (q : tv σ H fun v H1 => td σ H1 fun x H2 => ty σ H2 fun y H3 => zDPutN P w v x y H3 fun H4 => D.nx σ H4) : sDPutN P w td ty tv D σ H := q
theorem key_at (hk : KK ek kk) (fy : Fr F0 H (.ref b) (ek k)) : KeyAt H (kk k) b := ⟨by rw [hk.data]; exact fy.rp, hk.depth k⟩
theorem q_dgetN (hk : KK ek kk) (S : Sep ms H0 G H cs) (i : Nat) (hi : cs[i]? = some (a, DN P w a kvs)) (f : FrN kk e F0 G kvs l) (fy : Fr E0h H (.ref b) (ek k)) (hx : dget l k = some x) (q : ∀ v, Fr F0 G v (e x) → Q v H) : zDGetN P w (.ref a) (.ref b) H Q := by
  rcases f.get hk k with ⟨x', v, h1, h2, h3⟩ | ⟨h1, _⟩
  · rw [hx] at h1
    cases h1
    exact ⟨a, v, rfl, ⟨kvs, kk k, b, Or.inl (S.get i hi), f.keys S.sub, rfl, key_at hk fy, h2.symm⟩, q v h3⟩
  · rw [hx] at h1
    cases h1
theorem q_dinN (hk : KK ek kk) (S : Sep ms H0 G H cs) (i : Nat) (hi : cs[i]? = some (a, DN P w a kvs)) (f : FrN kk e F0 G kvs l) (fy : Fr E0h H (.ref b) (ek k)) (q : Q (.bl (dhas l k)) H) : zDInN P w (.ref b) (.ref a) H Q :=
  ⟨a, _, rfl, ⟨kvs, kk k, b, Or.inl (S.get i hi), f.keys S.sub, rfl, key_at hk fy, rfl⟩, by rw [f.has hk k]; exact q⟩
theorem q_dniN (hk : KK ek kk) (S : Sep ms H0 G H cs) (i : Nat) (hi : cs[i]? = some (a, DN P w a kvs)) (f : FrN kk e F0 G kvs l) (fy : Fr E0h H (.ref b) (ek k)) (q : Q (.bl (!dhas l k)) H) : zDNotInN P w (.ref b) (.ref a) H Q :=
  ⟨a, _, rfl, ⟨kvs, kk k, b, Or.inl (S.get i hi), f.keys S.sub, rfl, key_at hk fy, rfl⟩, by rw [f.has hk k]; exact q⟩
theorem q_dputN {r : List (κ × α)} {R : Hp → Prop} (hk : KK ek kk) (S : Sep ms H0 G H cs) (i : Nat) (hi : cs[i]? = some (a, DN P w a kvs)) (f : FrN kk e F0 G kvs l) (fy : Fr E0h G (.ref b) (ek k)) (fv : Fr F0 G v (e x)) (h : dputF l k x = some r)
    (q : ∀ us H', Sep ms H0 G H' (cs.set i (a, DN P w a us)) → FrN kk e F0 G us r → R H') : zDPutN P w v (.ref a) (.ref b) H R := by
  unfold dputF at h
  obtain ⟨h1, h2⟩ := grd h
  cases som h2
  exact ⟨a, _, rfl, ⟨kvs, kk k, b, S.get i hi, f.keys S.sub, rfl, key_at hk (fy.same S.sub), lim_lt (by rw [f.len]; exact of_decide_eq_true h1), rfl⟩, q _ _ (S.put i hi dn_tup) (f.put hk (key_at hk fy) fv)⟩
/-- tuple(x) of a list -/
theorem q_tuple {K : PySem.W.Frag} {p : Addr} {vs : List V} {l : List α} (S : Sep ms H0 G H cs) (h : H p = some (.lst vs)) (f : FrL F0 G vs (l.map e)) (q : ∀ a G' H', Sep ms H0 G' H' cs → Same G G' → Fr F0 G' (.ref a) (eVT e l) → Q (.ref a) H') : kTup K (.ref p) H Q :=
  Or.inl ⟨p, vs, rfl, SqL.of h, fun c hc => q c _ _ (S.sh hc) (sNew (S.gfree hc)) (.tup upd_same (f.same (sNew (S.gfree hc))))⟩
theorem rd_tupZ2 {ta : TE} {K : PySem.W.Frag} {σ : L2.St} (q : ta σ H fun x H1 => kTup K x H1 Q) : tThen ta (kTup K) σ H Q := q
/-- {k: v} -/
def zDisp1 (P : Program) (w : World) (p : Addr) (x y : V) (H : Hp) (Q : VK) : Prop := H p = some (DN P w p []) ∧ ∃ k b, x = .ref b ∧ KeyAt H k b ∧ Q (.ref p) (upd H p (DN P w p [(k, b, y)]))
theorem rd_disp1 {tk tv : TE} {σ : L2.St} (q : ∀ p, H p = none → tk σ (upd H p (DN P w p [])) fun x H1 => tv σ H1 fun y H2 => zDisp1 P w p x y H2 Q) : tDisp1N P w tk tv σ H Q := q
theorem q_disp0 (S : Sep ms H0 G H cs) (hp : H a = none) : Sep ms H0 G (upd H a (DN P w a [])) ((a, DN P w a []) :: cs) ∧ H0 a = none := ⟨S.own hp dn_tup, S.old a hp⟩
theorem q_disp1 (hk : KK ek kk) (S : Sep ms H0 G H ((a, DN P w a []) :: cs)) (fy : Fr E0h G (.ref b) (ek k)) (fv : Fr F0 G v (e x)) (q : ∀ us H', Sep ms H0 G H' ((a, DN P w a us) :: cs) → FrN kk e F0 G us [(k, x)] → Q (.ref a) H') : zDisp1 P w a (.ref b) v H Q :=
  ⟨S.get 0 rfl, kk k, b, rfl, key_at hk (fy.same S.sub), q _ _ (S.put 0 rfl dn_tup) (.cons (key_at hk fy) fv .nil)⟩
end
end LQ

/-! d.items() that is walked -/
namespace LQ
open PySem PySem.Spec PyProof.Rows L2 LX
section
variable {κ α : Type} [DecidableEq κ] {e : α → PyData} {F0 H0 G G' H H' : Hp} {kvs : List (Key × V)} {l : List (Str × α)} {v y : V} {a b : Addr}
def zItems (x : V) (H : Hp) (R : It → Hp → Prop) : Prop := ∃ d o kvs, x = .ref d ∧ H d = some (.frz o (.dK kvs)) ∧ R (Iti d o kvs) H
theorem rd_iItems {td : TE} {σ : L2.St} {R : It → Hp → Prop} (q : td σ H fun x H1 => zItems x H1 R) : iItems td σ H R := q
theorem q_items {od : Obj} {R : It → Hp → Prop} (h : H a = some (.frz od (.dK kvs))) (q : R (Iti a od kvs) H) : zItems (.ref a) H R := ⟨a, od, kvs, rfl, h, q⟩
theorem frk_at {κ α : Type} [DecidableEq κ] {kk : κ → Key} {e : α → PyData} : ∀ {l : List (κ × α)} {kvs : List (Key × V)} {i : Nat} {p : κ × α}, FrK F0 G kvs (l.map fun p => (dKey (kk p.1), e p.2)) → l[i]? = some p → ∃ v, kvs[i]? = some (kk p.1, v) ∧ Fr F0 G v (e p.2)
  | [], _, i, _, _, h => by simp at h
  | q :: l, kvs, i, p, f, h => by
    obtain ⟨v, r, rfl, f1, f2⟩ := frk_cons f
    cases i with
    | zero =>
      have : q = p := Option.some.inj h
      subst this
      exact ⟨v, rfl, f1⟩
    | succ i =>
      have h : l[i]? = some p := by simpa using h
      obtain ⟨v', h1, h2⟩ := frk_at f2 h
      exact ⟨v', by simpa using h1, h2⟩
theorem w_items {od : Obj} (f : FrK F0 G kvs (l.map fun p => (dKey (kS p.1), e p.2))) : Walk (Iti a od kvs) l.length (fun H => H a = some (.frz od (.dK kvs))) (fun i H v H' => ∃ T v1 v2, v = .ref T ∧ H T = none ∧ H' = upd H T (.tup [v1, v2]) ∧ ∀ p, l[i]? = some p → Fr F0 G v1 (eS p.1) ∧ Fr F0 G v2 (e p.2)) := by
  have hl : l.length = kvs.length := (frk_len f).symm
  rw [hl]
  refine walk_items.mono (fun _ h => h) fun i H x H' _ _ y => ?_
  obtain ⟨T, v1, v2, h1, h2, h3, h4, h5⟩ := y
  refine ⟨T, v1, v2, h1, h2, h3, fun p hp => ?_⟩
  obtain ⟨v, k1, k2⟩ := frk_at f hp
  dsimp only at h4 h5
  rw [k1] at h4 h5
  have e1 : kV (kS p.1) = v1 := Option.some.inj h4
  have e2 : v = v2 := Option.some.inj h5
  rw [← e1, ← e2]
  exact ⟨.str _, k2⟩
end
end LQ

/-! Exceptions: one that is caught is tracked by its class and its dict. -/
namespace LQ
open PySem PySem.Spec PyProof.Rows L2 LX PySem.W
/-- an exception object of the class at C, its dict d -/
def XO (C : Addr) (d : Option Addr) (a : Addr) : HO := .ext fun h => ∃ oe vs, h.get? a = some oe ∧ Zc (.ref C) d oe ∧ oe.data = .fields vs
theorem xo_ok {P : Program} {w : World} {H : Hp} {h : Heap} {a C : Addr} {d : Option Addr} {oe : Obj} {vs : Array Value} (e : h.get? a = some oe) (z : Zc (.ref C) d oe) (f : oe.data = .fields vs) : ObjOk P w H h a (XO C d a) :=
  ⟨⟨oe, vs, e, z, f⟩, ⟨oe, e⟩, fun _ _ ⟨o, v, q, r⟩ k => ⟨o, v, k _ q, r⟩⟩
theorem xo_tup {C a : Addr} {d : Option Addr} : ∀ xs, XO C d a ≠ .tup xs := fun _ z => by cases z
section
variable {X : Cx} {pins : List (Addr × Obj)} {σ : L2.St} {H : Hp} {s : Shared}
theorem inv_track (I : Inv X pins σ H s) {a : Addr} {o : HO} (old : X.s_0.heap.get? a = none) (nL : a ≠ X.env.locals) (nC : ∀ x c, X.env.cells.lookup x = some c → c ≠ a) (nP : ∀ p ∈ X.pn ++ pins, p.1 ≠ a) (na : H a = none)
    (new : ObjOk X.prog X.w (upd H a o) s.heap a o) : Inv X pins σ (upd H a o) s := by
  refine ⟨I.ok, I.os, I.bare, ⟨I.base.keep, I.base.slot, fun b u e n hx => ?_, I.base.there, fun b xs q => ?_, fun b u v q => ?_, fun b ps q => ?_⟩, I.loc, I.cell, ?_, fun x c e => ?_, fun p hp => ?_, fun b u q => ?_, I.len⟩
  · rw [upd_ne (fun z => by rw [z, old] at e; cases e)]
    exact I.base.free b u e n hx
  · have r := I.base.tups b xs q
    rw [upd_ne (ne_of_none r na)]
    exact r
  · have r := I.base.frzs b u v q
    rw [upd_ne (ne_of_none r na)]
    exact r
  · obtain ⟨m, r⟩ := I.base.tbls b ps q
    exact ⟨m, by rw [upd_ne (ne_of_none r na)]; exact r⟩
  · rw [upd_ne (Ne.symm nL)]
    exact I.free
  · rw [upd_ne (nC x c e)]
    exact I.freeC x c e
  · obtain ⟨e, n, r⟩ := I.pin p hp
    exact ⟨e, by rw [upd_ne (nP p hp)]; exact n, r⟩
  · by_cases hb : b = a
    · subst hb
      rw [upd_same] at q
      cases q
      exact new
    · rw [upd_ne hb] at q
      exact (I.hok b u q).stay (fun _ _ _ r => r) (fun c r => by rw [upd_ne (ne_of_none r na)]; exact r) fun c xs r => by rw [upd_ne (ne_of_none r na)]; exact r
theorem inv_suite0 (I : Inv X pins σ H s) (a : Addr) : Inv (X.suite a (X.pn ++ pins)) [] σ H s :=
  ⟨I.ok.suite _ _, I.os, I.bare, I.base, I.loc, I.cell, I.free, I.freeC, fun p hp => I.pin p (by rw [List.append_nil] at hp; exact hp), I.hok, I.len⟩
theorem inv_unsuite0 {a : Addr} {pn' : List (Addr × Obj)} (I : Inv (X.suite a (X.pn ++ pins)) pn' σ H s) (ok : X.Ok) : Inv X pins σ H s :=
  ⟨ok, I.os, I.bare, I.base, I.loc, I.cell, I.free, I.freeC, fun p hp => I.pin p (List.mem_append_left _ hp), I.hok, I.len⟩
end
/-- the ends of a suite whose name i goes -/
def dropN (D : Ends) (i : Nat) : Ends := { nx := fun σ' H' => D.nx (σ'.set i none) H', rt := D.rt, bk := fun σ' H' => D.bk (σ'.set i none) H', ct := fun σ' H' => D.ct (σ'.set i none) H' }
/-- the wish of a try whose clause takes what comes -/
def wTrk (K : PySem.W.Frag) (c : Value) (i : Nat) (ts : TS) (D : Ends) : WX := fun cls d σ H =>
  ∃ C : Addr, cls = .ref C ∧ PySem.W.exmOne K (.ref C) c = some true ∧ ∀ a, H a = none → ts (dropN D i) (σ.set i (some (.ref a))) (upd H a (XO C d a))
section
variable {X : Cx} {x n : Str} {c : Value} {i : Nat} {body suite : List Stmt} {b₀ : Stmt} {np pos pos' : Pos} {tb : WX → TS} {ts : TS}
theorem ps_tryT (hs : X.stack = X.env :: X.outer) (hf : X.env.frame = some X.env.locals) (hex : X.ex = []) (hN : X.N.Nodup) (hi : X.N[i]? = some n) (hln : X.env.kindOf n = some .local) (hc : Names X x c)
    (hb : ∀ (W : WX) (pn : List (Addr × Obj)) (xe : Value → Shared → Prop), Takes (X.tr pn xe) W → PassesOwn (model X.prog X.w) X.A X.env xe → PSs (X.tr pn xe) body (tb W))
    (hsu : ∀ (a : Addr) (pn : List (Addr × Obj)), PSs (X.suite a pn) (b₀ :: suite) ts) :
    PS X (.Try body [.ExceptHandler (some (.Name x np)) (some n) (b₀ :: suite) pos'] [] [] pos) (fun D σ H => tb (wTrk X.K c i ts D) D σ H) := by
  refine ⟨fun pins s σ H D I want => ?_⟩
  have ok := I.ok
  have fr0 : X.A.frames = some (X.env :: X.outer) := by rw [ok.frames, hs]
  have lcl : Loc X.env.scope n := .inl hln
  let air : Value → Shared → Prop := fun e s₁ => wpAny (model X.prog X.w) X.A (noteFrame e X.env) (fun _ s₂ => wpAny (model X.prog X.w) X.A (setFlight e none) (fun _ s₃ =>
    wpAny (model X.prog X.w) X.A (handleBy e X.env [.ExceptHandler (some (.Name x np)) (some n) (b₀ :: suite) pos']) (SP X pins D) X.xe s₃) X.xe s₂) X.xe s₁
  have taken : Takes (X.tr (X.pn ++ pins) air) (wTrk X.K c i ts D) := by
    rintro u t ⟨a, B, sI, pins', σ1, H1, cls, d, rfl, J', nb, up, sky, na, os, ag, C, rfl, hm, wish⟩
    have J : Inv X pins σ1 H1 sI := J'.ofTry ok
    show wpAny (model X.prog X.w) X.A (noteFrame (.ref a) X.env) _ _ _
    refine Sky.land Zc.steady fr0 hf (show Sky B (X.env :: X.outer) a (Zc (.ref C) d) X.env.locals t.heap by rw [← hs]; exact sky) fun g fl ups => ?_
    have J1 : Inv X pins σ1 H1 { t with heap := g } := J.landed nb fl.1 (up.trans ups) os ag
    obtain ⟨oe, vs, get, zc, dat⟩ := fl.there
    have nfr : a ∉ frs (X.env :: X.outer) := fun z => by
      obtain ⟨_, o1, e1, q1⟩ := fl.2.2.1.mem z
      rw [get] at e1
      cases e1
      exact q1 _ dat
    have nst : a ∉ frs X.stack := by rw [hs]; exact nfr
    have nB := fl.2.1
    have noI : ∀ o, sI.heap.get? a ≠ some o := fun o e => by
      have q := nb a o e nst
      rw [nB] at q
      cases q
    have old : X.s_0.heap.get? a = none := by
      cases e : X.s_0.heap.get? a with
      | none => rfl
      | some o =>
        obtain ⟨o1, e1⟩ := J.base.there a o e (by rw [hex]; exact fun z => nomatch z)
        exact absurd e1 (noI o1)
    have nL : a ≠ X.env.locals := fun z => nfr (List.mem_filterMap.mpr ⟨X.env, List.mem_cons_self, by rw [hf, z]⟩)
    have nP : ∀ p ∈ X.pn ++ pins, p.1 ≠ a := fun p hp z => by
      have q := (J.pin p hp).1
      rw [z] at q
      exact noI _ q
    have S1 := inv_suite0 J1 a
    refine wpAny_handleBy_cons (codeAny_handlers_test ?_) (by intro q; cases q)
    have ty : PySem.W.Looks (model X.prog X.w) g (typeOf (.ref a)) (.ref C) := fun A Q E s k q => wpAny_typeOf_ref (k _ _ get) (by rw [zc.1]; exact q)
    have mt := PySem.W.exm_one (M := model X.prog X.w) J1.kIn ty hm
    have name : ∀ {Q : Value → Shared → Prop} {E : Value → Shared → Prop}, Q c { t with heap := g } → wpAny (model X.prog X.w) (X.A.mark (some (.ref a))) (eval (.Name x np) X.env) Q E { t with heap := g } := fun {Q E} q => by
      obtain ⟨hg, hdbg, k | ⟨k, hv, hnn⟩⟩ := hc
      · exact ld_glob (X := X.suite a (X.pn ++ pins)) S1 hg k q hdbg
      · exact ld_blt (X := X.suite a (X.pn ++ pins)) S1 hg k hv q hnn hdbg
    refine name (mt.here ?_)
    refine codeAny_handlers_suite_as ?_
    refine HandSPX.lands_againZ fl fun g2 fl2 ups2 => ?_
    have J2 : Inv X pins σ1 H1 { t with heap := g2 } := J.landed nb fl2.1 ((up.trans ups).trans ups2) os ag
    obtain ⟨oe2, vs2, get2, zc2, dat2⟩ := fl2.there
    have nC : ∀ y k, X.env.cells.lookup y = some k → k ≠ a := fun y k e z => by
      obtain ⟨v, o1, q1, q2⟩ := J2.cell y k e
      rw [z] at q1
      have q3 : g2.get? a = some o1 := q1
      rw [get2] at q3
      cases q3
      rw [dat2] at q2
      cases q2
    have S2 := inv_suite0 (inv_track J2 (o := XO C d a) old nL nC nP na (xo_ok get2 zc2 dat2)) a
    refine store_ok (X := X.suite a (X.pn ++ pins)) (v := .ref a) S2 hN hi lcl rfl (fun s5 S5 => ?_) (.inr hln)
    have fin : ∀ {σ6 : L2.St} {H6 : Hp} {s6 : Shared} {Q : Shared → Prop}, Inv (X.suite a (X.pn ++ pins)) [] σ6 H6 s6 → (∀ s7, Inv X pins (σ6.set i none) H6 s7 → Q s7) →
        wpAny (model X.prog X.w) X.A (do bindName X.env n .none; unbindBehindTheSuite X.env n pos') (fun _ s7 => Q s7) X.xe s6 := fun {σ6 H6 s6 Q} S6 hq => gone_ok (inv_unsuite0 S6 ok) hN hi hln hq
    refine wpAny_mono ((hsu a (X.pn ++ pins)).run [] s5 _ _ _ S5 (wish a na)) (fun f s6 sp => ?_) (fun _ _ z => False.elim z)
    cases f with
    | next =>
      obtain ⟨σ6, H6, S6, q6⟩ := sp
      exact fin S6 fun s7 J7 => ⟨_, _, J7, q6⟩
    | brk =>
      obtain ⟨σ6, H6, S6, q6⟩ := sp
      exact fin S6 fun s7 J7 => ⟨_, _, J7, q6⟩
    | cont =>
      obtain ⟨σ6, H6, S6, q6⟩ := sp
      exact fin S6 fun s7 J7 => ⟨_, _, J7, q6⟩
    | ret u =>
      obtain ⟨v6, σ6, H6, S6, r6, q6⟩ := sp
      exact fin S6 fun s7 J7 => ⟨_, _, _, J7, r6, q6⟩
  refine wpAny_Try_except ?_
  refine wpAny_mono ((hb (wTrk X.K c i ts D) (X.pn ++ pins) air taken PassesOwn.looking).run [] s σ H D (I.toTry _) want) (fun f s1 sp => ?_) (fun e s1 he => he)
  cases f with
  | next =>
    obtain ⟨σ1, H1, J1, q⟩ := sp
    exact wpAny_execs_nil ⟨σ1, H1, J1.ofTry ok, q⟩
  | brk =>
    obtain ⟨σ1, H1, J1, q⟩ := sp
    exact ⟨σ1, H1, J1.ofTry ok, q⟩
  | cont =>
    obtain ⟨σ1, H1, J1, q⟩ := sp
    exact ⟨σ1, H1, J1.ofTry ok, q⟩
  | ret u =>
    obtain ⟨v, σ1, H1, J1, r, q⟩ := sp
    exact ⟨v, σ1, H1, J1.ofTry ok, r, q⟩
end
end LQ
/-! ### classes of exceptions -/
namespace LQ
open PySem PySem.Spec PyProof.Rows L2 LX PySem.W
/-- what the class at C says, so that its instances can be asked -/
structure XcK (K : PySem.W.Frag) (C : Addr) : Prop where
  cl : (clsIn K C).isSome = true
  ga : findIn K (.ref C) "__getattribute__" = some (some (.builtin "BaseException.__getattribute__"))
  gg : findIn K (.ref C) "__getattr__" = some none
  sb : subIn K (.ref C) (.type "BaseException") = some true
  hd : hasDictIn K C = true
  ha : findIn K (.ref C) "__class__" = some (some (.builtin "object.__class__"))
  hn : specialIn K (.builtin "object.__class__") "__get__" = some (some (.builtin "getset_descriptor.__get__"))
  tk : takesIn K (.builtin "object.__class__") = some true
  mr : mroIn K C (.type "object") = some true
theorem xck {K : PySem.W.Frag} {C : Addr} (ga : findIn K (.ref C) "__getattribute__" = some (some (.builtin "BaseException.__getattribute__"))) (gg : findIn K (.ref C) "__getattr__" = some none) (sb : subIn K (.ref C) (.type "BaseException") = some true) (hd : hasDictIn K C = true)
    (ha : findIn K (.ref C) "__class__" = some (some (.builtin "object.__class__"))) (hn : specialIn K (.builtin "object.__class__") "__get__" = some (some (.builtin "getset_descriptor.__get__"))) (tk : takesIn K (.builtin "object.__class__") = some true) (mr : mroIn K C (.type "object") = some true) : XcK K C :=
  ⟨by obtain ⟨cd, h, _⟩ := any_some hd; rw [h]; rfl, ga, gg, sb, hd, ha, hn, tk, mr⟩
theorem kit_own {K : PySem.W.Frag} {C D : Addr} {b : Bool} (h1 : hasDictIn K D = true) (h2 : typeIn K (.ref D) = some (.type "type")) (h3 : subIn K (.ref C) (.ref D) = some b) (h5 : subIn K (.ref C) (.ref C) = some true) : kitOne K (.ref C) (.ref D) = some b := by
  unfold kitOne
  by_cases e : C = D
  · subst e
    rw [h5] at h3
    rw [← Option.some.inj h3]
    rw [if_pos (by simp)]
  · rw [if_neg (by simp [e])]
    obtain ⟨cd, hc, _⟩ := any_some h1
    show (if ((clsIn K D).isSome && typeIn K (.ref D) == some (.type "type")) = true then subIn K (.ref C) (.ref D) else none) = some b
    rw [if_pos (by rw [hc, h2]; simp), h3]
theorem kit_VE {K : PySem.W.Frag} {C : Addr} {b : Bool} (h : subIn K (.ref C) (.type "ValueError") = some b) : kitOne K (.ref C) (.type "ValueError") = some b := by
  unfold kitOne
  rw [if_neg (by simp)]
  show (if kitMeta "ValueError" = true then subIn K (.ref C) (.type "ValueError") else none) = some b
  rw [if_pos (by decide +kernel), h]
/-- isinstance(e, c), e tracked -/
def rIsiE (K : PySem.W.Frag) : List V → Hp → VK → Prop := fun xs H Q => ∃ (a C : Addr) (d : Option Addr) (c : V) (u : Value) (b : Bool), xs = [.ref a, c] ∧ H a = some (XO C d a) ∧ (∀ dd, d = some dd → ∃ fs, H dd = some (.xd fs)) ∧ XcK K C ∧ ClsV c u ∧ kitOne K (.ref C) u = some b ∧ Q (.bl b) H
/-- isinstance(e, (c1, c2, ..)), e tracked -/
def rIsiET (K : PySem.W.Frag) : List V → Hp → VK → Prop := fun xs H Q => ∃ (a C tp : Addr) (d : Option Addr) (cs : List V) (us : List Value) (b : Bool), xs = [.ref a, .ref tp] ∧ H a = some (XO C d a) ∧ (∀ dd, d = some dd → ∃ fs, H dd = some (.xd fs)) ∧ XcK K C ∧
  H tp = some (.tup cs) ∧ Paired ClsV cs us ∧ kitAny K (.ref C) us = some b ∧ Q (.bl b) H
section
variable {X : Cx} {pins : List (Addr × Obj)} {σ : L2.St} {H : Hp} {s : Shared}
theorem xo_at (I : Inv X pins σ H s) {a C : Addr} {d : Option Addr} (ha : H a = some (XO C d a)) (hd : ∀ dd, d = some dd → ∃ fs, H dd = some (.xd fs)) : ∃ (oe : Obj) (od : Option Obj), PySem.W.InstAt s.heap a oe C od ∧ oe.dict = d := by
  obtain ⟨⟨oe, vs, e, z, f⟩, _, _⟩ := (show ObjOk X.prog X.w H s.heap a (XO C d a) from I.hok a _ ha)
  obtain ⟨oc, odd, oda, osl⟩ := oe
  obtain ⟨h1, h2⟩ := z
  dsimp only at h1 h2 f
  subst h1 h2 f
  cases hdd : odd with
  | none => exact ⟨_, none, ⟨by rw [hdd] at e; exact e, rfl, rfl, trivial⟩, rfl⟩
  | some dd =>
    obtain ⟨fs, hx⟩ := hd dd hdd
    obtain ⟨mA, ⟨o, es, ep, ho, _⟩, _⟩ := (show ObjOk X.prog X.w H s.heap dd (.xd fs) from I.hok dd _ hx)
    exact ⟨_, some o, ⟨by rw [hdd] at e; exact e, rfl, rfl, ho⟩, rfl⟩
theorem call_isiE : CallR X (.builtin "isinstance") (rIsiE X.K) := by
  intro pins s σ H xs us Q I r h
  obtain ⟨a, C, d, c, u, b, rfl, ha, hd, hC, k, e, q⟩ := h
  obtain ⟨u1, u2, rfl, r1, r2⟩ := vals2 r
  cases (show u1 = Value.ref a from r1)
  have e2 := k.eq r2
  subst e2
  obtain ⟨oe, od, J, _⟩ := xo_at I ha hd
  exact PySem.W.kia_one (PySem.W.kitx_exc hC.cl hC.ga hC.gg hC.sb hC.ha hC.hn hC.tk hC.mr) I.kIn J e (fun z => nomatch z) fun tk => ⟨.bl b, H, I.tok tk, rfl, q⟩
theorem call_isiET : CallR X (.builtin "isinstance") (rIsiET X.K) := by
  intro pins s σ H xs us Q I r h
  obtain ⟨a, C, tp, d, cs, ws, b, rfl, ha, hd, hC, hT, k, e, q⟩ := h
  obtain ⟨u1, u2, rfl, r1, r2⟩ := vals2 r
  cases (show u1 = Value.ref a from r1)
  cases (show u2 = Value.ref tp from r2)
  obtain ⟨oe, od, J, _⟩ := xo_at I ha hd
  obtain ⟨_, its, rv, o, h1, h2, n, h3⟩ := (show ObjOk X.prog X.w H s.heap tp (.tup cs) from I.hok tp _ hT)
  have e3 := ClsV.all k rv
  subst e3
  obtain ⟨oc, oq, dt, sl⟩ := o
  simp only at h2 h3
  subst h2 h3
  exact PySem.W.kia_tup (PySem.W.kitx_exc hC.cl hC.ga hC.gg hC.sb hC.ha hC.hn hC.tk hC.mr) I.kIn J h1 e (fun z => nomatch z) fun tk => ⟨.bl b, H, I.tok tk, rfl, q⟩
theorem kisiE {K : PySem.W.Frag} (h : X.K = K := by rfl) : CallR X (.builtin "isinstance") (rIsiE K) := h ▸ call_isiE
theorem kisiET {K : PySem.W.Frag} (h : X.K = K := by rfl) : CallR X (.builtin "isinstance") (rIsiET K) := h ▸ call_isiET
/-- e.f of a tracked exception -/
def zXf (K : PySem.W.Frag) (f : Str) (x : V) (H1 : Hp) (Q : VK) : Prop := ∃ (a C dd : Addr) (fs : List (Str × V)) (v : V), x = .ref a ∧ H1 a = some (XO C (some dd) a) ∧ XcK K C ∧ findIn K (.ref C) f = some none ∧ H1 dd = some (.xd fs) ∧ fs.lookup f = some v ∧ Q v H1
def tXf (K : PySem.W.Frag) (f : Str) (te : TE) : TE := fun σ H Q => te σ H fun x H1 => zXf K f x H1 Q
theorem pe_xfE {K : PySem.W.Frag} {e : Expr} {te : TE} {pos : Pos} {n : Str} (he : PE X e te) (hK : X.K = K := by rfl) (hb : attributeBase e n X.env (eval e X.env) = eval e X.env := by rfl) : PE X (.Attribute e n pos) (tXf K n te) := by
  subst hK
  refine ⟨fun pins s σ H Q I h => ?_⟩
  refine attr_of hb (thn (he.run pins s σ H _ I h) fun u s1 hh => ?_)
  obtain ⟨x, H1, I1, rx, a, C, dd, fs, v, ex, ha, T, hno, hx, l, q⟩ := hh
  subst ex
  obtain rfl : u = Value.ref a := rx
  obtain ⟨⟨oe, vs, e1, z, f⟩, _, _⟩ := (show ObjOk X.prog X.w H1 s1.heap a (XO C (some dd) a) from I1.hok a _ ha)
  obtain ⟨mA, hns, hr⟩ := (show ObjOk X.prog X.w H1 s1.heap dd (.xd fs) from I1.hok dd _ hx)
  obtain ⟨od, ho, hl⟩ := lookIn_ns hns
  obtain ⟨u, hu, ru⟩ := RelO.some_of (v := v) (o := mA n) (by rw [← l]; exact hr n)
  have J : PySem.W.InstAt s1.heap a oe C (some od) := ⟨e1, z.1, by unfold PySem.W.notCls; rw [f] <;> rfl, by rw [z.2]; exact ho⟩
  exact HandSPX.exc_get I1.kIn J T.ga T.gg T.sb (PySem.W.findObj_own T.hd hno rfl (by rw [hl, hu])) (handed_of ru) ⟨v, H1, I1.tok _, ru, q⟩
end
/-! ### what may come back -/
/-- an exception: the number of its class, its number -/
abbrev Er : Type := Nat × Option Int
inductive Out (α : Type) where
  | ok (a : α)
  | ex (e : Er)
/-- is the class j one above the class i -/
def isT (j i : Nat) : Bool := j == 0 || i == j
def outK {α β : Type} (o : Out α) (f : Er → β) (g : α → β) : β := match o with
  | .ok a => g a
  | .ex e => f e
theorem outC {α β : Type} {o : Out α} {f : Er → Option β} {g : α → Option β} {r : β} {P : Prop} (h : outK o f g = some r) (h1 : ∀ e, o = .ex e → f e = some r → P) (h2 : ∀ y, o = .ok y → g y = some r → P) : P := by
  cases o with
  | ok a => exact h2 a rfl h
  | ex e => exact h1 e rfl h
/-- classes 11, 12, 13 carry a number -/
def fldE : Nat → Option Str
  | 11 => some (Str.ofString "index")
  | 12 => some (Str.ofString "people")
  | 13 => some (Str.ofString "index")
  | _ => none
/-- the exception of the class C with the dict d is e; cx: where the classes stand, ix: those that are raised -/
def ErrAt (cx : Nat → Addr) (ix : List Nat) (G : Hp) (C : Value) (d : Option Addr) (e : Er) : Prop :=
  e.1 ∈ ix ∧ C = .ref (cx e.1) ∧ (fldE e.1 = none → d = none ∧ e.2 = none) ∧ (∀ f, fldE e.1 = some f → ∃ dd, d = some dd ∧ G dd = some (.xd [(f, vO V.int e.2)]))
def FrE (cx : Nat → Addr) (ix : List Nat) (G : Hp) (v : V) (e : Er) : Prop := ∃ a d, v = .ref a ∧ G a = some (XO (cx e.1) d a) ∧ ErrAt cx ix G (.ref (cx e.1)) d e
def FrEO (cx : Nat → Addr) (ix : List Nat) (G : Hp) (v : V) : Option Er → Prop
  | none => v = .non
  | some e => FrE cx ix G v e
section
variable {cx : Nat → Addr} {ix : List Nat} {G G' H H' H0 : Hp} {v : V} {e : Er} {o : Option Er} {C : Value} {d : Option Addr} {ms : List Addr} {cs : List (Addr × HO)}
theorem ErrAt.same (h : ErrAt cx ix G C d e) (s : Same G G') : ErrAt cx ix G' C d e := ⟨h.1, h.2.1, h.2.2.1, fun f hf => let ⟨dd, a, b⟩ := h.2.2.2 f hf; ⟨dd, a, s _ _ b⟩⟩
theorem FrE.same (h : FrE cx ix G v e) (s : Same G G') : FrE cx ix G' v e := let ⟨a, d, x, y, z⟩ := h; ⟨a, d, x, s _ _ y, z.same s⟩
theorem FrEO.same (h : FrEO cx ix G v o) (s : Same G G') : FrEO cx ix G' v o := by
  cases o with
  | none => exact h
  | some e => exact FrE.same h s
theorem ErrAt.xd (h : ErrAt cx ix G C d e) : ∀ dd, d = some dd → ∃ fs, G dd = some (.xd fs) := fun dd hd => by
  cases k : fldE e.1 with
  | none =>
    rw [(h.2.2.1 k).1] at hd
    cases hd
  | some f =>
    obtain ⟨d2, a, b⟩ := h.2.2.2 f k
    rw [hd] at a
    cases a
    exact ⟨_, b⟩
theorem q_isiE {K : PySem.W.Frag} {Q : VK} {c : V} {u : Value} {t : Nat → Bool} (s : Same G H) (f : FrE cx ix G v e) (hX : ∀ i ∈ ix, XcK K (cx i)) (hc : ClsV c u) (hk : ∀ i ∈ ix, kitOne K (.ref (cx i)) u = some (t i)) (q : Q (.bl (t e.1)) H) : rIsiE K [v, c] H Q := by
  obtain ⟨a, d, rfl, h1, h2⟩ := f
  exact ⟨a, _, d, c, u, _, rfl, s _ _ h1, fun dd hd => let ⟨fs, h⟩ := h2.xd dd hd; ⟨fs, s _ _ h⟩, hX _ h2.1, hc, hk _ h2.1, q⟩
theorem q_isiET {K : PySem.W.Frag} {Q : VK} {tp : Addr} {vs : List V} {us : List Value} {t : Nat → Bool} (s : Same G H) (f : FrE cx ix G v e) (hX : ∀ i ∈ ix, XcK K (cx i)) (hT : H tp = some (.tup vs)) (hc : Paired ClsV vs us) (hk : ∀ i ∈ ix, kitAny K (.ref (cx i)) us = some (t i)) (q : Q (.bl (t e.1)) H) : rIsiET K [v, .ref tp] H Q := by
  obtain ⟨a, d, rfl, h1, h2⟩ := f
  exact ⟨a, _, tp, d, vs, us, _, rfl, s _ _ h1, fun dd hd => let ⟨fs, h⟩ := h2.xd dd hd; ⟨fs, s _ _ h⟩, hX _ h2.1, hT, hc, hk _ h2.1, q⟩
/-- the number that an exception carries -/
def numE (f : Str) (e : Er) : Option (Option Int) := if fldE e.1 = some f then some e.2 else none
theorem rd_xf {K : PySem.W.Frag} {f : Str} {te : TE} {σ : L2.St} {Q : VK} (q : te σ H fun x H1 => zXf K f x H1 Q) : tXf K f te σ H Q := q
theorem q_xf {K : PySem.W.Frag} {Q : VK} {f : Str} {n : Option Int} (s : Same G H) (g : FrE cx ix G v e) (hX : ∀ i ∈ ix, XcK K (cx i)) (hno : ∀ i ∈ ix, fldE i = some f → findIn K (.ref (cx i)) f = some none) (h : numE f e = some n) (q : Q (vO V.int n) H) : zXf K f v H Q := by
  obtain ⟨a, d, rfl, h1, h2⟩ := g
  unfold numE at h
  by_cases k : fldE e.1 = some f
  · rw [if_pos k] at h
    cases h
    obtain ⟨dd, hd, hx⟩ := h2.2.2.2 f k
    subst hd
    exact ⟨a, _, dd, _, _, rfl, s _ _ h1, hX _ h2.1, hno _ h2.1 k, s _ _ hx, by simp [List.lookup], q⟩
  · rw [if_neg k] at h
    cases h
/-- a caught exception is tracked and never written -/
theorem Sep.caught (S : Sep ms H0 G H cs) {a C : Addr} (na : H a = none) (h : ErrAt cx ix G (.ref C) d e) : ∃ G', Sep ms H0 G' (upd H a (XO C d a)) cs ∧ Same G G' ∧ FrE cx ix G' (.ref a) e := by
  have sm := sNew (o := XO C d a) (S.gfree na)
  refine ⟨_, S.sh na, sm, a, d, rfl, ?_, ?_⟩
  · have := h.2.1
    cases this
    exact upd_same
  · have := h.2.1
    cases this
    exact h.same sm
theorem isNoE (h : FrEO cx ix G v o) : decide (v = V.non) = o.isNone := by
  cases o with
  | none => cases h; rfl
  | some e => obtain ⟨a, d, rfl, _⟩ := h; rfl
end
end LQ

/-! Values of any kind: what they are is asked, then they are taken as that. -/
namespace LQ
open PySem PySem.Spec PyProof.Rows L2 LX PySem.W
/-- the name of a datum's type -/
def tyD : PyData → String
  | .none => "NoneType"
  | .bool _ => "bool"
  | .int _ => "int"
  | .str _ => "str"
  | .list _ => "list"
  | .tuple _ => "tuple"
  | .dict _ => "dict"
def asI : PyData → Option Int
  | .int i => some i
  | _ => none
def asS : PyData → Option Str
  | .str i => some i
  | _ => none
def asB : PyData → Option Bool
  | .bool i => some i
  | _ => none
def asL : PyData → Option (List PyData)
  | .list l => some l
  | _ => none
def asVT : PyData → Option (List PyData)
  | .tuple l => some l
  | _ => none
def asT2 : PyData → Option (PyData × PyData)
  | .tuple [a, b] => some (a, b)
  | _ => none
def asO {α : Type} (f : PyData → Option α) : PyData → Option (Option α)
  | .none => some none
  | d => (f d).map some
/-- all of a list -/
def asAll {α : Type} (f : PyData → Option α) : List PyData → Option (List α)
  | [] => some []
  | x :: l => (f x).bind fun y => (asAll f l).bind fun m => some (y :: m)
def asLof {α : Type} (f : PyData → Option α) (d : PyData) : Option (List α) := (asL d).bind (asAll f)
def asP {α β : Type} (f : PyData → Option α) (g : PyData → Option β) (d : PyData) : Option (α × β) := (asT2 d).bind fun p => (f p.1).bind fun x => (g p.2).bind fun y => some (x, y)
/-- d is what e makes of x, where f finds x -/
def AsOk {α : Type} (f : PyData → Option α) (e : α → PyData) : Prop := ∀ d x, f d = some x → d = e x
theorem asI_ok : AsOk asI eI := fun d x h => by cases d <;> first | (cases h; done) | (cases h; rfl)
theorem asS_ok : AsOk asS eS := fun d x h => by cases d <;> first | (cases h; done) | (cases h; rfl)
theorem asB_ok : AsOk asB eB := fun d x h => by cases d <;> first | (cases h; done) | (cases h; rfl)
theorem asA_ok : AsOk some eA := fun d x h => by cases h; rfl
theorem asL_ok : AsOk asL (eL eA) := fun d x h => by
  cases d <;> first | (cases h; done) | (cases h; show _ = PyData.list (List.map (fun d => d) _); rw [List.map_id'])
theorem asAll_ok {α : Type} {f : PyData → Option α} {e : α → PyData} (k : AsOk f e) : ∀ {l : List PyData} {m : List α}, asAll f l = some m → l = m.map e
  | [], m, h => by cases h; rfl
  | x :: l, m, h => by
    obtain ⟨y, h1, h2⟩ := bnd h
    obtain ⟨z, h3, h4⟩ := bnd h2
    cases h4
    rw [List.map_cons, ← asAll_ok k h3, ← k _ _ h1]
theorem asLof_ok {α : Type} {f : PyData → Option α} {e : α → PyData} (k : AsOk f e) : AsOk (asLof f) (eL e) := fun d x h => by
  obtain ⟨l, h1, h2⟩ := bnd h
  rw [asL_ok _ _ h1]
  show PyData.list (List.map (fun d => d) l) = PyData.list (x.map e)
  rw [List.map_id', asAll_ok k h2]
theorem asT2_ok : AsOk asT2 (eT2 eA eA) := fun d x h => by
  unfold asT2 at h
  split at h
  · cases h; rfl
  · cases h
theorem asP_ok {α β : Type} {f : PyData → Option α} {g : PyData → Option β} {e : α → PyData} {e2 : β → PyData} (k : AsOk f e) (k2 : AsOk g e2) : AsOk (asP f g) (eT2 e e2) := fun d x h => by
  obtain ⟨p, h1, h⟩ := bnd h
  obtain ⟨y, h2, h⟩ := bnd h
  obtain ⟨z, h3, h⟩ := bnd h
  cases h
  rw [asT2_ok _ _ h1]
  show PyData.tuple [p.1, p.2] = PyData.tuple [e y, e2 z]
  rw [k _ _ h2, k2 _ _ h3]
theorem asO_ok {α : Type} {f : PyData → Option α} {e : α → PyData} (k : AsOk f e) : AsOk (asO f) (eO e) := fun d x h => by
  have h2 : d ≠ .none → ∃ y, f d = some y ∧ x = some y := fun n => by
    cases d <;> first | exact absurd rfl n | (obtain ⟨y, a, b⟩ := Option.map_eq_some_iff.mp h; exact ⟨y, a, b.symm⟩)
  by_cases n : d = .none
  · subst n
    cases h
    rfl
  · obtain ⟨y, a, b⟩ := h2 n
    rw [b]
    exact k _ _ a
/-- back: what is so made is so found -/
theorem asAll_map {α : Type} {f : PyData → Option α} {e : α → PyData} (k : ∀ x, f (e x) = some x) : ∀ l : List α, asAll f (l.map e) = some l
  | [] => rfl
  | x :: l => by
    show (f (e x)).bind _ = _
    rw [k x]
    show (asAll f (l.map e)).bind _ = _
    rw [asAll_map k l]
    rfl
theorem asLof_enc {α : Type} {f : PyData → Option α} {e : α → PyData} (k : ∀ x, f (e x) = some x) (l : List α) : asLof f (eL e l) = some l := asAll_map k l
section
variable {F0 H0 G H : Hp} {V : V} {d : PyData}
theorem as_fr {α : Type} {f : PyData → Option α} {e : α → PyData} {x : α} (k : AsOk f e) (h : f d = some x) (g : Fr F0 G V d) : Fr F0 G V (e x) := k _ _ h ▸ g
theorem asl_frl {α : Type} {f : PyData → Option α} {e : α → PyData} {vs : List L2.V} {l : List PyData} {m : List α} (k : AsOk f e) (h : asAll f l = some m) (g : FrL F0 G vs (l.map eA)) : FrL F0 G vs (m.map e) := by
  have := asAll_ok k h
  rw [← this]
  have e1 : l.map eA = l := List.map_id' l
  rw [e1] at g
  exact g
theorem frl_any {α : Type} {e : α → PyData} {vs : List L2.V} {m : List α} (g : FrL F0 G vs (m.map e)) : FrL F0 G vs ((m.map e).map eA) := by
  have e1 : (m.map e).map eA = m.map e := List.map_id' _
  rw [e1]
  exact g
theorem fr_any {α : Type} {e : α → PyData} {v : L2.V} {m : List α} (g : Fr F0 G v (eL e m)) : Fr F0 G v (eL eA (m.map e)) := by
  show Fr F0 G v (.list ((m.map e).map eA))
  have e1 : (m.map e).map eA = m.map e := List.map_id' _
  rw [e1]
  exact g
theorem frvt_any {α : Type} {e : α → PyData} {v : L2.V} {m : List α} (g : Fr F0 G v (.tuple (m.map e))) : Fr F0 G v (.tuple ((m.map e).map eA)) := by
  have e1 : (m.map e).map eA = m.map e := List.map_id' _
  rw [e1]
  exact g
end
/-! ### type(x), isinstance(x, T) of anything -/
def zTyR (o : Option HO) (old : Option String) : Option String := match o with
  | some (.dK _) => some "dict"
  | some (.frz _ (.dK _)) => some "dict"
  | _ => old
def zTyA (x : V) (H : Hp) : Option String := match x with
  | .ref p => zTyR (H p) (zTyV (.ref p) H)
  | x => zTyV x H
def kTypA (x : V) (H : Hp) (Q : VK) : Prop := ∃ n, zTyA x H = some n ∧ Q (.ty n) H
section
variable {X : Cx}
theorem rl_typeA (pins : List (Addr × Obj)) (s : Shared) (σ : L2.St) (H : Hp) (x : V) (v : Value) (Q : VK) (I : Inv X pins σ H s) (r : RelV x v) (h : kTypA x H Q) :
    wpAny (model X.prog X.w) X.A (call (.type "type") [v]) (EP X pins σ Q) X.xe s := by
  obtain ⟨n, e, q⟩ := h
  by_cases old : zTyV x H = some n
  · exact rl_type pins s σ H x v Q I r ⟨n, old, q⟩
  cases x with
  | ref p =>
    cases (show v = Value.ref p from r)
    have e : zTyR (H p) (zTyV (.ref p) H) = some n := e
    cases ho : H p with
    | none =>
      rw [ho] at e
      exact absurd e old
    | some o =>
      rw [ho] at e
      have ok := I.hok p o ho
      cases o with
      | dK kvs =>
        cases e
        obtain ⟨_, _, vs, _, ob, es, ep, h1, h2, _⟩ := (show ObjOk X.prog X.w H s.heap p (.dK kvs) from ok)
        exact call_type_of (Tx := "dict") ⟨ob, h1, h2.1⟩ (by decide +kernel) ⟨.ty "dict", H, I, rfl, q⟩
      | frz ob2 u =>
        cases u with
        | dK kvs =>
          cases e
          obtain ⟨_, _, _, vs, _, ob, es, ep, h1, h2, _⟩ := (show ObjOk X.prog X.w H s.heap p (.frz ob2 (.dK kvs)) from ok)
          exact call_type_of (Tx := "dict") ⟨ob, h1, h2.1⟩ (by decide +kernel) ⟨.ty "dict", H, I, rfl, q⟩
        | _ => exact absurd e old
      | _ => exact absurd e old
  | _ => exact absurd e old
theorem pe_typeOfA {p pos : Pos} {a : Expr} {ta : TE} (hg : Gl X "type") (hm : X.mg "type" = none) (ha : PE X a ta) (na : starEach [a] X.env = (false, eval a X.env) :: starEach [] X.env := by rfl) :
    PE X (.Call (.Name "type" p) [a] [] pos) (tThenZ ta kTypA) := pe_callTy (call_r1 rl_typeA) hg hm (by decide +kernel) (pa_cons ha pa_nil na) (he := na)
end
section
variable {F0 H : Hp} {x : V} {d : PyData} {Q : VK} {K : PySem.W.Frag}
theorem fr_ty (f : Fr F0 H x d) : zTyA x H = some (tyD d) := by
  cases f with
  | non => rfl
  | bl b => rfl
  | int i => rfl
  | str s => rfl
  | lst h _ _ =>
    show zTyR (H _) (match H _ with | some (.lst _) => _ | some (.tup _) => _ | _ => _) = _
    rw [h]
    rfl
  | tup h _ =>
    show zTyR (H _) (match H _ with | some (.lst _) => _ | some (.tup _) => _ | _ => _) = _
    rw [h]
    rfl
  | dic h _ _ =>
    rcases h with h | ⟨o, h⟩
    · show zTyR (H _) _ = _
      rw [h]; rfl
    · show zTyR (H _) _ = _
      rw [h]; rfl
theorem q_typA (f : Fr F0 H x d) (q : Q (.ty (tyD d)) H) : r1 kTypA [x] H Q := ⟨_, fr_ty f, q⟩
theorem fr_tyx (f : Fr F0 H x d) : TyX K H x (.type (tyD d)) := by
  cases f with
  | non => exact .base .non
  | bl b => exact .base (.bl b)
  | int i => exact .base (.int i)
  | str s => exact .base (.str s)
  | lst h _ _ => exact .base (.lst h)
  | tup h _ => exact .base (.tup h)
  | dic h _ _ =>
    rcases h with h | ⟨o, h⟩
    · exact .base (.dK h)
    · exact .fDict h
/-- isinstance(x, T) by the names -/
def isiD (d : PyData) (T : String) : Bool := decide (tyD d = T) || (decide (tyD d = "bool") && decide (T = "int"))
theorem kit_D {T : String} (hT : T = "int" ∨ T = "bool" ∨ T = "str" ∨ T = "list" ∨ T = "tuple" ∨ T = "dict") : ∀ d, kitOne K (.type (tyD d)) (.type T) = some (isiD d T) := by
  intro d
  have key : ∀ a b : String, (a = "NoneType" ∨ a = "bool" ∨ a = "int" ∨ a = "str" ∨ a = "list" ∨ a = "tuple" ∨ a = "dict") → (b = "int" ∨ b = "bool" ∨ b = "str" ∨ b = "list" ∨ b = "tuple" ∨ b = "dict") → kitB a b = some (decide (a = b) || (decide (a = "bool") && decide (b = "int"))) := by
    intro a b ha hb
    rcases ha with rfl | rfl | rfl | rfl | rfl | rfl | rfl <;> rcases hb with rfl | rfl | rfl | rfl | rfl | rfl <;> decide +kernel
  refine kit_ty (key _ _ ?_ hT)
  cases d <;> simp [tyD]
theorem q_isiA {T : String} (hT : T = "int" ∨ T = "bool" ∨ T = "str" ∨ T = "list" ∨ T = "tuple" ∨ T = "dict") (f : Fr F0 H x d) (q : Q (.bl (isiD d T)) H) : rIsi K [x, .ty T] H Q :=
  ⟨x, .ty T, _, _, _, rfl, .ty T, fr_tyx f, kit_D hT d, q⟩
theorem frN (f : Fr F0 H x d) : decide (x = V.non) = isNoneD d := by cases f <;> rfl
end
/-! ### tuples of any length -/
section
variable {α : Type} {F0 H0 G H : Hp} {a : Addr} {e : α → PyData} {l : List α} {Q : VK} {K : PySem.W.Frag} {vs : List V}
theorem ti (f : Fr F0 G (.ref a) (eVT e l)) : ∃ vs, G a = some (.tup vs) ∧ FrL F0 G vs (l.map e) := tu f
theorem q_lenVT (ha : H a = some (.tup vs)) (f : FrL F0 G vs (l.map e)) (q : Q (.int (lenI l)) H) : qLen K [.ref a] H Q := by
  refine rd_lenT ha ?_
  rw [f.len, List.length_map]
  exact q
theorem q_ixVT {i : Int} {x : α} (ha : H a = some (.tup vs)) (f : FrL F0 G vs (l.map e)) (h : ix l i = some x) (q : ∀ v, Fr F0 G v (e x) → Q v H) : rIxT K (.ref a) (.int i) H Q := by
  obtain ⟨v, h1, h2⟩ := ix_get h f
  exact rd_ixT ha h1 (q v h2)
theorem asVT_ok : AsOk asVT (eVT eA) := fun d x h => by
  cases d <;> first | (cases h; done) | (cases h; show _ = PyData.tuple (List.map (fun d => d) _); rw [List.map_id'])
theorem flVT (h : ∀ x, flatD (e x) = true) (l : List α) : flatD (eVT e l) = true := by
  show flatD (.tuple (l.map e)) = true
  simp only [flatD]
  exact flat_map h l
theorem q_lstA {α : Type} {e : α → PyData} {l : List α} {vs : List V} {F0 : Hp} (f : FrL F0 H vs (l.map e)) : FrL F0 H vs ((l.map e).map eA) := frl_any f
end
end LQ
/-! ### behind a call that raised -/
namespace LQ
open PySem L2 LX
section
variable {cx : Nat → Addr} {ix : List Nat} {G G1 H H' H0 : Hp} {C : Value} {d : Option Addr} {e : Er} {ms : List Addr} {cs : List (Addr × HO)}
theorem Sep.retG (S : Sep ms H0 G H cs) (R : Ret [] H G1 H') : Sep ms H0 (hid G1 (cs.map (·.1))) H' cs ∧ Same G (hid G1 (cs.map (·.1))) := by
  have keep : ∀ c ∈ cs, H' c.1 = some c.2 := fun c hc => R.sub _ _ (R.base _ _ (S.cel c hc).1 List.not_mem_nil)
  have sG : Same G (hid G1 (cs.map (·.1))) := fun b o q => by
    have n : b ∉ cs.map (·.1) := fun z => by
      obtain ⟨c, hc, rfl⟩ := List.mem_map.mp z
      rw [(S.cel c hc).2.1] at q
      cases q
    rw [hid_out n]
    exact R.base b o (S.sub b o q) List.not_mem_nil
  refine ⟨⟨fun b o q => R.sub b o (hid_some q).2, fun c hc => ⟨keep c hc, hid_in (List.mem_map_of_mem hc), (S.cel c hc).2.2⟩, S.nd, S.msc, S.hms, fun b q => S.old b (R.old b q), fun b o q n => sG b o (S.base b o q n), fun b xs q => ?_⟩, sG⟩
  have q1 := R.tups b xs q
  rw [hid_out]
  · exact q1
  · intro z
    obtain ⟨c, hc, rfl⟩ := List.mem_map.mp z
    have k := keep c hc
    rw [q] at k
    exact (S.cel c hc).2.2 xs (Option.some.inj k).symm
theorem Sep.ret0E (S : Sep ms H0 G H cs) (R : Ret [] H G1 H') (h : ErrAt cx ix G1 C d e) (hn : ∀ dd, d = some dd → H dd = none) : ∃ G', Sep ms H0 G' H' cs ∧ Same G G' ∧ ErrAt cx ix G' C d e ∧ ∀ dd, d = some dd → H0 dd = none := by
  obtain ⟨S2, s2⟩ := S.retG R
  refine ⟨_, S2, s2, ⟨h.1, h.2.1, h.2.2.1, fun f hf => ?_⟩, fun dd hd => S.old dd (hn dd hd)⟩
  obtain ⟨dd, hd, hx⟩ := h.2.2.2 f hf
  exact ⟨dd, hd, by rw [hid_out (S.cne (hn dd hd))]; exact hx⟩
theorem err_plain {i : Nat} (hi : i ∈ ix) (hf : fldE i = none) : ErrAt cx ix G (.ref (cx i)) none (i, none) := ⟨hi, rfl, fun _ => ⟨rfl, rfl⟩, fun f h => by rw [hf] at h; cases h⟩
theorem err_num {i : Nat} {f : Str} {n : Option Int} {dd : Addr} (hi : i ∈ ix) (hf : fldE i = some f) (hx : G dd = some (.xd [(f, vO V.int n)])) : ErrAt cx ix G (.ref (cx i)) (some dd) (i, n) := by
  refine ⟨hi, rfl, fun h => ?_, fun g h => ?_⟩
  · have h : fldE i = none := h
    rw [hf] at h
    cases h
  · have h : fldE i = some g := h
    rw [hf] at h
    cases h
    exact ⟨dd, rfl, hx⟩
end
def okF {α : Type} : Out α → Option α
  | .ok a => some a
  | .ex _ => none
theorem okB {α : Type} {o : Option (Out α)} {y : α} (h : o.bind okF = some y) : o = some (.ok y) := by
  cases o with
  | none => cases h
  | some o => cases o with
    | ok a => cases h; rfl
    | ex e => cases h
/-- a try: the wish of its body -/
def tTry (K : PySem.W.Frag) (c : Value) (i : Nat) (tb : WX → TS) (ts : TS) : TS := fun D σ H => tb (wTrk K c i ts D) D σ H
theorem rd_tryT {K : PySem.W.Frag} {c : Value} {i : Nat} {tb : WX → TS} {ts : TS} {D : Ends} {σ : L2.St} {H : Hp} (P : WX → Prop) (hx : P (wTrk K c i ts D)) (hb : ∀ W, P W → tb W D σ H) : tTry K c i tb ts D σ H := hb _ hx
theorem ps_tryK {X : Cx} {K : PySem.W.Frag} {x n : Str} {c : Value} {i : Nat} {body suite : List Stmt} {b₀ : Stmt} {np pos pos' : Pos} {tb : WX → TS} {ts : TS} (hs : X.stack = X.env :: X.outer) (hf : X.env.frame = some X.env.locals) (hex : X.ex = []) (hN : X.N.Nodup) (hi : X.N[i]? = some n) (hln : X.env.kindOf n = some .local) (hc : Names X x c)
    (hb : ∀ (W : WX) (pn : List (Addr × Obj)) (xe : Value → Shared → Prop), Takes (X.tr pn xe) W → PassesOwn (model X.prog X.w) X.A X.env xe → PSs (X.tr pn xe) body (tb W))
    (hsu : ∀ (a : Addr) (pn : List (Addr × Obj)), PSs (X.suite a pn) (b₀ :: suite) ts) (hK : X.K = K := by rfl) :
    PS X (.Try body [.ExceptHandler (some (.Name x np)) (some n) (b₀ :: suite) pos'] [] [] pos) (tTry K c i tb ts) := by
  subst hK
  exact ps_tryT hs hf hex hN hi hln hc hb hsu
theorem rd_callSD {sp : Sp} {dvs : List V} {E : L2.St → XK} {tr : TA} {σ : L2.St} {H : Hp} {Q : VK} (q : tr σ H fun vs H1 => sp (vs ++ dvs) H1 Q (E σ)) : tCallSD sp dvs E tr σ H Q := q
/-- raise X('..') of a class without __init__ -/
def tRaise (C : Addr) (W : WX) : TS := fun _ σ H => W (.ref C) none σ H
theorem ps_raiseK {X : Cx} {W : WX} {C : Addr} {x m : Str} {j : Nat} {p p2 pos pos0 : Pos} (hc : X.calm = true) (tk : Takes X W) (q : PySem.W.excIn X.K C [.type "ValueError", .type "Exception", .type "BaseException", .type "object"] "ValueError.__new__" = true) (gC : X.mg x = some (.ref C)) (kC : PySem.W.keepIn X.K (.ref C) = true) (r : Raises X (.ref C)) (hg : Gl X x)
    (hdb : (x == ("__debug__" : Str)) = false := by decide) : PS X (.Raise (some (.Call (.Name x p) [.Constant (.str m) j p2] [] pos)) none pos0) (tRaise C W) :=
  ps_raise hc tk (pmk_own PySem.F.excBase_ValueError q gC kC r hg hdb)
end LQ
/-! ### a call of an item of a list of defs that may raise -/
namespace LQ
open PySem PySem.Spec PyProof.Rows L2 LX PySem.W
def HeldX (X : Cx) (f : Addr) (sp : Sp) : Prop := ∃ (k : Nat) (fd : FuncData) (ps : List Str), FnOk X.prog X.w X.K X.mg X.base (L2.CX X.prog X.w) k f fd ps sp ∧ Room k X.A ∧ PySem.W.keepIn X.K (.ref f) = true ∧ Binds X.K fd ps []
def tCallEX (S : Addr → Sp → Prop) (E : L2.St → XK) (tf : TE) (t : TA) : TE := fun σ H Q => tf σ H fun y H1 => ∃ f sp, y = .ref f ∧ S f sp ∧ t σ H1 fun vs H2 => sp vs H2 Q (E σ)
theorem pe_callEX {X : Cx} {fe e : Expr} {es : List Expr} {pos : Pos} {tf : TE} {t : TA} {S : Addr → Sp → Prop} {E : L2.St → XK} (hx : ∀ σ, PassesAt (L2.CX X.prog X.w) X σ (E σ)) (hf : PE X fe tf) (A : ∀ f sp, S f sp → HeldX X f sp) (ha : PA X (e :: es) t)
    (ht : eval (.Call fe (e :: es) [] pos) X.env = (do callWith pos (← eval fe X.env) [] (backTo pos (starEach (e :: es) X.env)) (backToKw pos (keywordEach [] X.env))) := by rfl)
    (he : starEach (e :: es) X.env = (false, eval e X.env) :: starEach es X.env := by rfl) (hpl : (backTo pos (starEach es X.env)).any (·.1) = false := by rfl) : PE X (.Call fe (e :: es) [] pos) (tCallEX S E tf t) := by
  refine ⟨fun pins s σ H Q I h => ?_⟩
  refine Call_ (thn (hf.run pins s σ H _ I h) fun u s1 ⟨y, H1, I1, ry, f, sp, ey, hS, q⟩ => ?_) ht
  subst ey
  obtain rfl : u = Value.ref f := ry
  obtain ⟨k, fd, ps, F, hr, hk, hb⟩ := A f sp hS
  refine PySem.W.callWith_K (h₀ := X.base) I1.ok.mod.kin hk (thn (ha.run pos pins s1 σ H1 _ I1 q) fun us s2 ⟨vs, H2, I2, r, q2⟩ => ⟨I2.kIn, ?_⟩) he hpl
  refine run_fnSD (dvs := []) (ds := []) F hr hb .nil (hx σ) I2 r ?_
  rw [List.append_nil]
  exact q2
theorem hx1 {X : Cx} {f0 : Addr} {sp0 : Sp} (h : HeldX X f0 sp0) : ∀ f sp, (f = f0 ∧ sp = sp0) → HeldX X f sp := fun f sp e => by
  obtain ⟨rfl, rfl⟩ := e
  exact h
theorem hxC {X : Cx} {f0 : Addr} {sp0 : Sp} {S : Addr → Sp → Prop} (h : HeldX X f0 sp0) (k : ∀ f sp, S f sp → HeldX X f sp) : ∀ f sp, ((f = f0 ∧ sp = sp0) ∨ S f sp) → HeldX X f sp := fun f sp e => by
  rcases e with ⟨rfl, rfl⟩ | e
  · exact h
  · exact k f sp e
theorem rd_callEX {S : Addr → Sp → Prop} {E : L2.St → XK} {tf : TE} {t : TA} {σ : L2.St} {H : Hp} {Q : VK} (q : tf σ H fun y H1 => ∃ f sp, y = .ref f ∧ S f sp ∧ t σ H1 fun vs H2 => sp vs H2 Q (E σ)) : tCallEX S E tf t σ H Q := q
end LQ
namespace LQ
open PySem PySem.Spec PyProof.Rows L2 LX PySem.W
@[reducible] def eT0 (_ : Unit) : PyData := .tuple []
theorem flT0 (x : Unit) : flatD (eT0 x) = true := by simp only [flatD, flatDs]
theorem fr_all {α : Type} {f : PyData → Option α} {e : α → PyData} {F0 G : Hp} {v : V} {l : List PyData} {m : List α} (k : AsOk f e) (h : asAll f l = some m) (g : Fr F0 G v (eL eA l)) : Fr F0 G v (eL e m) := by
  have := asAll_ok k h
  show Fr F0 G v (.list (m.map e))
  rw [← this]
  have e1 : l.map eA = l := List.map_id' l
  have g : Fr F0 G v (.list (l.map eA)) := g
  rw [e1] at g
  exact g
theorem outE {α β : Type} {e : Er} {f : Er → Option β} {g : α → Option β} {r : β} (h : outK (.ex e) f g = some r) : f e = some r := h
theorem outO {α β : Type} {y : α} {f : Er → Option β} {g : α → Option β} {r : β} (h : outK (.ok y) f g = some r) : g y = some r := h
section
variable {K : PySem.W.Frag} {cx : Nat → Addr} {ix : List Nat} {ms : List Addr} {cs : List (Addr × HO)} {H0 G H : Hp} {xs : List V} {Q : VK}
theorem kit0 : ∀ i ∈ ix, kitAny K (.ref (cx i)) [] = some false := fun _ _ => rfl
theorem kitC {c : Value} {us : List Value} {t r : Nat → Bool} (h : ∀ i ∈ ix, kitOne K (.ref (cx i)) c = some (t i)) (hr : ∀ i ∈ ix, kitAny K (.ref (cx i)) us = some (r i)) : ∀ i ∈ ix, kitAny K (.ref (cx i)) (c :: us) = some (t i || r i) := fun i hi =>
  kitAny_cons (h i hi) (fun e => by rw [hr i hi, e, Bool.false_or]) fun e => by rw [e, Bool.true_or]
theorem q_lstC (S : Sep ms H0 G H cs) (z : xs.length ≤ LIM) (q : ∀ p G' H', Sep ms H0 G' H' cs → Same G G' → G' p = some (.lst xs) → Q (.ref p) H') : zLst xs H Q :=
  ⟨lim_le z, fun p hp => q p _ _ (S.sh hp) (sNew (S.gfree hp)) upd_same⟩
theorem ixN_at {n : Nat} {i : Int} {k : Nat} {v : V} (h : ixN n i = some k) (hn : xs.length = n) (hv : xs[k]? = some v) : atI xs i = some v := by
  unfold atI
  rw [hn, h]
  exact hv
theorem ixN_last {n : Nat} {i : Int} {k m : Nat} (h : ixN n i = some k) (q : k < n → k = m) : k = m := q (by
  unfold ixN at h
  split at h <;> (try split at h) <;> first | (cases h; done) | (cases h; omega) | omega)
end
end LQ
namespace LQ
open PySem PySem.Spec PyProof.Rows L2 LX PySem.W
def strI (i : Int) : Option Str := cond (decide (i.natAbs.log2 < 1920)) (some (toString i)) none
def zStrI : List V → Hp → VK → Prop := fun xs H Q => ∃ i, xs = [.int i] ∧ i.natAbs.log2 < 1920 ∧ Q (.str (toString i)) H
theorem kstrI {X : Cx} : CallR X (.type "str") zStrI := call_str_int
theorem q_strI {i : Int} {r : Str} {H : Hp} {Q : VK} (h : strI i = some r) (q : Q (.str r) H) : zStrI [.int i] H Q := by
  unfold strI at h
  obtain ⟨h1, h2⟩ := grd h
  cases som h2
  exact ⟨i, rfl, of_decide_eq_true h1, q⟩
def upperF (z : Str) : Option Str := cond (decide (z.length ≤ 5592405)) (some (Txt.upper z)) none
def zUpper : V → List V → Hp → VK → Prop := fun x xs H Q => ∃ a, x = .str a ∧ xs = [] ∧ a.length ≤ 5592405 ∧ Q (.str (Txt.upper a)) H
theorem kupper {X : Cx} : MtR X "str.upper" zUpper := mt_upper
theorem q_upper {z r : Str} {H : Hp} {Q : VK} (h : upperF z = some r) (q : Q (.str r) H) : zUpper (.str z) [] H Q := by
  unfold upperF at h
  obtain ⟨h1, h2⟩ := grd h
  cases som h2
  exact ⟨z, rfl, rfl, of_decide_eq_true h1, q⟩
end LQ
namespace LQ
open PySem PySem.Spec PyProof.Rows L2 LX PySem.W
theorem q_listTup {K : PySem.W.Frag} {ms : List Addr} {cs : List (Addr × HO)} {H0 F0 G H : Hp} {a : Addr} {vs : List V} {l : List PyData} {Q : VK} (S : Sep ms H0 G H cs) (ha : H a = some (.tup vs)) (f : FrL F0 G vs l) (hF : ∀ b, H b = none → F0 b = none)
    (q : ∀ p G' H', Sep ms H0 G' H' cs → Same G G' → Fr F0 G' (.ref p) (eL eA l) → Q (.ref p) H') : qList K [.ref a] H Q := by
  refine ⟨a, vs, rfl, Or.inr (SqT.of ha), ?_⟩
  refine q_new S (ds := l.map eA) ?_ hF q
  have e1 : l.map eA = l := List.map_id' l
  rw [e1]
  exact f
end LQ
/-! ### lists of truth values -/
namespace LQ
open PySem PySem.Spec PyProof.Rows L2 LX PySem.W
def eqB1 (k : Bool) (v : Value) : Bool := match v with
  | .bool n => n == k
  | _ => false
theorem bls_vals : ∀ {bs : List Bool} {us : List Value}, Vals (bs.map V.bl) us → us = bs.map Value.bool
  | [], us, h => by cases h; rfl
  | b :: bs, us, h => by
    cases h with
    | cons r t => rw [List.map_cons, ← bls_vals t]; cases (show _ = Value.bool b from r); rfl
def rCntB (K : PySem.W.Frag) : V → List V → Hp → VK → Prop := fun x xs H Q => ∃ (p : Addr) (cs : List Bool) (c : Bool), x = .ref p ∧ xs = [.bl c] ∧ SqL K H p (cs.map V.bl) ∧ Q (.int (cs.count c : Nat)) H
section
variable {X : Cx}
theorem mt_lcountB {K : PySem.W.Frag} (hK : X.K = K := by rfl) : MtR X "list.count" (rCntB K) := by
  subst hK
  intro pins s σ H x xs v us Q I rx rxs h
  obtain ⟨p, cs, c, rfl, rfl, hs, q⟩ := h
  cases rx
  obtain ⟨u, rfl, ru⟩ := rxs.one
  cases (show u = Value.bool c from ru)
  obtain ⟨its, rv, ⟨⟨cls, dd, data, sl⟩, n, ho, hc, hdn, hd⟩, hlen⟩ := I.list hs
  simp only at hc hd
  subst hc hd
  have hi := bls_vals rv
  subst hi
  refine call_meets PySem.F.slot_list_count ⟨_, ho, rfl⟩ PySem.F.entry_list_count (PySem.F.args_list_count_2 _ _)
    (SeqAt.list_countAt p _ n dd sl (.bool c) (eqB1 c)) ⟨ho, fun y hy => ?_, ?_⟩
  · have hy : y ∈ cs.map Value.bool := List.mem_toArray.mp hy
    obtain ⟨b, _, rfl⟩ := List.mem_map.mp hy
    exact SeqAt.EqAt.bool_bool b c
  · have ec : (cs.map Value.bool).toArray.toList.countP (eqB1 c) = cs.count c := by
      show (cs.map Value.bool).countP (eqB1 c) = _
      rw [List.countP_map]
      rfl
    refine ⟨.int (cs.count c : Nat), H, I.tok _, ⟨s.toks, ?_⟩, q⟩
    show Value.int (((cs.map Value.bool).toArray.toList.countP (eqB1 c) : Nat) : Int) s.toks = Value.int ((cs.count c : Nat) : Int) s.toks
    rw [ec]
end
section
variable {K : PySem.W.Frag} {F0 G H : Hp} {a : Addr} {vs : List V} {Q : VK} {l : List Bool} {x : Bool} {i : Int}
theorem q_countB (h1 : H a = some (.lst vs)) (f : FrL F0 G vs (l.map eB)) (q : Q (.int ((l.count x : Nat) : Int)) H) : rCntB K (.ref a) [.bl x] H Q := by
  rw [frl_bls f] at h1
  exact ⟨a, l, x, rfl, rfl, SqL.of h1, q⟩
theorem q_idxB (h1 : H a = some (.lst vs)) (f : FrL F0 G vs (l.map eB)) (h : idxF l x = some i) (q : Q (.int i) H) : rIndex K (.ref a) [.bl x] H Q := by
  rw [frl_bls f] at h1
  obtain ⟨j, rfl, h2, h3⟩ := idx_at h
  refine ⟨a, l.map V.bl, .bl x, j, .bl x, rfl, rfl, SqL.of h1, rfl, ?_, ?_, ?_, fun m z' hm hz => ?_, q⟩
  · rw [List.all_eq_true]
    intro _ hz
    obtain ⟨u, _, rfl⟩ := List.mem_map.mp hz
    rfl
  · rw [List.getElem?_map, h2]
    rfl
  · show (x == x) = true
    exact beq_self_eq_true x
  · rw [List.getElem?_map] at hz
    obtain ⟨u, hu, rfl⟩ := Option.map_eq_some_iff.mp hz
    show (u == x) = false
    exact beq_eq_false_iff_ne.mpr (h3 m hm u hu)
end
end LQ
namespace LQ
open PySem PySem.Spec PyProof.Rows L2 LX PySem.W
def insertF {α : Type} (l : List α) (i : Int) (x : α) : Option (List α) := cond (decide (l.length < LIM) && decide (0 ≤ i) && decide (i < 2 ^ 63)) (some (l.take i.toNat ++ [x] ++ l.drop i.toNat)) none
def zIns : V → List V → Hp → VK → Prop := fun x vs H Q => ∃ (l : Addr) (xs : List V) (i : Int) (y : V), x = .ref l ∧ vs = [.int i, y] ∧ H l = some (.lst xs) ∧ xs.length < sizeLine ∧ 0 ≤ i ∧ i < 2 ^ 63 ∧
    Q .non (upd H l (.lst (xs.take i.toNat ++ [y] ++ xs.drop i.toNat)))
theorem kinsert {X : Cx} : MtR X "list.insert" zIns := mt_insert
theorem q_insert {α : Type} {e : α → PyData} {l r : List α} {j : Int} {x : α} {ms : List Addr} {cs : List (Addr × HO)} {H0 F0 G H : Hp} {a : Addr} {vs : List V} {y : V} {Q : VK} (S : Sep ms H0 G H cs) (i : Nat) (hi : cs[i]? = some (a, .lst vs)) (f : FrL F0 G vs (l.map e)) (fy : Fr F0 G y (e x)) (h : insertF l j x = some r)
    (q : ∀ us H', Sep ms H0 G H' (cs.set i (a, .lst us)) → FrL F0 G us (r.map e) → Q .non H') : zIns (.ref a) [.int j, y] H Q := by
  unfold insertF at h
  obtain ⟨h1, h2⟩ := grd h
  rw [Bool.and_eq_true, Bool.and_eq_true, decide_eq_true_iff, decide_eq_true_iff, decide_eq_true_iff] at h1
  refine ⟨a, vs, j, y, rfl, rfl, S.get i hi, lim_lt (by rw [f.len, List.length_map]; exact h1.1.1), h1.1.2, h1.2, q _ _ (S.put i hi lst_tup) ?_⟩
  rw [← som h2, List.map_append, List.map_append, List.map_take, List.map_drop]
  exact ((f.take _).app (.cons fy .nil)).app (f.drop _)
end LQ

/-! repr of data, dicts among them: every dict is known to be none of the machine's own. -/
namespace LQ
open PySem PySem.Spec PyProof.Rows L2 LX PySem.W
section
variable {P : Program} {w : World} {F0 H : Hp} {h : Heap}
theorem keys_read {es : List DictEntry} {vs : List (Key × Value)} (p : Pairs (mixKind P w) es vs) : ReadsAll h (es.map (·.key)) (vs.map fun q => dKey q.1) [] := by
  induction p with
  | nil => exact .nil
  | cons k _ _ ih =>
    rcases keyIs_shape (show keyIs _ _ = true from k) with ⟨i, t, e1, e2⟩ | ⟨x, t, e1, e2⟩
    · rw [List.map_cons, List.map_cons, e1, e2]
      exact .cons (.int i t) ih
    · rw [List.map_cons, List.map_cons, e1, e2]
      exact .cons (.str x t) ih
theorem vals_pairs {es : List DictEntry} {vs : List (Key × Value)} (p : Pairs (mixKind P w) es vs) : es.map (·.val) = vs.map (·.2) := by
  induction p with
  | nil => rfl
  | cons _ e _ ih => rw [List.map_cons, List.map_cons, e, ih]
theorem kv_vals {kvs : List (Key × V)} {vs : List (Key × Value)} (p : KV kvs vs) : Vals (kvs.map (·.2)) (vs.map (·.2)) ∧ kvs.map (·.1) = vs.map (·.1) := by
  induction p with
  | nil => exact ⟨.nil, rfl⟩
  | cons r _ ih => exact ⟨.cons r.2 ih.1, by rw [List.map_cons, List.map_cons, r.1, ih.2]⟩
theorem frk_vals {kvs : List (Key × V)} {ds : List (PyData × PyData)} (f : FrK F0 H kvs ds) : FrL F0 H (kvs.map (·.2)) (ds.map (·.2)) ∧ ds.map (·.1) = kvs.map fun q => dKey q.1 := by
  have key : ∀ (kvs : List (Key × V)) (ds : List (PyData × PyData)), FrK F0 H kvs ds → FrL F0 H (kvs.map (·.2)) (ds.map (·.2)) ∧ ds.map (·.1) = kvs.map fun q => dKey q.1 := by
    intro kvs
    induction kvs with
    | nil =>
      intro ds f
      cases f
      exact ⟨.nil, rfl⟩
    | cons q kvs ih =>
      intro ds f
      cases f with
      | cons f1 fs =>
        obtain ⟨a, b⟩ := ih _ fs
        exact ⟨.cons f1 a, by rw [List.map_cons, List.map_cons, b]⟩
  exact key kvs ds f
/-- what an object of a dict is -/
theorem rd_dict (I : HOk P w H h) {a : Addr} {kvs : List (Key × V)} (r : Rd H a (.dK kvs)) : (a == sysModules) = false ∧ ∃ vs o es ep, KV kvs vs ∧ h.get? a = some o ∧ o.cls = .type "dict" ∧ o.data = .dict es ep ∧ Pairs (mixKind P w) es.toList vs := by
  rcases r with e | ⟨ob, e⟩
  · obtain ⟨_, hs, vs, kv, o, es, ep, h1, h2, h3, _, h4, _⟩ := (show ObjOk P w H h a (.dK kvs) from I a _ e)
    exact ⟨hs, vs, o, es, ep, kv, h1, h2.1, h3, h4⟩
  · obtain ⟨_, _, hs, vs, kv, o, es, ep, h1, h2, h3, _, h4, _⟩ := (show ObjOk P w H h a (.frz ob (.dK kvs)) from I a _ e)
    exact ⟨hs, vs, o, es, ep, kv, h1, h2.1, h3, h4⟩
def shOk (d : PyData) : Prop := d.showable = true ∧ d.shown.length ≤ sizeLine
/-- what repr wants of a value, by what it holds -/
def RepA (P : Program) (w : World) (h : Heap) (u : Value) (d : PyData) : Prop := (∃ as, Reads h u d as) ∧ (shOk d → ∃ bs, ReadAtMost h d.depth bs ∧ ReprK P w bs h d.depth u d.shown)
def RepL (P : Program) (w : World) (h : Heap) (us : List Value) (ds : List PyData) : Prop := (∃ as, ReadsAll h us ds as) ∧ (PyData.showableAll ds = true → (∀ t ∈ PyData.shownAll ds, t.length ≤ sizeLine) → ∃ bs, ReadAtMost h (PyData.depthAll ds) bs ∧ ReprAllK P w bs h (PyData.depthAll ds) us (PyData.shownAll ds))
theorem repL_keys {ds : List PyData} {us : List Value} (r : ReadsAll h us ds []) (nd : PyData.hasDictAll ds = false) : RepL P w h us ds := ⟨⟨_, r⟩, fun a b => ReprAllK.of_readsAll r a (fun z => by rw [nd] at z; cases z) b⟩
theorem keys_flat (l : List Key) : PyData.hasDictAll (l.map dKey) = false := by
  induction l with
  | nil => rfl
  | cons k l ih =>
    rw [List.map_cons]
    simp only [PyData.hasDictAll, ih, Bool.or_false]
    cases k <;> rfl
theorem repA_lst {a : Addr} {o : Obj} {us : List Value} {n : Nat} {ds : List PyData} (h1 : h.get? a = some o) (h2 : o.cls = .type "list") (h3 : o.data = .seq us.toArray n) (r : RepL P w h us ds) : RepA P w h (.ref a) (.list ds) := by
  obtain ⟨⟨as, ra⟩, rr⟩ := r
  have rd : Reads h (.ref a) (.list ds) _ := .list h1 h2 h3 ra
  refine ⟨⟨_, rd⟩, fun hs => ?_⟩
  have sz : (listText (PyData.shownAll ds)).length ≤ sizeLine := by simpa only [PyData.shown] using hs.2
  obtain ⟨bs, hb, hk⟩ := rr (by simpa [PyData.showable] using hs.1) fun t ht => Nat.le_trans (listText_mem_le ht) sz
  refine ⟨a :: bs, ReadAtMost.cons rd (by simp only [PyData.depth]; omega) hb, ?_⟩
  simp only [PyData.depth, PyData.shown]
  cases us with
  | nil =>
    cases ra
    simp only [PyData.shownAll, listText_nil]
    exact ReprK.listEmpty h1 h2 h3
  | cons x l => exact ReprK.list h1 h2 h3 (not_mem_of_deeper rd (by simp only [PyData.depth]; omega) hb) (by simpa using hk.length_eq) fun i y e => hk.item i y (by simpa using e)
theorem repA_tup {a : Addr} {o : Obj} {us : List Value} {n : Nat} {ds : List PyData} (h1 : h.get? a = some o) (h2 : o.cls = .type "tuple") (h3 : o.data = .seq us.toArray n) (r : RepL P w h us ds) : RepA P w h (.ref a) (.tuple ds) := by
  obtain ⟨⟨as, ra⟩, rr⟩ := r
  have rd : Reads h (.ref a) (.tuple ds) _ := .tuple h1 h2 h3 ra
  refine ⟨⟨_, rd⟩, fun hs => ?_⟩
  have sz : (tupleText (PyData.shownAll ds)).length ≤ sizeLine := by simpa only [PyData.shown] using hs.2
  obtain ⟨bs, hb, hk⟩ := rr (by simpa [PyData.showable] using hs.1) fun t ht => Nat.le_trans (tupleText_mem_le ht) sz
  refine ⟨a :: bs, ReadAtMost.cons rd (by simp only [PyData.depth]; omega) hb, ?_⟩
  simp only [PyData.depth, PyData.shown]
  exact ReprK.tuple h1 h2 h3 (not_mem_of_deeper rd (by simp only [PyData.depth]; omega) hb) hk
theorem repA_dic {a : Addr} {o : Obj} {es : Array DictEntry} {n : Nat} {kvs : List (PyData × PyData)} (h1 : h.get? a = some o) (h2 : o.cls = .type "dict") (h3 : o.data = .dict es n) (hsys : (a == sysModules) = false)
    (r1 : RepL P w h (es.toList.map (·.key)) (kvs.map (·.1))) (r2 : RepL P w h (es.toList.map (·.val)) (kvs.map (·.2))) : RepA P w h (.ref a) (.dict kvs) := by
  obtain ⟨⟨as, ra⟩, rr⟩ := r1
  obtain ⟨⟨bs, rb⟩, rs⟩ := r2
  have rd : Reads h (.ref a) (.dict kvs) _ := .dict h1 h2 h3 ra rb
  refine ⟨⟨_, rd⟩, fun hs => ?_⟩
  have sz : (dictText (PyData.shownKv kvs)).length ≤ sizeLine := by simpa only [PyData.shown] using hs.2
  obtain ⟨q1, q2⟩ := PyData.showableKv_split kvs (by simpa [PyData.showable] using hs.1)
  obtain ⟨b1, hb1, k1⟩ := rr q1 fun t ht => let ⟨p, hp, hl⟩ := PyData.shownKv_key_le kvs t ht; Nat.le_trans hl (Nat.le_trans (dictText_mem_le hp) sz)
  obtain ⟨b2, hb2, k2⟩ := rs q2 fun t ht => let ⟨p, hp, hl⟩ := PyData.shownKv_val_le kvs t ht; Nat.le_trans hl (Nat.le_trans (dictText_mem_le hp) sz)
  have hb : ReadAtMost h (PyData.depthKv kvs) (b1 ++ b2) := (hb1.mono (PyData.depthAll_keys_le kvs)).append (hb2.mono (PyData.depthAll_vals_le kvs))
  refine ⟨a :: (b1 ++ b2), ReadAtMost.cons rd (by simp only [PyData.depth]; omega) hb, ?_⟩
  simp only [PyData.depth, PyData.shown, PyData.shownKv_eq]
  refine ReprK.dict h1 h2 h3 hsys (not_mem_of_deeper rd (by simp only [PyData.depth]; omega) hb) (ReprEntriesK.of_two es.toList _ _ (k1.more_le (fun b z => List.mem_append_left _ z) (PyData.depthAll_keys_le kvs)) (k2.more_le (fun b z => List.mem_append_right _ z) (PyData.depthAll_vals_le kvs)))
theorem repL_cons {u : Value} {us : List Value} {d : PyData} {ds : List PyData} (r : RepA P w h u d) (rs : RepL P w h us ds) : RepL P w h (u :: us) (d :: ds) := by
  obtain ⟨⟨as, ra⟩, r⟩ := r
  obtain ⟨⟨bs, rb⟩, rs⟩ := rs
  refine ⟨⟨_, .cons ra rb⟩, fun hs hz => ?_⟩
  have hs2 : d.showable = true ∧ PyData.showableAll ds = true := by simpa [PyData.showableAll] using hs
  obtain ⟨b1, hb1, k1⟩ := r ⟨hs2.1, hz _ (by simp only [PyData.shownAll]; exact List.mem_cons_self ..)⟩
  obtain ⟨b2, hb2, k2⟩ := rs hs2.2 fun t ht => hz t (by simp only [PyData.shownAll]; exact List.mem_cons_of_mem _ ht)
  refine ⟨b1 ++ b2, ?_, ?_⟩
  · simp only [PyData.depthAll]
    exact (hb1.mono (Nat.le_max_left _ _)).append (hb2.mono (Nat.le_max_right _ _))
  · simp only [PyData.depthAll, PyData.shownAll]
    exact .cons ((k1.more fun b z => List.mem_append_left _ z).level_le (Nat.le_max_left _ _)) (k2.more_le (fun b z => List.mem_append_right _ z) (Nat.le_max_right _ _))
theorem repL_nil : RepL P w h [] [] := ⟨⟨_, .nil⟩, fun _ _ => ⟨[], (fun _ z => nomatch z), by simp only [PyData.shownAll]; exact .nil⟩⟩
theorem repA_at {u : Value} {d : PyData} (r : Reads h u d []) (nd : d.hasDict = false) : RepA P w h u d := ⟨⟨_, r⟩, fun hs => ReprK.of_reads r hs.1 (fun z => by rw [nd] at z; cases z) hs.2⟩
mutual
theorem fr_repA (I : HOk P w H h) : ∀ (d : PyData) (v : V) (u : Value), Fr F0 H v d → RelV v u → RepA P w h u d
  | .none, _, _, f, r => by
    cases f
    cases (show _ = Value.none from r)
    exact repA_at .none rfl
  | .bool b, _, _, f, r => by
    cases f
    cases (show _ = Value.bool b from r)
    exact repA_at (.bool b) rfl
  | .int i, _, _, f, r => by
    cases f
    obtain ⟨t, rfl⟩ := (show ∃ t, _ = Value.int i t from r)
    exact repA_at (.int i t) rfl
  | .str x, _, _, f, r => by
    cases f
    obtain ⟨t, rfl⟩ := (show ∃ t, _ = Value.str x t from r)
    exact repA_at (.str x t) rfl
  | .list ds, _, _, f, r => by
    cases f with
    | @lst a xs _ e _ fs =>
      cases (show _ = Value.ref a from r)
      obtain ⟨_, its, n, rv, g⟩ := (show ObjOk P w H h a (.lst xs) from I a _ e)
      exact repA_lst g rfl rfl (frl_repA I ds xs its fs rv)
  | .tuple ds, _, _, f, r => by
    cases f with
    | @tup a xs _ e fs =>
      cases (show _ = Value.ref a from r)
      obtain ⟨_, its, rv, o, g, c, n, dt⟩ := (show ObjOk P w H h a (.tup xs) from I a _ e)
      exact repA_tup g c dt (frl_repA I ds xs its fs rv)
  | .dict ds, _, _, f, r => by
    cases f with
    | @dic a kvs _ e _ fs =>
      cases (show _ = Value.ref a from r)
      obtain ⟨hs, vs, o, es, ep, kv, g, c, dt, p⟩ := rd_dict I e
      obtain ⟨f2, ek⟩ := frk_vals fs
      obtain ⟨rv, ev⟩ := kv_vals kv
      refine repA_dic g c dt hs ?_ ?_
      · rw [ek]
        have e1 : (kvs.map fun q => dKey q.1) = vs.map fun q => dKey q.1 := by
          have := congrArg (List.map dKey) ev
          rw [List.map_map, List.map_map] at this
          exact this
        rw [e1]
        have e2 : (vs.map fun q => dKey q.1) = (vs.map (·.1)).map dKey := by rw [List.map_map]; rfl
        exact repL_keys (keys_read p) (by rw [e2]; exact keys_flat _)
      · rw [vals_pairs p]
        exact frk_repA I ds _ _ f2 rv
theorem frl_repA (I : HOk P w H h) : ∀ (ds : List PyData) (vs : List V) (us : List Value), FrL F0 H vs ds → Vals vs us → RepL P w h us ds
  | [], _, _, f, r => by
    cases f
    cases r
    exact repL_nil
  | d :: ds, _, _, f, r => by
    cases f with
    | cons f1 fs => cases r with
      | cons r1 rs => exact repL_cons (fr_repA I d _ _ f1 r1) (frl_repA I ds _ _ fs rs)
theorem frk_repA (I : HOk P w H h) : ∀ (ds : List (PyData × PyData)) (vs : List V) (us : List Value), FrL F0 H vs (ds.map (·.2)) → Vals vs us → RepL P w h us (ds.map (·.2))
  | [], _, _, f, r => by
    cases f
    cases r
    exact repL_nil
  | (k, d) :: ds, _, _, f, r => by
    cases f with
    | cons f1 fs => cases r with
      | cons r1 rs => exact repL_cons (fr_repA I d _ _ f1 r1) (frk_repA I ds _ _ fs rs)
end
end
section
variable {X : Cx}
/-- repr of a list that holds something, dicts allowed -/
def qReprD : List V → Hp → VK → Prop := fun vs H Q => ∃ (v : V) (d : PyData) (ds : List PyData) (F0 : Hp), vs = [v] ∧ Fr F0 H v (.list (d :: ds)) ∧ PyData.showable (.list (d :: ds)) = true ∧ PyData.depth (.list (d :: ds)) ≤ 20 ∧ (PyData.shown (.list (d :: ds))).length ≤ sizeLine ∧ Q (.str (PyData.shown (.list (d :: ds)))) H
theorem kreprD (quiet : X.A.guards = some []) (hu : X.A.units + 64 < cLine) : CallR X (.builtin "repr") qReprD := by
  intro pins s σ H vs us Q I r want
  obtain ⟨v, d, ds, F0, rfl, f, sh, dd, sz, q⟩ := want
  obtain ⟨u, rfl, ru⟩ : ∃ u, us = [u] ∧ RelV v u := by
    cases r with
    | cons r1 r2 =>
      cases r2
      exact ⟨_, rfl, r1⟩
  cases f with
  | @lst a xs _ e _ fs =>
    cases (show u = Value.ref a from ru)
    obtain ⟨_, its, n, rv, g⟩ := (show ObjOk X.prog X.w H s.heap a (.lst xs) from I.hok a _ e)
    obtain ⟨⟨as, ra⟩, rr⟩ := frl_repA I.hok _ xs its fs rv
    have rd : Reads s.heap (.ref a) (.list (d :: ds)) _ := .list g rfl rfl ra
    have sz2 : (listText (PyData.shownAll (d :: ds))).length ≤ sizeLine := by simpa only [PyData.shown] using sz
    obtain ⟨bs, hb, hk⟩ := rr (by simpa [PyData.showable] using sh) fun t ht => Nat.le_trans (listText_mem_le ht) sz2
    have dp : PyData.depthAll (d :: ds) + 1 ≤ 20 := by simpa only [PyData.depth, Nat.add_comm] using dd
    have fin : ∀ h' (y : Tok) tk, (∀ b o, s.heap.get? b = some o → h'.get? b = some o) → EP X pins σ Q (.str (listText (PyData.shownAll (d :: ds))) y) { s with heap := h', toks := tk } := fun h' y tk keep =>
      ⟨.str _, H, I.kept keep, ⟨y, rfl⟩, by simpa only [PyData.shown] using q⟩
    cases its with
    | nil => cases ra
    | cons x l =>
      refine call_repr_slot (by omega) ⟨_, g, rfl⟩ PySem.F.slot_list_repr.toG ?_
      exact call_list_reprK g rfl rfl (not_mem_of_deeper rd (by simp only [PyData.depth]; omega) hb) (by simpa using hk.length_eq) (fun i y e => hk.item i y (by simpa using e)) quiet (fun b _ => Clear.nil b) (by show X.A.units + 1 + _ < cLine; omega) (fun _ _ e => e) (fun h' y tk keep => ⟨_, _, rfl, fin h' y tk keep⟩) sz2
end
def reprFD (d : PyData) : Option Str := match d with
  | .list (x :: l) => cond (PyData.showable (.list (x :: l)) && decide (PyData.depth (.list (x :: l)) ≤ 20) && decide ((PyData.shown (.list (x :: l))).length ≤ sizeLine)) (some (PyData.shown (.list (x :: l)))) none
  | _ => none
theorem q_reprD {F0 H : Hp} {v : V} {d : PyData} {r : Str} {Q : VK} (f : Fr F0 H v d) (h : reprFD d = some r) (q : Q (.str r) H) : qReprD [v] H Q := by
  unfold reprFD at h
  split at h
  · obtain ⟨h1, h2⟩ := grd h
    rw [Bool.and_eq_true, Bool.and_eq_true, decide_eq_true_iff, decide_eq_true_iff] at h1
    cases som h2
    exact ⟨v, _, _, F0, rfl, f, h1.1.1, h1.1.2, h1.2, q⟩
  · cases h
end LQ

/-! Walks over tuples. -/
namespace LQ
open PySem PySem.Spec PyProof.Rows L2 LX PySem.W
theorem kpi_tup {X : Cx} {K : PySem.W.Frag} {tg e : Expr} {te : TE} (he : PE X e te) (h : X.K = K := by rfl) : PI X tg e (iTup K te) := h ▸ pi_tup he
theorem rd_iTup {K : PySem.W.Frag} {tl : TE} {σ : L2.St} {H : Hp} {R : It → Hp → Prop} (q : tl σ H fun x H1 => ∃ a, x = .ref a ∧ (∃ xs, SqT K H1 a xs) ∧ R (Itt K a) H1) : iTup K tl σ H R := q
end LQ
namespace LQ
open PySem PySem.Spec PyProof.Rows L2 LX PySem.W
def ipW : TIp := fun x y H Q => ∃ i j, x = .int i ∧ y = .int j ∧ CMulW i j ∧ Q (.int (i * j)) H
theorem ip_mulW {X : Cx} : PIp X .Mult ipW := by
  intro pins s σ H x y v u Q I r1 r2 h
  obtain ⟨i, j, e1, e2, c, q⟩ := h
  subst e1; subst e2
  obtain ⟨t, rfl⟩ := r1
  obtain ⟨t', rfl⟩ := r2
  exact PySem.P.imul_int ⟨.int _, H, I.tok _, ⟨_, rfl⟩, q⟩ c.ok
theorem q_ipMul {i j k : Int} {H : Hp} {Q : VK} (h : mulF i j = some k) (q : Q (.int k) H) : ipW (.int i) (.int j) H Q := by
  unfold mulF at h
  obtain ⟨h1, h2⟩ := grd h
  rw [Bool.and_eq_true, decide_eq_true_iff, decide_eq_true_iff] at h1
  cases som h2
  exact ⟨i, j, rfl, rfl, wide_mul h1.1 h1.2 (by decide) (by decide) (by decide), q⟩
end LQ
namespace LQ
theorem outok {α β : Type} {y : α} {f : Er → Option β} {g : α → Option β} {r : Option β} (h : outK (.ok y) f g = r) : g y = r := h
end LQ
namespace LQ
open PySem PySem.Spec PyProof.Rows L2 LX PySem.W
theorem w_tu {K : PySem.W.Frag} {a : Addr} {α : Type} {e : α → PyData} {l : List α} {F0 G : Hp} {vs : List V} (f : FrL F0 G vs (l.map e)) : Walk (Itt K a) l.length (fun H => H a = some (.tup vs)) (fun i H v H' => H' = H ∧ ∀ x, l[i]? = some x → Fr F0 G v (e x)) :=
  (w_tup f).mono (fun _ h => h) fun i H x H' _ _ y => ⟨y.1, fun z hz => frl_at f hz y.2⟩
end LQ
namespace LQ
open PySem PySem.Spec PyProof.Rows L2 LX PySem.W
theorem Sep.fixLE {ms : List Addr} {H0 G H : Hp} {cs : List (Addr × HO)} {p : Addr} {vs : List V} {ds : List PyData} (S : Sep ms H0 G H cs) (i : Nat) (h : cs[i]? = some (p, .lst vs)) (hm : p ∉ ms) (f : FrL E0h G vs ds) : ∃ G', Sep ms H0 G' H (cs.eraseIdx i) ∧ Same G G' ∧ Fr E0h G' (.ref p) (.list ds) :=
  ⟨_, S.fix i h hm, sNew (S.gnone i h), .lst upd_same rfl (f.same (sNew (S.gnone i h)))⟩
end LQ

/-! ### dict(zip(a text, a list)) -/
namespace LX
open PySem PySem.Spec PyProof.Rows L2
section
variable {prog : Program} {w : World} {z TI TO i1 i2 : Addr} {fp1 fp2 : List Addr} {n : Nat} {P1 P2 : Nat → Value → Prop} {St1 St2 : Nat → Heap → Prop}
def zOK (z TI TO i1 i2 : Addr) (fp1 fp2 : List Addr) (St1 St2 : Nat → Heap → Prop) (h : Heap) : Prop :=
  IsZip h z TI TO .none ∧ IsPair h TI (.ref i1) (.ref i2) ∧ (∃ a b, IsPair h TO a b) ∧ St1 0 h ∧ St2 0 h ∧ (∀ b ∈ fp1, ∃ o, h.get? b = some o) ∧ ∀ b ∈ fp2, ∃ o, h.get? b = some o
theorem pairArgG (D : ZipSep2 z TI TO i1 i2 fp1 fp2) (D1 : ∀ A : Around, A.handled = none → Draws prog w A i1 fp1 n P1 St1) (D2 : ∀ A : Around, A.handled = none → Draws prog w A i2 fp2 n P2 St2)
    (F1 : ∀ i h h', St1 i h → (∀ b ∈ fp1, ∀ o, h.get? b = some o → h'.get? b = some o) → St1 i h') (F2 : ∀ i h h', St2 i h → (∀ b ∈ fp2, ∀ o, h.get? b = some o → h'.get? b = some o) → St2 i h') :
    PairArg prog w "zip" z ([z, TI, TO] ++ (fp1 ++ fp2)) [z, TO, i1, i2] n (fun i k v => P1 i k ∧ P2 i v) (zOK z TI TO i1 i2 fp1 fp2 St1 St2) where
  type := fun s ok => ⟨_, ok.1, rfl⟩
  notDict := by decide
  keep := fun h h' ok hk => by
    obtain ⟨a1, a2, ⟨x, y, a3⟩, a4, a5, a6, a7⟩ := ok
    exact ⟨hk _ _ a1, hk _ _ a2, ⟨x, y, hk _ _ a3⟩, F1 _ _ _ a4 fun b _ o e => hk b o e, F2 _ _ _ a5 fun b _ o e => hk b o e, fun b hb => let ⟨o, e⟩ := a6 b hb; ⟨o, hk b o e⟩, fun b hb => let ⟨o, e⟩ := a7 b hb; ⟨o, hk b o e⟩⟩
  there := fun h ok b hb => by
    obtain ⟨a1, a2, ⟨x, y, a3⟩, a4, a5, a6, a7⟩ := ok
    rcases List.mem_append.mp hb with hb | hb
    · simp only [List.mem_cons, List.not_mem_nil, or_false] at hb
      rcases hb with rfl | rfl | rfl
      · exact ⟨_, a1⟩
      · exact ⟨_, a2⟩
      · exact ⟨_, a3⟩
    · exact (List.mem_append.mp hb).elim (a6 b) (a7 b)
  sub := fun b hb => by
    simp only [List.mem_cons, List.not_mem_nil, or_false] at hb
    rcases hb with rfl | rfl | rfl | rfl
    · exact List.mem_append_left _ (by simp)
    · exact List.mem_append_left _ (by simp)
    · exact List.mem_append_right _ (List.mem_append_left _ D.mem1)
    · exact List.mem_append_right _ (List.mem_append_right _ D.mem2)
  noKeys := fun A s Q E hA ok h => getAttrOr_miss_zip ok.1 rfl rfl rfl zip_no_keys (by decide +kernel) hA h
  iter := fun A s d Q E hA ok hd hdf h => by
    obtain ⟨hz, hTI, ⟨a, b, hTO⟩, h1, h2, _, _⟩ := ok
    have df : ∀ {c : Addr}, c ∈ [z, TI, TO] ++ (fp1 ++ fp2) → c ≠ d := fun hc e => hdf (e ▸ hc)
    have dz : z ≠ d := df (by simp)
    have dTI : TI ≠ d := df (by simp)
    have dTO : TO ≠ d := df (by simp)
    have d1 : ∀ c ∈ fp1, c ≠ d := fun c hc => df (List.mem_append_right _ (List.mem_append_left _ hc))
    have d2 : ∀ c ∈ fp2, c ≠ d := fun c hc => df (List.mem_append_right _ (List.mem_append_right _ hc))
    have E1 := D1 A.in1 (by simp [hA])
    have E2 := D2 A.in1 (by simp [hA])
    refine wpAny_pyIter_zip hz (h z [z, TO, i1, i2] (fun i h => IsPair h TI (.ref i1) (.ref i2) ∧ St1 i h ∧ St2 i h ∧
      ((IsZip h z TI TO .none ∧ ∃ a b, IsPair h TO a b) ∨ ∃ T f oT, IsZipHeld h z TI TO T f ∧ h.get? T = some oT ∧ T ≠ z ∧ T ≠ i1 ∧ T ≠ i2 ∧ T ≠ d)) s.heap s.toks ?_
      ⟨hTI, h1, h2, .inl ⟨hz, a, b, hTO⟩⟩ (fun _ _ e => e) fun b hb => .inl hb)
    exact {
      off := fun hm => by
        simp only [List.mem_cons, List.not_mem_nil, or_false] at hm
        rcases hm with e | e | e | e
        · exact dz e.symm
        · exact dTO e.symm
        · exact d1 _ D.mem1 e.symm
        · exact d2 _ D.mem2 e.symm
      frame := fun i h₁ h₂ st hk => by
        obtain ⟨hTI, h1, h2, hz⟩ := st
        refine ⟨hk _ _ dTI hTI, F1 _ _ _ h1 fun b hb o e => hk b o (d1 b hb) e, F2 _ _ _ h2 fun b hb o e => hk b o (d2 b hb) e, ?_⟩
        rcases hz with ⟨hz, a, b, hTO⟩ | ⟨T, f, oT, hz, hT, r1, r2, r3, r4⟩
        · exact .inl ⟨hk _ _ dz hz, a, b, hk _ _ dTO hTO⟩
        · exact .inr ⟨T, f, oT, hk _ _ dz hz, hk _ _ r4 hT, r1, r2, r3, r4⟩
      item := fun i s₁ Q₁ E₁ hi st hds hQ => by
        obtain ⟨hTI, h1, h2, hz⟩ := st
        have lt : ∀ {c : Addr} {o : Obj}, s₁.heap.get? c = some o → s₁.heap.objs.size ≠ c := fun e => Nat.ne_of_gt (Heap.lt_size e)
        have n1 : s₁.heap.objs.size ≠ i1 := let ⟨_, e⟩ := E1.live _ _ h1; lt e
        have n2 : s₁.heap.objs.size ≠ i2 := let ⟨_, e⟩ := E2.live _ _ h2; lt e
        rcases hz with ⟨hz, a, b, hTO⟩ | ⟨T, f, oT, hz, hT, r1, r2, r3, r4⟩
        · refine PySem.wpAny_pyNext_zipD2_item D E1 E2 hz hTI hTO h1 h2 hi hi fun x y h' tk px py b1 b2 b3 b4 b5 b6 k => ?_
          exact hQ s₁.heap.objs.size x y h' tk ⟨px, py⟩ (.inl ⟨_, b5, rfl, _, rfl⟩)
            ⟨k _ _ D.TIz D.TITO D.TIi1 D.TIi2 hTI, b3, b4, .inr ⟨s₁.heap.objs.size, false, _, b1, b5, lt hz, n1, n2, Nat.ne_of_gt hds⟩⟩
            fun c o hc e => k c o (fun x => hc (by simp [x])) (fun x => hc (by simp [x])) (fun x => hc (by simp [x])) (fun x => hc (by simp [x])) e
        · refine nextHeldItem D E1 E2 hz hT hTI h1 h2 hi hi fun x y h' tk px py b1 b3 b4 b5 b6 k => ?_
          exact hQ s₁.heap.objs.size x y h' tk ⟨px, py⟩ (.inl ⟨_, b5, rfl, _, rfl⟩)
            ⟨k _ _ D.TIz D.TIi1 D.TIi2 hTI, b3, b4, .inr ⟨T, true, oT, b1, k _ _ r1 r2 r3 hT, r1, r2, r3, r4⟩⟩
            fun c o hc e => k c o (fun x => hc (by simp [x])) (fun x => hc (by simp [x])) (fun x => hc (by simp [x])) e
      done := fun s₁ Q₁ E₁ st hQ => by
        obtain ⟨hTI, h1, h2, hz⟩ := st
        rcases hz with ⟨hz, a, b, hTO⟩ | ⟨T, f, oT, hz, hT, r1, r2, r3, r4⟩
        · exact PySem.wpAny_pyNext_zipD2_end D E1 E2 hz hTI hTO h1 h2 (Nat.le_refl _) (Nat.le_refl _) (Or.inl rfl) fun h' tk k => hQ h' tk fun c o hc e => k c o (fun x => hc (by simp [x])) (fun x => hc (by simp [x])) (fun x => hc (by simp [x])) (fun x => hc (by simp [x])) e
        · exact nextHeldEnd D E1 hz hT hTI h1 fun h' k => hQ h' s₁.toks fun c o hc e => k c o (fun x => hc (by simp [x])) (fun x => hc (by simp [x])) e }
end
end LX
namespace LX
open PySem PySem.Spec PyProof.Rows L2
def tKeys (x : Str) : List L2.Key := x.cps.toList.map fun c => LQ.kS ⟨#[c]⟩
section
variable {X : Cx} {K : PySem.W.Frag}
def zDZ (K : PySem.W.Frag) (vs : List V) (H1 : Hp) (Q : VK) : Prop := ∃ (x : Str) (b : Addr) (ys : List V), vs = [.str x, .ref b] ∧ x.cps.size ≤ 4000 ∧ SqL K H1 b ys ∧ ys.length = x.cps.size ∧ ∀ p, H1 p = none → Q (.ref p) (upd H1 p (.dK (mergeK [] ((tKeys x).zip ys))))
def tDictZipT (K : PySem.W.Frag) (ta : TA) : TE := fun σ H Q => ta σ H fun vs H1 => zDZ K vs H1 Q
theorem rd_dzT {ta : TA} {σ : L2.St} {H : Hp} {Q : VK} (q : ta σ H fun vs H1 => zDZ K vs H1 Q) : tDictZipT K ta σ H Q := q
theorem kv_zip : ∀ {ks : List L2.Key} {ys : List V} {us : List Value}, Vals ys us → KV (ks.zip ys) (ks.zip us)
  | [], _, _, _ => .nil
  | _ :: _, _, _, .nil => .nil
  | _ :: _, _, _, .cons r rs => .cons ⟨rfl, r⟩ (kv_zip rs)
theorem pe_dictZipT {e e2 : Expr} {ta : TA} {p p2 pos q : Pos} (hc : X.calm = true) (hg : Gl X "dict") (hm : X.mg "dict" = none) (hg2 : Gl X "zip") (hm2 : X.mg "zip" = none) (ha : PA X [e, e2] ta)
    (hs : starEach [e, e2] X.env = (false, eval e X.env) :: starEach [e2] X.env := by rfl) (hpl : (backTo q (starEach [e2] X.env)).any (·.1) = false := by rfl) (h : X.K = K := by rfl) :
    PE X (.Call (.Name "dict" p) [.Call (.Name "zip" p2) [e, e2] [] q] [] pos) (tDictZipT K ta) := by
  subst h
  refine ⟨fun pins s σ H Q I want => ?_⟩
  refine Call_ (ld_blt (u := .type "dict") I hg hm (by decide +kernel) (PyProof.Rows.callWith_type1 (PyProof.Rows.args_cons ?_ rfl) rfl rfl))
  refine Call_ (ld_blt I hg2 hm2 PyProof.Rows.boot_zip (PyProof.Rows.callWith_type1 (thn (ha.run q pins s σ H _ I want) fun us s1 ⟨vs, H1, I1, r1, q1⟩ => ?_) hs hpl))
  obtain ⟨x, b, ys, ex, few, hy, len, qq⟩ := q1
  subst ex
  obtain ⟨u1, u2, rfl, ra, rb⟩ : ∃ u1 u2, us = [u1, u2] ∧ RelV (.str x) u1 ∧ RelV (.ref b) u2 := by
    cases r1 with
    | cons r rr =>
      cases rr with
      | cons r' rr =>
        cases rr
        exact ⟨_, _, rfl, r, r'⟩
  obtain ⟨t, rfl⟩ := ra
  cases rb
  obtain ⟨its2, rv2, p2', z2⟩ := I1.list hy
  have l2 := rv2.length
  have lb : b < s1.heap.objs.size := p2'.lt
  have lim : x.cps.size ≤ sizeLine := by rw [sizeLine_eq]; omega
  refine zip_begins2 (begins_text x t) (begins_list b its2.toArray) trivial p2'.isList fun h' hz hTI hTO w1 w2 hsz hk => ?_
  refine PyProof.Rows.args_nil ?_
  have hd := I1.ok.hd hc
  have D := sep_new s1.heap.objs.size b lb
  have e2 : its2.toArray.size = x.cps.size := by rw [List.size_toArray]; omega
  have D2 : ∀ A : Around, A.handled = none → Draws X.prog X.w A (s1.heap.objs.size + 1) [s1.heap.objs.size + 1, b] x.cps.size (fun i v => its2.toArray[i]? = some v) (fun i h => h.IsListIter (s1.heap.objs.size + 1) b i ∧ h.IsList b its2.toArray) := fun A hA => by
    have := Draws.list (prog := X.prog) (w := X.w) hA (s1.heap.objs.size + 1) b (by exact Nat.ne_of_lt (Nat.lt_succ_of_lt lb)) its2.toArray
    rw [e2] at this
    exact this
  have D1 := fun (A : Around) (hA : A.handled = none) => Draws.text (prog := X.prog) (w := X.w) hA s1.heap.objs.size x t
  have P := pairArgG (prog := X.prog) (w := X.w) D D1 D2 (fun i h h' st k => (D1 X.A hd).frame i h h' st k) (fun i h h' st k => (D2 X.A hd).frame i h h' st k)
  have hbig : s1.heap.objs.size ≤ h'.objs.size := by rw [hsz]; exact Nat.le_add_right _ _
  have ks : (tKeys x).length = x.cps.size := by unfold tKeys; rw [List.length_map, Array.length_toList]
  refine PySem.call_dict_pairs (knd := mixKind X.prog X.w) (kvs := (tKeys x).zip its2) P (s := { s1 with heap := h' }) hd ⟨hz, hTI, ⟨_, _, hTO⟩, ⟨_, w1, rfl, rfl⟩, ⟨⟨_, w2, rfl, rfl⟩, p2'.isList.at fun o e => hk _ o e⟩, fun c hc => ?_, fun c hc => ?_⟩ ⟨?_, fun i key v ⟨⟨c, u, ec, ek⟩, ev⟩ => ?_⟩ lim fun h2 tk hd' k2 => ?_
  · rw [List.mem_singleton.mp hc]
    exact ⟨_, w1⟩
  · rcases List.mem_cons.mp hc with e | hc
    · rw [e]; exact ⟨_, w2⟩
    · rw [List.mem_singleton.mp hc]
      obtain ⟨o, ho, _⟩ := p2'.isList
      exact ⟨o, hk _ _ ho⟩
  · rw [List.length_zip, ks]
    omega
  · refine ⟨LQ.kS ⟨#[c]⟩, ?_, ?_⟩
    · rw [List.getElem?_zip_eq_some]
      refine ⟨?_, by simpa using ev⟩
      unfold tKeys
      rw [List.getElem?_map, Array.getElem?_toList, ec]
      rfl
    · subst ek
      exact beq_self_eq_true _
  · have rel : KV ((tKeys x).zip ys) ((tKeys x).zip its2) := kv_zip rv2
    have hm : (h'.objs.size == sysModules) = false := beq_eq_false_iff_ne.mpr (Nat.ne_of_gt (Nat.lt_of_lt_of_le I1.big hbig))
    have hlen : (mergeK [] ((tKeys x).zip ys)).length ≤ sizeLine := by
      refine Nat.le_trans (length_mergeK _ []) ?_
      rw [List.length_nil, Nat.zero_add, List.length_zip, ks]
      omega
    have k : ∀ c o, s1.heap.get? c = some o → h2.get? c = some o := fun c o e => k2 c o (fun hc => by
      have lt := Heap.lt_size e
      simp only [List.mem_cons, List.not_mem_nil, or_false] at hc
      rcases hc with z | z | z | z <;> rw [z] at lt
      · exact absurd lt (Nat.not_lt.mpr (Nat.le_add_right _ _))
      · exact absurd lt (Nat.not_lt.mpr (Nat.le_add_right _ _))
      · exact Nat.lt_irrefl _ lt
      · exact absurd lt (Nat.not_lt.mpr (Nat.le_add_right _ _))) (hk c o e)
    exact ⟨.ref h'.objs.size, upd H1 h'.objs.size (.dK (mergeK [] ((tKeys x).zip ys))), I1.laid (t' := tk) (a := h'.objs.size) (h' := h2) k hbig (show ObjOk X.prog X.w _ _ _ (.dK (mergeK [] ((tKeys x).zip ys))) from ⟨hlen, hm, merged [] ((tKeys x).zip its2), KV.merge rel .nil, hd'⟩), rfl, qq _ (I1.hok.fresh hbig)⟩
end
end LX
namespace LQ
open PySem PySem.Spec PyProof.Rows L2 LX PySem.W
/-- dict(zip(text, list)) of the same length -/
def dictZF {α : Type} (x : Str) (l : List α) : Option (List (Str × α)) := cond (decide (x.cps.size ≤ 4000) && decide (l.length = x.cps.size)) (some (dmerge [] ((chars x).zip l))) none
theorem frk_zip {F0 G : Hp} {α : Type} {e : α → PyData} : ∀ {cs : List Nat} {vs : List V} {l : List α}, FrL F0 G vs (l.map e) → FrK F0 G ((cs.map fun c => kS (⟨#[c]⟩ : Str)).zip vs) (((cs.map fun c => (⟨#[c]⟩ : Str)).zip l).map fun p => (dKey (kS p.1), e p.2))
  | [], _, _, _ => .nil
  | c :: cs, _, [], f => by cases f; exact .nil
  | c :: cs, _, x :: l, f => by
    cases f with
    | cons f1 fs => exact .cons f1 (frk_zip fs)
theorem q_dictZT {K : PySem.W.Frag} {ms : List Addr} {H0 F0 G H : Hp} {cs : List (Addr × HO)} {b : Addr} {vs : List V} {α : Type} {e : α → PyData} {x : Str} {l : List α} {r : List (Str × α)} {Q : VK} (S : Sep ms H0 G H cs) (h : H b = some (.lst vs)) (f : FrL F0 G vs (l.map e)) (hF : ∀ b, H b = none → F0 b = none) (hz : dictZF x l = some r)
    (q : ∀ p G' H', Sep ms H0 G' H' cs → Same G G' → Fr F0 G' (.ref p) (eD kS e r) → Q (.ref p) H') : zDZ K [.str x, .ref b] H Q := by
  unfold dictZF at hz
  obtain ⟨h1, h2⟩ := grd hz
  rw [Bool.and_eq_true, decide_eq_true_iff, decide_eq_true_iff] at h1
  cases som h2
  have len : vs.length = x.cps.size := by rw [f.len, List.length_map, h1.2]
  refine ⟨x, b, vs, rfl, h1.1, SqL.of h, len, fun p hp => q p _ _ (S.sh hp) (sNew (S.gfree hp)) (.dic (Or.inl upd_same) (hF p hp) ?_)⟩
  have h3 := frk_merge (kk := kS) (e := e) kS_inj (l := []) (kvs := []) (F0 := F0) (G := G) .nil (frk_zip (cs := x.cps.toList) f)
  exact h3.same (sNew (S.gfree hp))
end LQ

/-! ### list(d.items()) -/
namespace LX
open PySem PySem.Spec PyProof.Rows L2
section
theorem rd_dictAt {P : Program} {w : World} {H : Hp} {h : Heap} (I : HOk P w H h) {a : Addr} {kvs : List (L2.Key × V)} (r : Rd H a (.dK kvs)) : (a == sysModules) = false ∧ kvs.length ≤ sizeLine ∧ ∃ vs ep, KV kvs vs ∧ h.DictAt (mixKind P w) a vs ep := by
  rcases r with e | ⟨ob, e⟩
  · obtain ⟨hl, hs, vs, kv, o, es, ep, h1, h2, h3, h5, h4, h6⟩ := (show ObjOk P w H h a (.dK kvs) from I a _ e)
    exact ⟨hs, hl, vs, ep, kv, o, es, h1, h2, h3, h5, h4, h6⟩
  · obtain ⟨_, hl, hs, vs, kv, o, es, ep, h1, h2, h3, h5, h4, h6⟩ := (show ObjOk P w H h a (.frz ob (.dK kvs)) from I a _ e)
    exact ⟨hs, hl, vs, ep, kv, o, es, h1, h2, h3, h5, h4, h6⟩
theorem paired_get {α β : Type} {F : α → β → Prop} : ∀ {l : List α} {m : List β} {j : Nat} {y : β}, Paired F l m → m[j]? = some y → ∃ x, l[j]? = some x ∧ F x y
  | _, _, _, _, .nil, h => by cases h
  | _, _, 0, _, .cons a _, h => by cases h; exact ⟨_, rfl, a⟩
  | _, _, j + 1, _, .cons _ t, h => paired_get (j := j) t (by simpa using h)
theorem kV_rel {k : L2.Key} {v : Value} (h : keyIs k v = true) : RelV (kV k) v := by
  rcases keyIs_shape h with ⟨i, t, rfl, rfl⟩ | ⟨x, t, rfl, rfl⟩
  · exact ⟨t, rfl⟩
  · exact ⟨t, rfl⟩
def zLI (x : V) (H1 : Hp) (Q : VK) : Prop := ∃ (a : Addr) (kvs : List (L2.Key × V)), x = .ref a ∧ Rd H1 a (.dK kvs) ∧
  ∀ (L : Addr) (H2 : Hp) (Ts : List Addr), H1 L = none → Same H1 H2 → H2 L = some (.lst (Ts.map V.ref)) → Ts.length = kvs.length → (∀ (j : Nat) (T : Addr), Ts[j]? = some T → ∃ kv, kvs[j]? = some kv ∧ H2 T = some (.tup [kV kv.1, kv.2])) → Q (.ref L) H2
def tListItems (td : TE) : TE := fun σ H Q => td σ H fun x H1 => zLI x H1 Q
theorem rd_listItems {td : TE} {σ : L2.St} {H : Hp} {Q : VK} (q : td σ H fun x H1 => zLI x H1 Q) : tListItems td σ H Q := q
variable {X : Cx}
theorem pe_listItems {e : Expr} {td : TE} {p pos apos cpos : Pos} (hc : X.calm = true) (hg : Gl X "list") (hm : X.mg "list" = none) (he : PE X e td) (hbase : attributeBase e "items" X.env (eval e X.env) = eval e X.env := by rfl) (hline : (apos.endLine == cpos.line) = true := by rfl) :
    PE X (.Call (.Name "list" p) [.Call (.Attribute e "items" apos) [] [] cpos] [] pos) (tListItems td) := by
  refine ⟨fun pins s σ H Q I want => ?_⟩
  refine Call_ (ld_blt (u := .type "list") I hg hm (by decide +kernel) (PyProof.Rows.callWith_type1 (PyProof.Rows.args_cons ?_ rfl) rfl rfl))
  refine wpAny_Call_method (T := "dict") (id := "dict.items") hbase rfl hline F.plainAttrs_dict F.slot_dict_items F.type_dict_items (thn (he.run pins s σ H _ I want) fun u s1 ⟨x, H1, I1, rx, a, kvs, ex, hd, qq⟩ => ?_)
  subst ex
  obtain rfl : u = Value.ref a := rx
  obtain ⟨hs, hlen, vs, ep, kv, dat⟩ := rd_dictAt I1.hok hd
  have hof := dat.dictOf
  refine ⟨hof.typeIs, hof.mapOf.noDict, ?_⟩
  have hl : kvs.length = vs.length := Paired.length kv
  have hcalm := I1.ok.hd hc
  show wpAny _ _ (callWith cpos (.builtin "dict.items") [.ref a] [] []) _ X.xe s1
  refine method_meetsIn F.slot_dict_items F.entry_dict_items rfl (PySem.evalArgs_none ⟨rfl, hof.typeIs, F.args_dict_items_1 _, _, meets_dict_items (mixKind X.prog X.w) a hs, ⟨vs, hof⟩, ?_⟩)
  refine PyProof.Rows.args_nil ?_
  have hk0 : ∀ b o, s1.heap.get? b = some o → (s1.heap.push { cls := .type "dict_items", data := .fields #[.ref a] }).get? b = some o := fun b o q => Heap.get?_push_of_some _ q
  refine PySem.W.kdx_call (knd := mixKind X.prog X.w) (kvs := vs) (ep := ep) (d := a) hcalm ⟨_, Heap.get?_push_size _ rfl, rfl, rfl⟩ (dat.push _) (by rw [← hl]; exact hlen) fun h' tk acc c as k hL la G eacc => ?_
  have sz : (s1.heap.push { cls := .type "dict_items", data := .fields #[.ref a] }).objs.size = s1.heap.objs.size + 1 := Heap.size_push _ _
  generalize hS : (s1.heap.push { cls := .type "dict_items", data := .fields #[.ref a] }).objs.size = S at hL G sz ⊢
  have leS : s1.heap.objs.size ≤ S := by rw [sz]; exact Nat.le_succ _
  have k1 : ∀ b o, s1.heap.get? b = some o → h'.get? b = some o := fun b o e => k b o (hk0 b o e)
  have nS : H1 S = none := I1.hok.fresh leS
  have ea : acc = (as.map Value.ref).toArray := by rw [← eacc, Array.toArray_toList]
  subst ea
  have szA : (as.map V.ref).length ≤ sizeLine := by rw [List.length_map, la, ← hl]; exact hlen
  have J1 : L2.Inv X pins σ (upd H1 S (.lst (as.map V.ref))) { s1 with heap := h', toks := tk } :=
    I1.laid (t' := tk) (a := S) (h' := h') k1 leS (show ObjOk X.prog X.w _ _ _ (.lst (as.map V.ref)) from ⟨szA, as.map Value.ref, c, vals_refs as, hL⟩)
  have ndA : as.Nodup := List.nodup_iff_pairwise_ne.mpr (G.rise.imp fun q => Nat.ne_of_lt q)
  obtain ⟨H2, J2, keep, tups⟩ := L2.DX.takeT (P := fun T us => ∃ (j : Nat) (kv : L2.Key × V), as[j]? = some T ∧ kvs[j]? = some kv ∧ us = [kV kv.1, kv.2]) I1 as _ J1 ndA fun T hT => by
    obtain ⟨j, hj⟩ := List.mem_iff_getElem?.mp hT
    have lt := G.above T hT
    have le : s1.heap.objs.size ≤ T := Nat.le_trans leS (Nat.le_of_lt lt)
    refine ⟨le, by rw [upd_ne (Nat.ne_of_gt lt)]; exact I1.hok.fresh le, ?_⟩
    obtain ⟨key, k', x, e1, e2, e3⟩ := G.pairs j T hj
    obtain ⟨kv', ekv, e4, ry⟩ := paired_get kv e1
    have e4 : k' = kv'.1 := e4.symm
    subst e4
    refine ⟨[kV kv'.1, kv'.2], ⟨j, kv', hj, ekv, rfl⟩, fun H3 => ⟨by show 2 ≤ sizeLine; decide, [key, x], .cons (kV_rel e2) (.cons ry .nil), _, e3, rfl, 0, rfl⟩⟩
  have same : Same H1 H2 := fun c o e => keep c o (by rw [upd_ne (fun z => by rw [z, nS] at e; cases e)]; exact e)
  exact ⟨.ref S, H2, J2, rfl, qq S H2 as nS same (keep S _ upd_same) (by rw [la, ← hl]) fun j T hj => by
    obtain ⟨us, ⟨i, kv2, hi, e5, e6⟩, e7⟩ := tups T (List.mem_of_getElem? hj)
    have il := (List.getElem?_eq_some_iff.mp hj).1
    have : j = i := (List.getElem?_inj il ndA).mp (hj.trans hi.symm)
    subst this
    exact ⟨kv2, e5, by rw [e7, e6]⟩⟩
end
end LX
namespace LQ
open PySem PySem.Spec PyProof.Rows L2 LX PySem.W
theorem frl_idx {F0 H : Hp} : ∀ {vs : List V} {ds : List PyData}, vs.length = ds.length → (∀ (j : Nat) (v : V) (d : PyData), vs[j]? = some v → ds[j]? = some d → Fr F0 H v d) → FrL F0 H vs ds
  | [], [], _, _ => .nil
  | [], _ :: _, h, _ => by cases h
  | _ :: _, [], h, _ => by cases h
  | v :: vs, d :: ds, h, k => .cons (k 0 v d rfl rfl) (frl_idx (by simpa using h) fun j v' d' a b => k (j + 1) v' d' (by simpa using a) (by simpa using b))
theorem q_listItems {ms : List Addr} {H0 F0 G H : Hp} {cs : List (Addr × HO)} {a : Addr} {kvs : List (Key × V)} {α : Type} {e : α → PyData} {l : List (Str × α)} {Q : VK} (S : Sep ms H0 G H cs) (hr : Rd H a (.dK kvs)) (f : FrK F0 G kvs (l.map fun p => (dKey (kS p.1), e p.2))) (hF : ∀ b, H b = none → F0 b = none)
    (q : ∀ p G' H', Sep ms H0 G' H' cs → Same G G' → Fr F0 G' (.ref p) (eL (eT2 eS e) l) → Q (.ref p) H') : zLI (.ref a) H Q := by
  refine ⟨a, kvs, rfl, hr, fun L H2 Ts nL sm hL tl ht => ?_⟩
  obtain ⟨G2, S2, s2, kn, kt⟩ := S.grow sm
  have len : Ts.length = l.length := by rw [tl, frk_len f]
  refine q L G2 H2 S2 s2 (.lst (kn L _ nL hL) (hF L nL) (frl_idx (by rw [List.length_map, List.length_map, len]) fun j v d hv hd => ?_))
  rw [List.getElem?_map] at hv hd
  obtain ⟨T, hT, rfl⟩ := Option.map_eq_some_iff.mp hv
  obtain ⟨p, hp, rfl⟩ := Option.map_eq_some_iff.mp hd
  obtain ⟨kv, h1, h2⟩ := ht j T hT
  obtain ⟨v, e1, fx⟩ := frk_at f hp
  rw [h1] at e1
  cases som e1
  exact .tup (kt _ _ h2) (.cons (.str _) (.cons (fx.same s2) .nil))
end LQ

/-! An exception class whose __init__ says super().__init__('..') and self.f = f. -/
namespace LQ
open PySem PySem.Spec PyProof.Rows L2 LX PySem.W C8 PySem.Calls
section
variable {prog : Program} {w : World} {A : Around} {E : Value → Shared → Prop} {h : Heap} {g : Array GenState} {d : Drawn} {t : Nat} {os : OsState}
variable {nm q : Str} {C N : Addr} {bs bm : List Value} {hdct : Bool} {sn : List Str} {sub : List Value} {ab : Bool} {col : Option Bool} {dd : Option Addr} {k0 k1 k2 k3 k5 : Option Value}
/-- the bound ValueError.__init__ called -/
theorem call_vmw {u e t0 : Addr} {rest : List Value} {Q : Value → Shared → Prop}
    (hC : h.get? C = some (excClassObj nm q C N bs bm hdct sn sub ab col dd k0 k1 k2 k3 k5 "ValueError.__new__")) (he : h.get? e = some (HandSPX.excO C t0)) (hu : h.get? u = some (kxs_mw "ValueError.__init__" e)) (hrest : rest.length ≤ sizeLine)
    (hq : ∀ h' t1, (∀ b o, b ≠ e → h.get? b = some o → h'.get? b = some o) → h'.get? e = some (HandSPX.excO C t1) → Q .none ⟨h', g, d, t, os⟩) :
    wpAny (model prog w) A (call (.ref u) rest) Q E ⟨h, g, d, t, os⟩ := by
  refine wpAny_call (codeAny_of_tree ?_)
  show wpAny _ A.in1 (callAny (.ref u) ⟨rest, []⟩) _ _ _
  simp only [callAny]
  refine wpAny_bind (wpAny_load hu ?_)
  simp only [kxs_mw, show (Value.type "method-wrapper" == Value.type "method" || Value.type "method-wrapper" == Value.type "builtin_function_or_method" || Value.type "method-wrapper" == Value.type "method-wrapper") = true by decide, if_true]
  refine W.KFB.if_so (by decide) ?_
  refine wpAny_bind (check_bound_init F.excBase_ValueError.toExcCallFacts hC he rfl ?_)
  refine wpAny_bind (wpAny_pure (wpAny_pure ?_))
  refine ⟨plainId_quiet F.excBase_ValueError.init.plain _, codeAny_builtin F.excBase_ValueError.initEntry ?_⟩
  rw [Around.under_plainId F.excBase_ValueError.init.plain _]
  wp_walk
  refine hq _ h.objs.size (fun b o hb ho => ?_) ?_
  · rw [Heap.get?_update_other _ _ (Ne.symm hb)]
    exact Heap.get?_push_of_some _ ho
  · rw [Heap.get?_update_self _ (Heap.get?_push_of_some _ he) rfl]
    rfl
end
/-- an exception is given its field: vs = [self, y] -/
def spOex (C : Addr) (f : Str) : Sp := fun vs H Q _ => ∃ (a : Addr) (y : V), vs = [.ref a, y] ∧ H a = some (exo a C none) ∧ ∀ dx, H dx = none → dx ≠ a → Q .non (upd (upd H dx (exd dx [(f, y)])) a (exo a C (some dx)))
/-- what the text says of such a def -/
structure OxDef (st : Stmt) (qual f : Str) : Prop where
  body : ∃ (p0 p1 p2 p3 p4 p5 p6 p7 p8 p9 : Pos) (k : Nat) (z : Str), fnBody st = [.Expr (.Call (.Attribute (.Call (.Name "super" p0) [] [] p1) "__init__" p2) [.Constant (.str z) k p3] [] p4) p5, .Assign [.Attribute (.Name "self" p6) f p7] (.Name f p8) p9] ∧
    (∀ (L fa cc : Addr) (cd : Value), ∃ pl, eval (.Call (.Attribute (.Call (.Name "super" p0) [] [] p1) "__init__" p2) [.Constant (.str z) k p3] [] p4) (ksEnv qual (fnScope st) L fa cd cc) = (do
      let ov ← attributeBase (.Call (.Name "super" p0) [] [] p1) "__init__" (ksEnv qual (fnScope st) L fa cd cc) (eval (.Call (.Name "super" p0) [] [] p1) (ksEnv qual (fnScope st) L fa cd cc))
      standAt p2.atName
      let (fx, first) ← holding [ov] (getMethod ov "__init__" pl)
      callWith p4 fx first (backTo p4 (starEach [.Constant (.str z) k p3] (ksEnv qual (fnScope st) L fa cd cc))) [])) ∧
    (∀ (L fa cc : Addr) (cd : Value), swapsWith (.Call (.Attribute (.Call (.Name "super" p0) [] [] p1) "__init__" p2) [.Constant (.str z) k p3] [] p4) none p5.line (ksEnv qual (fnScope st) L fa cd cc) = pure false) ∧
    (∀ (L fa cc : Addr) (cd : Value), swapsWith (.Name f p8) (some (.Attribute (.Name "self" p6) f p7)) p9.line (ksEnv qual (fnScope st) L fa cd cc) = pure false) ∧
    (∀ (L fa cc : Addr) (cd : Value), starEach [.Constant (.str z) k p3] (ksEnv qual (fnScope st) L fa cd cc) = (false, eval (.Constant (.str z) k p3) (ksEnv qual (fnScope st) L fa cd cc)) :: starEach [] (ksEnv qual (fnScope st) L fa cd cc)) ∧
    (∀ (L fa cc : Addr) (cd : Value), (backTo p4 (starEach [] (ksEnv qual (fnScope st) L fa cd cc))).any (·.1) = false)
  inter : ∀ (L fa cc : Addr) (cd : Value), interactive (ksEnv qual (fnScope st) L fa cd cc) = false
  sup : (fnScope st).names.lookup ("super" : Str) = some .globalImplicit
  cls : (fnScope st).names.lookup ("__class__" : Str) = some .free
  self : (fnScope st).names.lookup ("self" : Str) = some .local
  fld : (fnScope st).names.lookup f = some .local
  cell : ∀ x ∈ (fnScope st).names, x.2 ≠ .cell
  co : (fnScope st).isCoroutine = false
  gen : (fnScope st).isGenerator = false
  kind : (fnScope st).kind = .function
  par : ∃ ar, ((fnArgs st).posonlyargs ++ (fnArgs st).args).head? = some ar ∧ ar.arg = "self"
  ne : f ≠ "self"
  dbg : (f == ("__debug__" : Str)) = false
section
variable {P : Program} {w : World} {K : PySem.W.Frag} {mg : Str → Option Value} {base : Heap}
theorem ox_fn {CX : CXT} {k : Nat} {st : Stmt} {qual f : Str} {C fa cc cda : Addr} {dV kV doc pm ct oc ccl cl : Value} {an od cdd cld : Option Addr} {osl ccs csl : Array (Option Value)} {vs : Array Value} {file : Str} {tf : Tok} (D : OxDef st qual f)
    (lk : K.lookup fa = some ⟨oc, od, .func (ksFn "__init__" qual (fnArgs st) (fnBody st) (fnScope st) dV kV doc pm an (.ref cda) ct cc), osl⟩) (hcd : codeIn K (.ref cda) qual = true)
    (hcode : K.lookup cda = some ⟨ccl, cdd, .fields vs, ccs⟩) (hvs : vs[2]? = some (.str file tf)) (hfile : ((P.main.file : Str) == file) = true) (htop : (P.main.scope.names.lookup ("super" : Str)).isSome = false)
    (hcell : K.lookup cc = some ⟨cl, cld, .cell (some (.ref C)), csl⟩) (T : OexC K C) (hsub : mroIn K C (.ref C) = some true) (nsup : nsIn K mainGlobals "super" = some none) (hany : nsIn K cStatics "thirdparty.any" = some none)
    (hm : ks_superIn K C C "__init__" = some (some (.builtin "ValueError.__init__"))) (hB : subIn K (.ref C) (.type "ValueError") = some true) (hno : findIn K (.ref C) f = some none) :
    FnOk P w K mg base CX (k + 1) fa (ksFn "__init__" qual (fnArgs st) (fnBody st) (fnScope st) dV kV doc pm an (.ref cda) ct cc) ["self", f] (spOex C f) := by
  refine ⟨fun vs H Q E ⟨a, y, e, _⟩ => by rw [e] <;> rfl, fun A outer s H args us vs2 Q E hr e0 hb r hsp => ?_⟩
  obtain ⟨a, y, rfl, ha, hq⟩ := hsp
  obtain ⟨u1, u2, rfl, r1, r2⟩ := vals2 r
  cases (show u1 = Value.ref a from r1)
  have KX : K.In s.heap := e0.mod.kin.keeps fun b o e => (e0.bs b o e).1
  have lim : s.heap.NoLimit := e0.mod.nolimit.keeps fun b o e => (e0.bs b o e).1
  obtain ⟨t1, ho⟩ := exo_at e0.hok ha
  obtain ⟨nm, q, N, bs, bm, sn, sub, ab, col, dd, k0, k1, k2, k3, k5, lC, hbm⟩ := T.cls
  obtain ⟨p0, p1, p2, p3, p4, p5, p6, p7, p8, p9, kk, z, hbody, he, hs1, hs2, hst, hpl⟩ := D.body
  obtain ⟨ar, hpar, har⟩ := D.par
  obtain ⟨mb, Gb, hbb⟩ := e0.mod.blt
  have up0 : ∀ b o, base.get? b = some o → s.heap.get? b = some o := fun b o e => (e0.bs b o e).1
  have hmg : mg "super" = none := mg_none_of e0.mod.kin e0.mod.glob nsup
  obtain ⟨hp, g, d, t, os⟩ := s
  refine ks_codeAny_call_defAt (body := fnBody st) (binds := [("self", .ref a), (f, u2)]) hr.depth (KX _ _ lk) rfl lim (codeRec_of KX hcd) rfl hb D.cell (fun x hx => ?_) (fun h0 hns0 k0 => ?_) D.co D.gen D.kind
  · rcases List.mem_cons.mp hx with rfl | hx
    · exact D.self
    · rcases List.mem_cons.mp hx with rfl | hx
      · exact D.fld
      · cases hx
  have ka : ∀ {b : Addr} {o : Obj}, hp.get? b = some o → b ≠ hp.objs.size := fun e => Nat.ne_of_lt (Heap.lt_size e)
  have K0 : K.In h0 := KX.keeps k0
  have o0 := k0 _ _ ho
  have hks : (ksEnv qual (fnScope st) hp.objs.size fa (.ref cda) cc).kindOf "super" = some .globalImplicit := D.sup
  have hkc : (ksEnv qual (fnScope st) hp.objs.size fa (.ref cda) cc).kindOf "__class__" = some .free := D.cls
  have hka : (ksEnv qual (fnScope st) hp.objs.size fa (.ref cda) cc).kindOf "self" = some .local := D.self
  have hkf : (ksEnv qual (fnScope st) hp.objs.size fa (.ref cda) cc).kindOf f = some .local := D.fld
  have vs1 : ([(("self" : Str), Value.ref a), (f, u2)] : List (Str × Value)).reverse.lookup ("self" : Str) = some (Value.ref a) := by
    have n1 : (("self" : Str) == f) = false := by simpa using (fun e : ("self" : Str) = f => D.ne e.symm)
    show List.lookup ("self" : Str) ([(f, u2), (("self" : Str), Value.ref a)] : List (Str × Value)) = _
    simp [List.lookup, n1]
  have vs2' : ([(("self" : Str), Value.ref a), (f, u2)] : List (Str × Value)).reverse.lookup f = some u2 := by
    show List.lookup f ([(f, u2), (("self" : Str), Value.ref a)] : List (Str × Value)) = _
    simp [List.lookup]
  have G0 : h0.Ns mainGlobals mg := e0.mod.glob.keeps fun b o e => k0 b o (up0 b o e)
  have B0 : h0.Ns builtinsNs mb := Gb.keeps fun b o e => k0 b o (up0 b o e)
  have bsup : mb "super" = some (.type "super") := (hbb "super" (by decide)).trans (by first | boot_by_name | rfl | kernel_rfl)
  obtain ⟨cdC, hC, hcl⟩ : ∃ cd, clsIn K C = some cd ∧ clsIn K C = some { name := nm, bases := bs, mro := .ref C :: bm, ns := N, qualname := q, hasDict := true, slotNames := sn, subclasses := sub, abstract := ab, collection := col, hasDel := false } := by
    have e : clsIn K C = some { name := nm, bases := bs, mro := .ref C :: bm, ns := N, qualname := q, hasDict := true, slotNames := sn, subclasses := sub, abstract := ab, collection := col, hasDel := false } := by unfold clsIn; rw [lC] <;> rfl
    exact ⟨_, e, e⟩
  obtain ⟨oD, hD1, hD2⟩ : ∃ oD, h0.get? C = some oD ∧ oD.data = .cls cdC := by
    have hC2 := hC
    unfold clsIn at hC2
    split at hC2
    · rename_i c d cd' sl ho
      cases hC2
      exact ⟨_, K0 _ _ ho, rfl⟩
    · cases hC2
  have I0 : InstAt h0 a { cls := .ref C, dict := none, data := .fields #[.ref t1, .none, .none, .none, .bool false, .none] } C none := ⟨o0, rfl, rfl, trivial⟩
  show PySem.wpAt (model P w) (A.deeper (ksEnv qual (fnScope st) hp.objs.size fa (.ref cda) cc)) (.func (fnBody st) (ksEnv qual (fnScope st) hp.objs.size fa (.ref cda) cc)) (execs (fnBody st) (ksEnv qual (fnScope st) hp.objs.size fa (.ref cda) cc)) _ _ _
  generalize hcode1 : Code.func (fnBody st) (ksEnv qual (fnScope st) hp.objs.size fa (.ref cda) cc) = code
  rw [hbody]
  rw [← hcode1]
  obtain ⟨pl, he1⟩ := he hp.objs.size fa cc (.ref cda)
  refine ks_wpAt_execs_cons (ks_wpAt_Expr_any (ks_wpAt_MethodCall (pl := pl) (ks_wpAt_super_base hks hkc (by decide) rfl (K0 _ _ lk) rfl hpar rfl (K0 _ _ hcode) rfl hvs hfile htop ?_) he1) (D.inter _ _ _ _) (hs1 _ _ _ _))
  refine ks_loadName_global D.kind hks (loadGlobal_builtin (env := ksEnv qual (fnScope st) hp.objs.size fa (.ref cda) cc) G0 hmg B0 bsup ⟨rfl, ?_⟩)
  refine wpAny_loadName_free D.kind hkc rfl ⟨_, K0 _ _ hcell, rfl⟩ ?_
  rw [har]
  refine wpAny_loadName_local D.kind hka hns0 vs1 ?_
  refine ks_wpAny_isType_cls hD1 hD2 ⟨rfl, ?_⟩
  refine ks_wpAny_call_super hD1 hD2 I0.at_ I0.cls (fun c e => by cases e) (looks_mroIn K0 hsub) (fun h1 e1 k1 => ?_)
  have K1 : K.In h1 := K0.keeps k1
  have I1 : InstAt h1 a { cls := .ref C, dict := none, data := .fields #[.ref t1, .none, .none, .none, .bool false, .none] } C none := ⟨k1 _ _ o0, rfl, rfl, trivial⟩
  have hI : Looks (model P w) h1 (isInstance (.ref a) (.type "ValueError")) true := I1.type.andThen (looks_subIn K1 hB)
  have hm' := hm
  unfold ks_superIn at hm'
  rw [hC] at hm'
  refine kxs_getMethod kxs_ValueError e1 (looks_opaque K1 hany) (l₀ := cdC.mro) (fun A Q E s k q => wpAny_bind ((looks_clsIn K1 hC) A _ E s k (wpAny_pure q))) rfl K1 hm' hI (ks_ne K1 I1 hC) (by decide) ?_
  have u1 : (h1.push (kxs_mw "ValueError.__init__" a)).get? h1.objs.size = some (kxs_mw "ValueError.__init__" a) := Heap.get?_push_at rfl rfl
  have kp : ∀ b o, h1.get? b = some o → (h1.push (kxs_mw "ValueError.__init__" a)).get? b = some o := fun b o e => Heap.get?_push_of_some _ e
  rw [hst]
  refine kxs_callWith (i := "ValueError.__init__") (x := a) (by show (false || (backTo p4 (starEach [] (ksEnv qual (fnScope st) hp.objs.size fa (.ref cda) cc))).any (·.1)) = false; rw [hpl] <;> rfl) ?_
  refine evalArgs_plain (spliced_cons (wpAny_Constant_str (k := kk) (pos := p3) (spliced_none (pos := p4) ?_)))
  refine ⟨u1, ?_⟩
  refine call_vmw (kp _ _ (K1 _ _ lC)) (kp _ _ (k1 _ _ o0)) u1 (by rw [sizeLine_eq]; show 1 ≤ _; omega) fun h2 t2 k2 e2 => ?_
  have na : ∀ {b : Addr} {o : Obj}, K.lookup b = some o → b ≠ a := fun {b o} e z => by
    have := (e0.bs b o (e0.mod.kin _ _ e)).2
    rw [z, ha] at this
    cases this
  have K2 : K.In h2 := fun b o e => k2 b o (na e) (kp _ _ (K1 _ _ e))
  have nL : hp.objs.size ≠ a := fun z => ka ho z.symm
  have ns2 : h2.Ns hp.objs.size (fun x => ([(("self" : Str), Value.ref a), (f, u2)] : List (Str × Value)).reverse.lookup x) := by
    obtain ⟨oL, es, ep, hL, rr⟩ := hns0
    exact ⟨oL, es, ep, k2 _ _ nL (kp _ _ (k1 _ _ hL)), rr⟩
  refine ks_wpAt_execs_cons (ks_wpAt_Assign_Attr (wpAt_of_wpAny (ESX.ldL ns2 vs2' (ESX.ldL ns2 vs1 ?_ D.kind hka) D.kind hkf D.dbg)) (hs2 _ _ _ _))
  refine set_plain (ox := { cls := .ref C, dict := none, data := .fields #[.ref t2, .none, .none, .none, .bool false, .none] }) (od := none) K2 ⟨e2, rfl, rfl, trivial⟩ T.sa ?_
  refine HandSPX.exc_osa K2 e2 hcl (show HandSPX.refsVE (.ref C :: bm) = true from hbm) rfl hno (fun h3 tk3 dx k3 dn dne hx hn => ?_)
  refine wpAt_of_wpAny (wpAny_execs_nil ?_)
  have kk : ∀ b o, b ≠ a → hp.get? b = some o → h3.get? b = some o := fun b o hb e => k3 b o hb (k2 b o hb (kp _ _ (k1 _ _ (k0 _ _ e))))
  have hle : hp.objs.size ≤ dx := by
    obtain ⟨oL, es, ep, hL, rr⟩ := ns2
    exact Nat.le_trans (Nat.le_of_lt (Heap.lt_size hL)) dn
  have hd3 : hp.get? dx = none := Heap.get?_none_of_le hle
  have hnd : H dx = none := e0.hok.fresh hle
  have nd : ∀ {b : Addr} {o : Obj}, hp.get? b = some o → b ≠ dx := fun {b o} q z => by rw [z, hd3] at q; cases q
  have nb : ∀ {b : Addr}, H b = none → b ≠ a := fun {b} n z => by
    rw [z, ha] at n
    cases n
  refine ⟨.non, _, rfl, e0.bare, ?_, fun b o q => ?_, rfl, hq dx hnd dne⟩
  · exact {
      keep := fun b o q n _ _ => kk b o (nb n) q
      slot := fun b o q n _ _ => ⟨o.slots, kk b o (nb n) q⟩
      free := fun b o q n _ => by rw [upd_ne (nb n), upd_ne (nd q)]; exact n
      there := fun b o q _ => by
        by_cases hb : b = a
        · exact ⟨_, by rw [hb]; exact hx⟩
        · exact ⟨o, kk b o hb q⟩
      tups := fun b xs q => by rw [upd_ne (at_ne ha q exo_tup), upd_ne (ne_of_none q hnd)]; exact q
      frzs := fun b o v q => by rw [upd_ne (at_ne ha q exo_frz), upd_ne (ne_of_none q hnd)]; exact q
      tbls := fun b ps q => ⟨#[], by rw [upd_ne (at_ne ha q exo_tbl), upd_ne (ne_of_none q hnd), q]; simp⟩ }
  · by_cases hb : b = a
    · subst hb
      rw [upd_same] at q
      cases q
      exact exo_ok hx
    · rw [upd_ne hb] at q
      by_cases hd : b = dx
      · subst hd
        rw [upd_same] at q
        cases q
        exact exd_ok hn (relO_put (fs := []) r2 fun g => True.intro)
      · rw [upd_ne hd] at q
        exact (e0.hok b o q).stay (fun c v hc z => kk c v (by
            rcases hc with hc | hc
            · rw [hc]
              exact hb
            · exact at_ne ha hc exo_own) z)
          (fun c hc => by rw [upd_ne (at_ne ha hc exo_own), upd_ne (ne_of_none hc hnd)]; exact hc) (fun c xs hc => by rw [upd_ne (at_ne ha hc exo_tup), upd_ne (ne_of_none hc hnd)]; exact hc)
end
/-- what is written of the class at C -/
def oexB (K : PySem.W.Frag) (C : Addr) : Bool := match K.lookup C with
  | some ⟨.type "type", _, .cls cd, sl⟩ => (match cd.mro, sl.toList with
    | .ref C' :: bm, [_, _, _, _, some (.builtin n), _] => C' == C && n == "ValueError.__new__" && !cd.hasDel && cd.hasDict && HandSPX.refsVE bm
    | _, _ => false)
  | _ => false
theorem oexC_of {K : PySem.W.Frag} {C : Addr} (q : oexB K C = true) (sa : findIn K (.ref C) "__setattr__" = some (some (.builtin "object.__setattr__"))) (eC : subIn K (.ref C) (.type "BaseException") = some true) (tC : typeIn K (.ref C) = some (.type "type")) (kC : keepIn K (.ref C) = true) : OexC K C := by
  refine ⟨?_, sa, eC, tC, kC⟩
  unfold oexB at q
  split at q
  · rename_i dd cd sl ho
    split at q
    · rename_i C' bm k0 k1 k2 k3 n k5 hm hs
      simp only [Bool.and_eq_true, beq_iff_eq, Bool.not_eq_true'] at q
      obtain ⟨⟨⟨⟨rfl, rfl⟩, hdel⟩, hd⟩, ht⟩ := q
      obtain ⟨nm, bs, mro, ns, qn, hd', sn, sub, ab, col, del⟩ := cd
      dsimp only at hm hdel hd
      subst hm hdel hd
      have hsl : sl = #[k0, k1, k2, k3, some (.builtin "ValueError.__new__"), k5] := by
        obtain ⟨l⟩ := sl
        simp only at hs
        rw [hs]
      subst hsl
      exact ⟨nm, qn, ns, bs, bm, sn, sub, ab, col, dd, k0, k1, k2, k3, k5, ho, ht⟩
    · cases q
  · cases q
/-- the class and its __init__ as they stand -/
structure OexT (P : Program) (K : PySem.W.Frag) (C : Addr) (f : Str) (fa : Addr) (fd : FuncData) : Prop where
  c : OexC K C
  ic : findIn K (.ref C) "__init__" = some (some (.ref fa))
  ti : typeIn K (.ref fa) = some (.type "function")
  fn : ∀ (w : World) (mg : Str → Option Value) (base : Heap) (CX : CXT), FnOk P w K mg base CX 1 fa fd ["self", f] (spOex C f)
  bd : Binds K fd ["self", f] []
/-- raise C(e) -/
def tRaiseI (C : Addr) (f : Str) (W : WX) (te : TE) : TS := fun _ σ H => tMkO C (spOex C f) [] (tCons te tNil) σ H fun cls d H' => W cls d σ H'
theorem ps_raiseI {X : Cx} {W : WX} {C fa : Addr} {fd : FuncData} {x f : Str} {e : Expr} {te : TE} {p pos pos0 : Pos} (hc : X.calm = true) (tk : Takes X W) (T : OexT X.prog X.K C f fa fd) (gC : X.mg x = some (.ref C)) (hr : Room 2 X.A) (he : PE X e te) (hg : Gl X x)
    (hdb : (x == ("__debug__" : Str)) = false := by decide) (hs : starEach [e] X.env = (false, eval e X.env) :: starEach [] X.env := by rfl) (hpl : (backTo pos (starEach [] X.env)).any (·.1) = false := by rfl) :
    PS X (.Raise (some (.Call (.Name x p) [e] [] pos)) none pos0) (tRaiseI C f W te) :=
  ps_raise (pos := pos0) hc tk (pmk_oex (CX := fun _ _ _ _ _ _ => False) (p := p) (pos := pos) T.c T.ic T.ti (T.fn X.w X.mg X.base _) hr T.bd (.nil) (fun _ _ _ _ _ _ _ h => h.elim) hg gC (pa_cons he pa_nil hs) hdb hs hpl)
/-- what is wanted behind its operand, as the rule says it -/
def oexG (C : Addr) (f : Str) (W : XK) (y : V) (H1 : Hp) : Prop := ([y] : List V).length ≤ 1000 ∧ ∀ a, H1 a = none → spOex C f (.ref a :: ([y] ++ [])) (upd H1 a (exo a C none))
    (fun v H2 => v = .non ∧ ∃ (d : Addr) (fs : List (Str × V)), H2 a = some (exo a C (some d)) ∧ H2 d = some (exd d fs) ∧ H1 d = none ∧ W (.ref C) (some d) (upd (del H2 a) d (.xd fs))) (fun _ _ _ => False)
theorem rd_raiseI {C : Addr} {f : Str} {W : WX} {te : TE} {D : Ends} {σ : L2.St} {H : Hp} (q : te σ H fun y H1 => oexG C f (fun cls d H' => W cls d σ H') y H1) : tRaiseI C f W te D σ H := q
/-- the same -/
def oexQ (C : Addr) (f : Str) (W : XK) (y : V) (H1 : Hp) : Prop := ∀ d, H1 d = none → W (.ref C) (some d) (upd H1 d (.xd [(f, y)]))
theorem q_oex {C : Addr} {f : Str} {W : XK} {y : V} {H1 : Hp} (h : oexQ C f W y H1) : oexG C f W y H1 := by
  refine ⟨by show 1 ≤ 1000; omega, fun a ha => ⟨a, y, rfl, upd_same, fun dx hd hne => ⟨rfl, dx, [(f, y)], upd_same, ?_, ?_, ?_⟩⟩⟩
  · exact (upd_ne hne).trans upd_same
  · exact (upd_ne hne).symm.trans hd
  · have hd1 : H1 dx = none := (upd_ne hne).symm.trans hd
    have e : upd (del (upd (upd (upd H1 a (exo a C none)) dx (exd dx [(f, y)])) a (exo a C (some dx))) a) dx (.xd [(f, y)]) = upd H1 dx (.xd [(f, y)]) := by
      funext b
      by_cases hb : b = dx
      · rw [hb, upd_same, upd_same]
      · rw [upd_ne hb, upd_ne hb]
        by_cases h2 : b = a
        · rw [h2, del_same, ha]
        · rw [del_ne h2, upd_ne h2, upd_ne hb, upd_ne h2]
    rw [e]
    exact h dx hd1
/-- x = A if C else B, as an if-statement -/
theorem rd_asgIf {t : TT} {ta tb : TE} {g : TG} {D : Ends} {σ : L2.St} {H : Hp} (q : tIfS t (tAsg ta g) (tAsg tb g) D σ H) : tAsg (tIf t ta tb) g D σ H := q
end LQ

/-! A dict that is only read, walked: it is locked for the time, wherever it comes from. -/
namespace LQ
open PySem PySem.Spec PyProof.Rows L2 LX
def tLockM (t : TE) : TE := fun σ H Q => t σ H Q ∨ tLockE t σ H Q
def sLockM (t : TS) : TS := fun D σ H => t D σ H ∨ tLock t D σ H
theorem pe_lockM {X : Cx} {e : Expr} {t : TE} (h : PE X e t) : PE X e (tLockM t) :=
  ⟨fun pins s σ H Q I q => q.elim (fun q => h.run pins s σ H Q I q) fun q => (pe_lock h).run pins s σ H Q I q⟩
theorem ps_lockM {X : Cx} {st : Stmt} {t : TS} (h : PS X st t) : PS X st (sLockM t) :=
  ⟨fun pins s σ H D I q => q.elim (fun q => h.run pins s σ H D I q) fun q => (ps_lock h).run pins s σ H D I q⟩
/-- the object at a is frozen in G' -/
structure LkTo (a : Addr) (od : Obj) (u : HO) (G G' : Hp) : Prop where
  rd : Rd G a u
  eq : G' = upd G a (.frz od u)
/-- the object at a is as it was before -/
structure UnTo (a : Addr) (u : HO) (G G' : Hp) : Prop where
  rd : Rd G a u
  rd' : Rd G' a u
  oth : ∀ b o, G b = some o → b ≠ a → G' b = some o
/-- u is the object of a dict -/
def IsDk (u : HO) : Prop := (∃ kvs, u = .dK kvs) ∨ ∃ φ, u = .ext φ
theorem IsDk.mut {u : HO} (h : IsDk u) : Mut (some u) := by rcases h with ⟨k, rfl⟩ | ⟨f, rfl⟩ <;> exact True.intro
theorem IsDk.nf {u : HO} (h : IsDk u) : ∀ od x, u ≠ .frz od x := by rcases h with ⟨k, rfl⟩ | ⟨f, rfl⟩ <;> exact fun _ _ z => nomatch z
theorem IsDk.nt {u : HO} (h : IsDk u) : ∀ x, u ≠ .tup x := by rcases h with ⟨k, rfl⟩ | ⟨f, rfl⟩ <;> exact fun _ z => nomatch z
theorem IsDk.nl {u : HO} (h : IsDk u) : ∀ x, u ≠ .lst x := by rcases h with ⟨k, rfl⟩ | ⟨f, rfl⟩ <;> exact fun _ z => nomatch z
section
variable {F0 H0 H0' G G' H H' : Hp} {a : Addr} {od : Obj} {u : HO} {v : V} {x : PyData} {vs : List V} {xs : List PyData} {kvs : List (Key × V)} {kxs : List (PyData × PyData)} {ms : List Addr} {cs : List (Addr × HO)}
theorem rd_ne {b : Addr} {o : HO} (h : Rd G a u) (e : G b = some o) (n1 : o ≠ u) (n2 : ∀ d, o ≠ .frz d u) : b ≠ a := fun z => by
  subst z
  rcases h with h | ⟨d, h⟩
  · rw [h] at e; exact n1 (Option.some.inj e).symm
  · rw [h] at e; exact n2 d (Option.some.inj e).symm
/-- two objects read at one place are one -/
theorem rd_uniq {o : HO} (h : Rd G a u) (k : Rd G a o) (n1 : ∀ d x, u ≠ .frz d x) (n2 : ∀ d x, o ≠ .frz d x) : o = u := by
  rcases h with h | ⟨d, h⟩ <;> rcases k with k | ⟨e, k⟩ <;> rw [h] at k <;> have k := Option.some.inj k
  · exact k.symm
  · exact absurd k (n1 _ _)
  · exact absurd k.symm (n2 _ _)
  · injection k with _ k; exact k.symm
theorem LkTo.rdk {b : Addr} {o : HO} (d : LkTo a od u G G') (hu : IsDk u) (n : ∀ d x, o ≠ .frz d x) (e : Rd G b o) : Rd G' b o := by
  rw [d.eq]
  by_cases c : b = a
  · subst c
    rw [rd_uniq d.rd e hu.nf n]
    exact Or.inr ⟨od, upd_same⟩
  · unfold Rd
    rw [upd_ne c]
    exact e
theorem LkTo.oth {b : Addr} {o : HO} (d : LkTo a od u G G') (e : G b = some o) (n1 : o ≠ u) (n2 : ∀ d, o ≠ .frz d u) : G' b = some o := by
  rw [d.eq, upd_ne (rd_ne d.rd e n1 n2)]
  exact e
theorem UnTo.rdk {b : Addr} {o : HO} (d : UnTo a u G G') (hu : IsDk u) (n : ∀ d x, o ≠ .frz d x) (e : Rd G b o) : Rd G' b o := by
  by_cases c : b = a
  · subst c
    rw [rd_uniq d.rd e hu.nf n]
    exact d.rd'
  · rcases e with e | ⟨f, e⟩
    · exact Or.inl (d.oth _ _ e c)
    · exact Or.inr ⟨f, d.oth _ _ e c⟩
theorem dK_nf {kvs : List (Key × V)} : ∀ d x, HO.dK kvs ≠ .frz d x := fun _ _ z => nomatch z
theorem Fr.lk (f : Fr F0 G v x) (hu : IsDk u) (d : LkTo a od u G G') : Fr F0 G' v x := f.move (fun _ _ e n => ⟨d.oth e (fun z => hu.nl _ z.symm) (fun _ z => nomatch z), n⟩) (fun _ _ e => d.oth e (fun z => hu.nt _ z.symm) fun _ z => nomatch z) fun _ _ e n => ⟨d.rdk hu dK_nf e, n⟩
theorem FrL.lk (f : FrL F0 G vs xs) (hu : IsDk u) (d : LkTo a od u G G') : FrL F0 G' vs xs := f.move (fun _ _ e n => ⟨d.oth e (fun z => hu.nl _ z.symm) (fun _ z => nomatch z), n⟩) (fun _ _ e => d.oth e (fun z => hu.nt _ z.symm) fun _ z => nomatch z) fun _ _ e n => ⟨d.rdk hu dK_nf e, n⟩
theorem FrK.lk (f : FrK F0 G kvs kxs) (hu : IsDk u) (d : LkTo a od u G G') : FrK F0 G' kvs kxs := f.move (fun _ _ e n => ⟨d.oth e (fun z => hu.nl _ z.symm) (fun _ z => nomatch z), n⟩) (fun _ _ e => d.oth e (fun z => hu.nt _ z.symm) fun _ z => nomatch z) fun _ _ e n => ⟨d.rdk hu dK_nf e, n⟩
theorem UnTo.ne {b : Addr} {o : HO} (d : UnTo a u G G') (e : G b = some o) (n1 : o ≠ u) (n2 : ∀ d, o ≠ .frz d u) : G' b = some o := d.oth b o e (rd_ne d.rd e n1 n2)
theorem Fr.un (f : Fr F0 G v x) (hu : IsDk u) (d : UnTo a u G G') : Fr F0 G' v x := f.move (fun _ _ e n => ⟨d.ne e (fun z => hu.nl _ z.symm) (fun _ z => nomatch z), n⟩) (fun _ _ e => d.ne e (fun z => hu.nt _ z.symm) fun _ z => nomatch z) fun _ _ e n => ⟨d.rdk hu dK_nf e, n⟩
theorem FrL.un (f : FrL F0 G vs xs) (hu : IsDk u) (d : UnTo a u G G') : FrL F0 G' vs xs := f.move (fun _ _ e n => ⟨d.ne e (fun z => hu.nl _ z.symm) (fun _ z => nomatch z), n⟩) (fun _ _ e => d.ne e (fun z => hu.nt _ z.symm) fun _ z => nomatch z) fun _ _ e n => ⟨d.rdk hu dK_nf e, n⟩
theorem FrK.un (f : FrK F0 G kvs kxs) (hu : IsDk u) (d : UnTo a u G G') : FrK F0 G' kvs kxs := f.move (fun _ _ e n => ⟨d.ne e (fun z => hu.nl _ z.symm) (fun _ z => nomatch z), n⟩) (fun _ _ e => d.ne e (fun z => hu.nt _ z.symm) fun _ z => nomatch z) fun _ _ e n => ⟨d.rdk hu dK_nf e, n⟩
theorem Fr.h0 (f : Fr F0 G v x) (e : ∀ b, H0' b = none ↔ F0 b = none) : Fr H0' G v x := f.move (fun _ _ q n => ⟨q, (e _).mpr n⟩) (fun _ _ q => q) fun _ _ q n => ⟨q, (e _).mpr n⟩
theorem FrL.h0 (f : FrL F0 G vs xs) (e : ∀ b, H0' b = none ↔ F0 b = none) : FrL H0' G vs xs := f.move (fun _ _ q n => ⟨q, (e _).mpr n⟩) (fun _ _ q => q) fun _ _ q n => ⟨q, (e _).mpr n⟩
theorem FrK.h0 (f : FrK F0 G kvs kxs) (e : ∀ b, H0' b = none ↔ F0 b = none) : FrK H0' G kvs kxs := f.move (fun _ _ q n => ⟨q, (e _).mpr n⟩) (fun _ _ q => q) fun _ _ q n => ⟨q, (e _).mpr n⟩
theorem _root_.LX.Scr.lk {K : PySem.W.Frag} {ns : List Int} {l : Addr} (f : Scr K G l ns) (hu : IsDk u) (d : LkTo a od u G G') : Scr K G' l ns := by
  rcases f with ⟨o, h⟩ | h
  · exact Or.inl ⟨o, d.oth h (fun z => hu.nf _ _ z.symm) fun _ z => by injection z with _ z; exact hu.nl _ z.symm⟩
  · exact Or.inr h
theorem _root_.LX.Scr.un {K : PySem.W.Frag} {ns : List Int} {l : Addr} (f : Scr K G l ns) (hu : IsDk u) (d : UnTo a u G G') : Scr K G' l ns := by
  rcases f with ⟨o, h⟩ | h
  · exact Or.inl ⟨o, d.ne h (fun z => hu.nf _ _ z.symm) fun _ z => by injection z with _ z; exact hu.nl _ z.symm⟩
  · exact Or.inr h
/-- H0 with the object at a frozen, if it stands there -/
def lk0 (H0 : Hp) (a : Addr) (od : Obj) (u : HO) : Hp := fun b => if b = a ∧ H0 a ≠ none then some (.frz od u) else H0 b
theorem lk0_non (b : Addr) : lk0 H0 a od u b = none ↔ H0 b = none := by
  unfold lk0
  by_cases c : b = a ∧ H0 a ≠ none
  · rw [if_pos c]
    exact ⟨fun z => (nomatch z), fun z => absurd (c.1 ▸ z) c.2⟩
  · rw [if_neg c]
theorem lk0_ne {b : Addr} (c : b ≠ a) : lk0 H0 a od u b = H0 b := by
  unfold lk0
  rw [if_neg (fun z => c z.1)]
theorem Sep.nea (S : Sep ms H0 G H cs) {o : HO} (h : G a = some o) : ∀ c ∈ cs, c.1 ≠ a := fun c hc z => by
  have := (S.cel c hc).2.1
  rw [z, h] at this
  cases this
theorem Sep.lockG (S : Sep ms H0 G H cs) (h : G a = some u) (hu : IsDk u) : Sep ms (lk0 H0 a od u) (upd G a (.frz od u)) (upd H a (.frz od u)) cs where
  sub := fun b o e => by
    by_cases c : b = a
    · subst c; rw [upd_same] at e ⊢; exact e
    · rw [upd_ne c] at e ⊢; exact S.sub b o e
  cel := fun c hc => by
    have n := S.nea h c hc
    rw [upd_ne n, upd_ne n]
    exact S.cel c hc
  nd := S.nd
  msc := S.msc
  hms := fun p hp z => S.hms p hp ((lk0_non p).mp z)
  old := fun b e => by
    by_cases c : b = a
    · subst c; rw [upd_same] at e; cases e
    · rw [upd_ne c] at e; exact (lk0_non b).mpr (S.old b e)
  base := fun b o e n => by
    by_cases c : b = a
    · subst c
      unfold lk0 at e
      by_cases d : H0 b = none
      · rw [if_neg (fun z => z.2 d), d] at e; cases e
      · rw [if_pos ⟨rfl, d⟩] at e; rw [upd_same]; exact e
    · rw [lk0_ne c] at e; rw [upd_ne c]; exact S.base b o e n
  tups := fun b xs e => by
    by_cases c : b = a
    · subst c; rw [upd_same] at e; cases e
    · rw [upd_ne c] at e ⊢; exact S.tups b xs e
theorem Sep.unlockG {G2 H2 : Hp} {cs2 : List (Addr × HO)} (S : Sep ms H0 G H cs) (h : G a = some u) (hu : IsDk u) (S2 : Sep ms (lk0 H0 a od u) G2 H2 cs2) (h2 : G2 a = some (.frz od u)) : Sep ms H0 (upd G2 a u) (upd H2 a u) cs2 where
  sub := fun b o e => by
    by_cases c : b = a
    · subst c; rw [upd_same] at e ⊢; exact e
    · rw [upd_ne c] at e ⊢; exact S2.sub b o e
  cel := fun c hc => by
    have n := S2.nea h2 c hc
    rw [upd_ne n, upd_ne n]
    exact S2.cel c hc
  nd := S2.nd
  msc := S2.msc
  hms := fun p hp z => S2.hms p hp ((lk0_non p).mpr z)
  old := fun b e => by
    by_cases c : b = a
    · subst c; rw [upd_same] at e; cases e
    · rw [upd_ne c] at e; exact (lk0_non b).mp (S2.old b e)
  base := fun b o e n => by
    by_cases c : b = a
    · subst c; rw [upd_same, ← h]; exact S.base b o e n
    · rw [upd_ne c]; exact S2.base b o (by rw [lk0_ne c]; exact e) n
  tups := fun b xs e => by
    by_cases c : b = a
    · subst c; rw [upd_same] at e; exact absurd (Option.some.inj e) (hu.nt xs)
    · rw [upd_ne c] at e ⊢; exact S2.tups b xs e
/-- what stands behind the walk -/
def Goes (ms : List Addr) (H0 G : Hp) (a : Addr) (u : HO) (H0' G' : Hp) (R : Hp → Prop) (R' : Hp → Prop) : Prop :=
  ∀ H2 cs2 G2, Sep ms H0' G2 H2 cs2 → Same G' G2 → (∀ G3 H3, Sep ms H0 G3 H3 cs2 → UnTo a u G2 G3 → Same G G3 → R H3) → R' H2
theorem lockG_same {G2 : Hp} (h : G a = some u) (s : Same (upd G a (.frz od u)) G2) : Same G (upd G2 a u) := fun b o e => by
  by_cases c : b = a
  · subst c; rw [upd_same, ← h]; exact e
  · rw [upd_ne c]; exact s b o (by rw [upd_ne c]; exact e)
theorem unto_lock {G2 : Hp} (h2 : G2 a = some (.frz od u)) : UnTo a u G2 (upd G2 a u) :=
  ⟨Or.inr ⟨od, h2⟩, Or.inl upd_same, fun b o e c => by rw [upd_ne c]; exact e⟩
theorem q_lockM {t : TE} {σ : L2.St} {Q : VK} (S : Sep ms H0 G H cs) (h : Rd G a u) (hu : IsDk u)
    (q : ∀ H0' od G' H' Q', (∀ b, H0' b = none ↔ H0 b = none) → LkTo a od u G G' → Sep ms H0' G' H' cs → G' a = some (.frz od u) → (∀ v, Goes ms H0 G a u H0' G' (Q v) (Q' v)) → t σ H' Q') : tLockM t σ H Q := by
  rcases h with h | ⟨od, h⟩
  · refine Or.inr ⟨a, u, S.sub _ _ h, hu.mut, fun od => q (lk0 H0 a od u) od (upd G a (.frz od u)) _ _ lk0_non ⟨Or.inl h, rfl⟩ (S.lockG h hu) upd_same fun v H2 cs2 G2 S2 s2 k => ?_⟩
    have g2 := s2 a _ upd_same
    exact ⟨S2.sub _ _ g2, k (upd G2 a u) _ (S.unlockG h hu S2 g2) (unto_lock g2) (lockG_same h s2)⟩
  · refine Or.inl (q H0 od G H Q (fun _ => Iff.rfl) ⟨Or.inr ⟨od, h⟩, ?_⟩ S h fun v H2 cs2 G2 S2 s2 k => k G2 H2 S2 ⟨Or.inr ⟨od, s2 _ _ h⟩, Or.inr ⟨od, s2 _ _ h⟩, fun _ _ e _ => e⟩ s2)
    funext b
    by_cases c : b = a
    · subst c; rw [upd_same]; exact h
    · rw [upd_ne c]
theorem q_lockMS {t : TS} {σ : L2.St} {D : Ends} (S : Sep ms H0 G H cs) (h : Rd G a u) (hu : IsDk u)
    (q : ∀ H0' od G' H' D', (∀ b, H0' b = none ↔ H0 b = none) → LkTo a od u G G' → Sep ms H0' G' H' cs → G' a = some (.frz od u) → (∀ σ', Goes ms H0 G a u H0' G' (D.nx σ') (D'.nx σ')) → t D' σ H') : sLockM t D σ H := by
  rcases h with h | ⟨od, h⟩
  · refine Or.inr ⟨a, u, S.sub _ _ h, hu.mut, fun od => q (lk0 H0 a od u) od (upd G a (.frz od u)) _ _ lk0_non ⟨Or.inl h, rfl⟩ (S.lockG h hu) upd_same fun σ' H2 cs2 G2 S2 s2 k => ?_⟩
    have g2 := s2 a _ upd_same
    exact ⟨S2.sub _ _ g2, k (upd G2 a u) _ (S.unlockG h hu S2 g2) (unto_lock g2) (lockG_same h s2)⟩
  · refine Or.inl (q H0 od G H D (fun _ => Iff.rfl) ⟨Or.inr ⟨od, h⟩, ?_⟩ S h fun v H2 cs2 G2 S2 s2 k => k G2 H2 S2 ⟨Or.inr ⟨od, s2 _ _ h⟩, Or.inr ⟨od, s2 _ _ h⟩, fun _ _ e _ => e⟩ s2)
    funext b
    by_cases c : b = a
    · subst c; rw [upd_same]; exact h
    · rw [upd_ne c]
end
end LQ

/-! dicts with tuple keys: asked wherever they come from, walked, kept. -/
namespace LQ
open PySem PySem.Spec PyProof.Rows L2 LX
/-! ### another kind of key: two texts, the second may be None -/
def kPO (p : Str × Option Str) : NestedKey := .tup [.text p.1, match p.2 with | none => .none | some z => .text z]
theorem kPO_data (p : Str × Option Str) : (kPO p).data = eT2 eS (eO eS) p := by
  obtain ⟨a, b⟩ := p
  unfold kPO
  cases b <;> simp only [NestedKey.data, NestedKey.datas] <;> rfl
theorem kPO_depth (p : Str × Option Str) : (kPO p).depth ≤ 8 := by
  obtain ⟨a, b⟩ := p
  unfold kPO
  cases b <;> simp only [NestedKey.depth, NestedKey.depthAll] <;> omega
theorem kPO_inj : ∀ a b : Str × Option Str, kPO a = kPO b → a = b := fun a b h => by
  obtain ⟨a1, a2⟩ := a
  obtain ⟨b1, b2⟩ := b
  unfold kPO at h
  injection h with h
  injection h with h1 h2
  injection h1 with h1
  injection h2 with h2
  dsimp only at h1 h2
  subst h1
  cases a2 <;> cases b2 <;> dsimp only at h2
  · rfl
  · cases h2
  · cases h2
  · injection h2 with h2
    rw [h2]
theorem kkPO : KK (eT2 eS (eO eS)) kPO := ⟨kPO_data, kPO_depth, kPO_inj⟩
/-! ### kept -/
/-- a dict that is only read -/
def FrD {κ α : Type} (P : Program) (w : World) (kk : κ → NestedKey) (e : α → PyData) (F0 G : Hp) (a : Addr) (l : List (κ × α)) : Prop := ∃ kvs, Rd G a (DN P w a kvs) ∧ F0 a = none ∧ FrN kk e F0 G kvs l
theorem isDN {P : Program} {w : World} {a : Addr} {kvs : NKv} : IsDk (DN P w a kvs) := Or.inr ⟨_, rfl⟩
theorem isDK {kvs : List (Key × V)} : IsDk (.dK kvs) := Or.inl ⟨_, rfl⟩
theorem dn_nf {P : Program} {w : World} {a : Addr} {kvs : NKv} : ∀ d x, DN P w a kvs ≠ .frz d x := isDN.nf
section
variable {κ α : Type} [DecidableEq κ] {kk : κ → NestedKey} {ek : κ → PyData} {e : α → PyData} {F0 H0 H0' G G' H H' : Hp} {kvs : NKv} {l : List (κ × α)} {k : κ} {x : α} {v y : V} {a b : Addr} {ms : List Addr} {cs : List (Addr × HO)} {Q : VK} {P : Program} {w : World} {od : Obj} {u : HO}
theorem KeyAt.lk {k : NestedKey} (h : KeyAt G k b) (hu : IsDk u) (d : LkTo a od u G G') : KeyAt G' k b := ⟨h.1.lk hu d, h.2⟩
theorem KeyAt.un {k : NestedKey} (h : KeyAt G k b) (hu : IsDk u) (d : UnTo a u G G') : KeyAt G' k b := ⟨h.1.un hu d, h.2⟩
theorem FrN.lk (f : FrN kk e F0 G kvs l) (hu : IsDk u) (d : LkTo a od u G G') : FrN kk e F0 G' kvs l := by
  induction f with
  | nil => exact .nil
  | cons h1 h2 _ ih => exact .cons (h1.lk hu d) (h2.lk hu d) ih
theorem FrN.un (f : FrN kk e F0 G kvs l) (hu : IsDk u) (d : UnTo a u G G') : FrN kk e F0 G' kvs l := by
  induction f with
  | nil => exact .nil
  | cons h1 h2 _ ih => exact .cons (h1.un hu d) (h2.un hu d) ih
theorem FrN.h0 (f : FrN kk e F0 G kvs l) (q : ∀ b, H0' b = none ↔ F0 b = none) : FrN kk e H0' G kvs l := by
  induction f with
  | nil => exact .nil
  | cons h1 h2 _ ih => exact .cons h1 (h2.h0 q) ih
theorem FrN.imm (f : FrN kk e F0 G kvs l) (fl : ∀ x, flatD (e x) = true) : FrN kk e H0 G kvs l := by
  induction f with
  | nil => exact .nil
  | cons h1 h2 _ ih => exact .cons h1 (h2.imm (fl _)) ih
theorem FrD.same (f : FrD P w kk e F0 G a l) (s : Same G G') : FrD P w kk e F0 G' a l := let ⟨kvs, h, n, g⟩ := f; ⟨kvs, rd_same h s, n, g.same s⟩
theorem FrD.rp (f : FrD P w kk e F0 G a l) : FrD P w kk e E0h G a l := let ⟨kvs, h, _, g⟩ := f; ⟨kvs, h, rfl, g.rp⟩
theorem FrD.lk (f : FrD P w kk e F0 G b l) (hu : IsDk u) (d : LkTo a od u G G') : FrD P w kk e F0 G' b l := let ⟨kvs, h, n, g⟩ := f; ⟨kvs, d.rdk hu dn_nf h, n, g.lk hu d⟩
theorem FrD.un (f : FrD P w kk e F0 G b l) (hu : IsDk u) (d : UnTo a u G G') : FrD P w kk e F0 G' b l := let ⟨kvs, h, n, g⟩ := f; ⟨kvs, d.rdk hu dn_nf h, n, g.un hu d⟩
theorem FrD.h0 (f : FrD P w kk e F0 G b l) (q : ∀ b, H0' b = none ↔ F0 b = none) : FrD P w kk e H0' G b l := let ⟨kvs, h, n, g⟩ := f; ⟨kvs, h, (q _).mpr n, g.h0 q⟩
theorem FrD.mv (f : FrD P w kk e H G b l) (k1 : ∀ b, H b = none → G' b = G b ∧ F0 b = none) (k2 : Same G G' ∨ True) (m : ∀ v d, Fr H G v d → Fr F0 G' v d) (mk : ∀ k b, KeyAt G k b → KeyAt G' k b) : FrD P w kk e F0 G' b l := by
  obtain ⟨kvs, h, n, g⟩ := f
  refine ⟨kvs, ?_, (k1 b n).2, ?_⟩
  · unfold Rd
    rw [(k1 b n).1]
    exact h
  · clear h
    induction g with
    | nil => exact .nil
    | cons h1 h2 _ ih => exact .cons (mk _ _ h1) (m _ _ h2) ih
/-- an owned one is only read from here on -/
theorem Sep.fixN (S : Sep ms H0 G H cs) (i : Nat) (h : cs[i]? = some (a, DN P w a kvs)) (hm : a ∉ ms) (f : FrN kk e F0 G kvs l) (n : F0 a = none) : ∃ G', Sep ms H0 G' H (cs.eraseIdx i) ∧ Same G G' ∧ FrD P w kk e F0 G' a l :=
  ⟨_, S.fix i h hm, sNew (S.gnone i h), kvs, Or.inl upd_same, n, f.same (sNew (S.gnone i h))⟩
/-! ### asked -/
theorem q_dgetX (hk : KK ek kk) (r : Rd H a (DN P w a kvs)) (f : FrN kk e F0 G kvs l) (s : Same G H) (fy : Fr E0h H (.ref b) (ek k)) (hx : dget l k = some x) (q : ∀ v, Fr F0 G v (e x) → Q v H) : zDGetN P w (.ref a) (.ref b) H Q := by
  rcases f.get hk k with ⟨x', v, h1, h2, h3⟩ | ⟨h1, _⟩
  · rw [hx] at h1
    cases h1
    exact ⟨a, v, rfl, ⟨kvs, kk k, b, r, f.keys s, rfl, key_at hk fy, h2.symm⟩, q v h3⟩
  · rw [hx] at h1
    cases h1
theorem q_dinX (hk : KK ek kk) (r : Rd H a (DN P w a kvs)) (f : FrN kk e F0 G kvs l) (s : Same G H) (fy : Fr E0h H (.ref b) (ek k)) (q : Q (.bl (dhas l k)) H) : zDInN P w (.ref b) (.ref a) H Q :=
  ⟨a, _, rfl, ⟨kvs, kk k, b, r, f.keys s, rfl, key_at hk fy, rfl⟩, by rw [f.has hk k]; exact q⟩
theorem q_dniX (hk : KK ek kk) (r : Rd H a (DN P w a kvs)) (f : FrN kk e F0 G kvs l) (s : Same G H) (fy : Fr E0h H (.ref b) (ek k)) (q : Q (.bl (!dhas l k)) H) : zDNotInN P w (.ref b) (.ref a) H Q :=
  ⟨a, _, rfl, ⟨kvs, kk k, b, r, f.keys s, rfl, key_at hk fy, rfl⟩, by rw [f.has hk k]; exact q⟩
def zLenN (P : Program) (w : World) : List V → Hp → VK → Prop := fun xs H Q => ∃ (a : Addr) (kvs : NKv), xs = [.ref a] ∧ Rd H a (DN P w a kvs) ∧ KeysAt H kvs ∧ Q (.int ((kvs.length : Nat) : Int)) H
theorem call_len_DN {X : Cx} : CallR X (.builtin "len") (zLenN X.prog X.w) := by
  intro pins s σ H xs us Q I r h
  obtain ⟨a, kvs, rfl, hr, ks, q⟩ := h
  obtain ⟨u, rfl, rx⟩ := vals1 r
  obtain rfl : u = .ref a := rx
  obtain ⟨z, hd, ys, rel, dd⟩ := dn_of I.hok hr ks
  have hl : kvs.length = ys.length := Paired.length rel
  refine call_len_dictH hd dd (by rw [← hl]; rw [sizeLine_eq] at z; omega) ?_
  rw [← hl]
  exact ⟨.int ((kvs.length : Nat) : Int), H, I.tok _, ⟨_, rfl⟩, q⟩
theorem klenN {X : Cx} (hP : X.prog = P := by rfl) (hw : X.w = w := by rfl) : CallR X (.builtin "len") (zLenN P w) := by subst hP hw; exact call_len_DN
theorem q_lenN (r : Rd H a (DN P w a kvs)) (f : FrN kk e F0 G kvs l) (s : Same G H) (q : Q (.int (lenI l)) H) : zLenN P w [.ref a] H Q := ⟨a, kvs, rfl, r, f.keys s, by rw [f.len]; exact q⟩
end
/-! ### d.get(k), d.get(k, x) -/
def zIsN9 (P : Program) (w : World) (x : V) (H : Hp) (R : Addr → Prop) : Prop := ∃ a kvs, x = .ref a ∧ Rd H a (DN P w a kvs) ∧ KeysAt H kvs ∧ R a
def zGet1 (P : Program) (w : World) (a : Addr) (y : V) (H : Hp) (Q : VK) : Prop := ∃ o, DGetN P w H a y o ∧ Q (o.getD .non) H
def zGet2 (P : Program) (w : World) (a : Addr) (y z : V) (H : Hp) (Q : VK) : Prop := ∃ o, DGetN P w H a y o ∧ Q (o.getD z) H
def tDGetN1 (P : Program) (w : World) (td ty : TE) : TE := fun σ H Q => td σ H fun x H1 => zIsN9 P w x H1 fun a => ty σ H1 fun y H2 => zGet1 P w a y H2 Q
def tDGetN2 (P : Program) (w : World) (td ty tx : TE) : TE := fun σ H Q => td σ H fun x H1 => zIsN9 P w x H1 fun a => ty σ H1 fun y H2 => tx σ H2 fun z H3 => zGet2 P w a y z H3 Q
section
variable {X : Cx} {o e f : Expr} {apos cpos : Pos} {td ty tx : TE}
theorem pe_dgetN1 (hu : X.A.units + 64 < cLine) (ho : PE X o td) (he : PE X e ty) (m : M1 X o "get" apos e cpos) : PE X (.Call (.Attribute o "get" apos) [e] [] cpos) (tDGetN1 X.prog X.w td ty) := by
  refine ⟨fun pins s σ H Q I h => ?_⟩
  refine wpAny_Call_method m.base m.few m.line PySem.F.plainAttrs_dict PySem.F.slot_dict_get PySem.F.type_dict_get (thn (ho.run pins s σ H _ I h) fun u s1 ⟨x, H1, I1, rx, a, kvs, ex, hr, ks, q1⟩ => ?_)
  subst ex
  obtain rfl : u = Value.ref a := rx
  obtain ⟨z, hd, xs, rel, dd⟩ := dn_of I1.hok hr ks
  refine ⟨dd.typeIs, fun b q => ?_, ?_⟩
  · cases q
    obtain ⟨ob, _, _, h1, h2, _⟩ := dd
    exact ⟨ob, h1, h2.2.1⟩
  rw [m.trees]
  refine wpAny_dict_get1_heap (knd := nestedKind X.prog X.w) (room_n hu) hd (thn (he.run pins s1 σ H1 _ I1 q1) fun iv s2 ⟨y, H2, I2, ry, ov, g, q2⟩ => ?_)
  obtain ⟨kvs2, k, b, e2, ks2, ey, eb, l⟩ := g
  subst ey
  cases (show iv = Value.ref b from ry)
  obtain ⟨z2, hd2, xs2, rel2, dd2⟩ := dn_of I2.hok e2 ks2
  refine ⟨b, k, xs2, rfl, key_is I2.hok eb, dd2, ov.getD .non, H2, I2.tok _, ?_, q2⟩
  rw [l]
  exact (rel2.val k).getD rfl
theorem pe_dgetN2 (hu : X.A.units + 64 < cLine) (ho : PE X o td) (he : PE X e ty) (hf : PE X f tx) (m : M2 X o "get" apos e f cpos) : PE X (.Call (.Attribute o "get" apos) [e, f] [] cpos) (tDGetN2 X.prog X.w td ty tx) := by
  refine ⟨fun pins s σ H Q I h => ?_⟩
  refine wpAny_Call_method m.base m.few m.line PySem.F.plainAttrs_dict PySem.F.slot_dict_get PySem.F.type_dict_get (thn (ho.run pins s σ H _ I h) fun u s1 ⟨x, H1, I1, rx, a, kvs, ex, hr, ks, q1⟩ => ?_)
  subst ex
  obtain rfl : u = Value.ref a := rx
  obtain ⟨z, hd, xs, rel, dd⟩ := dn_of I1.hok hr ks
  refine ⟨dd.typeIs, fun b q => ?_, ?_⟩
  · cases q
    obtain ⟨ob, _, _, h1, h2, _⟩ := dd
    exact ⟨ob, h1, h2.2.1⟩
  rw [m.trees]
  refine wpAny_dict_get2_heap (knd := nestedKind X.prog X.w) (room_n hu) hd (thn (he.run pins s1 σ H1 _ I1 q1) fun iv s2 ⟨y, H2, I2, ry, q2⟩ => thn (hf.run pins s2 σ H2 _ I2 q2) fun fv s3 ⟨z, H3, I3, rz, ov, g, q3⟩ => ?_)
  obtain ⟨kvs2, k, b, e2, ks2, ey, eb, l⟩ := g
  subst ey
  cases (show iv = Value.ref b from ry)
  obtain ⟨z2, hd2, xs2, rel2, dd2⟩ := dn_of I3.hok e2 ks2
  refine ⟨b, k, xs2, rfl, key_is I3.hok eb, dd2, ov.getD z, H3, I3.tok _, ?_, q3⟩
  rw [l]
  exact (rel2.val k).getD rz
end
theorem rd_dget1 {P : Program} {w : World} {td ty : TE} {σ : L2.St} {H : Hp} {Q : VK} (q : td σ H fun x H1 => zIsN9 P w x H1 fun a => ty σ H1 fun y H2 => zGet1 P w a y H2 Q) : tDGetN1 P w td ty σ H Q := q
theorem rd_dget2 {P : Program} {w : World} {td ty tx : TE} {σ : L2.St} {H : Hp} {Q : VK} (q : td σ H fun x H1 => zIsN9 P w x H1 fun a => ty σ H1 fun y H2 => tx σ H2 fun z H3 => zGet2 P w a y z H3 Q) : tDGetN2 P w td ty tx σ H Q := q
section
variable {κ α : Type} [DecidableEq κ] {kk : κ → NestedKey} {ek : κ → PyData} {e : α → PyData} {F0 H0 G G' H H' : Hp} {kvs : NKv} {l : List (κ × α)} {k : κ} {x : α} {v y : V} {a b : Addr} {Q : VK} {P : Program} {w : World}
theorem q_isN9 {R : Addr → Prop} (r : Rd H a (DN P w a kvs)) (f : FrN kk e F0 G kvs l) (s : Same G H) (q : R a) : zIsN9 P w (.ref a) H R := ⟨a, kvs, rfl, r, f.keys s, q⟩
theorem q_get1 (hk : KK ek kk) (r : Rd H a (DN P w a kvs)) (f : FrN kk e F0 G kvs l) (s : Same G H) (fy : Fr E0h H (.ref b) (ek k)) (q : ∀ v, Fr F0 G v (eO e (dget l k)) → Q v H) : zGet1 P w a (.ref b) H Q := by
  rcases f.get hk k with ⟨x', v, h1, h2, h3⟩ | ⟨h1, h2⟩
  · exact ⟨some v, ⟨kvs, kk k, b, r, f.keys s, rfl, key_at hk fy, h2.symm⟩, q v (by rw [h1]; exact h3)⟩
  · exact ⟨none, ⟨kvs, kk k, b, r, f.keys s, rfl, key_at hk fy, h2.symm⟩, q .non (by rw [h1]; exact .non)⟩
theorem q_get2 (hk : KK ek kk) (r : Rd H a (DN P w a kvs)) (f : FrN kk e F0 G kvs l) (s : Same G H) (fy : Fr E0h H (.ref b) (ek k)) (fx : Fr F0 G y (e x)) (q : ∀ v, Fr F0 G v (e ((dget l k).getD x)) → Q v H) : zGet2 P w a (.ref b) y H Q := by
  rcases f.get hk k with ⟨x', v, h1, h2, h3⟩ | ⟨h1, h2⟩
  · exact ⟨some v, ⟨kvs, kk k, b, r, f.keys s, rfl, key_at hk fy, h2.symm⟩, q v (by rw [h1]; exact h3)⟩
  · exact ⟨none, ⟨kvs, kk k, b, r, f.keys s, rfl, key_at hk fy, h2.symm⟩, q y (by rw [h1]; exact fx)⟩
end
/-! ### walked -/
def Itn (P : Program) (w : World) (d : Addr) (o : Obj) (kvs : NKv) : It :=
  ⟨fun i H => H d = some (.frz o (DN P w d kvs)) ∧ i < kvs.length, fun i H x H' => H' = H ∧ ∃ p, kvs[i]? = some p ∧ x = .ref p.2.1, fun i H => H d = some (.frz o (DN P w d kvs)) ∧ kvs.length ≤ i⟩
section
variable {X : Cx} {pins : List (Addr × Obj)} {σ : L2.St} {H : Hp} {s : Shared} {d : Addr} {o : Obj}
theorem _root_.L2.Inv.frzN {kvs : NKv} (I : Inv X pins σ H s) (h : H d = some (.frz o (DN X.prog X.w d kvs))) :
    (d == sysModules) = false ∧ s.heap.get? d = some o ∧ o.ExactDict ∧ ∃ (es : Array DictEntry) (ep : Nat), o.data = .dict es ep ∧ es.size = kvs.length ∧
      ∀ (i : Nat) p, kvs[i]? = some p → ∃ en : DictEntry, es[i]? = some en ∧ en.key = .ref p.2.1 := by
  obtain ⟨hd, ⟨z, hs, xs, pr, o', es, ep, ho, hx, hdt, he, _⟩, _⟩ := I.hok d _ h
  rw [hd] at ho
  cases ho
  refine ⟨hs, hd, hx, es, ep, hdt, ?_, fun i p e => ?_⟩
  · have l1 : es.size = xs.length := size_of_entries he
    have l2 : kvs.length = xs.length := Paired.length pr
    omega
  · obtain ⟨b, hb, e1, e2, _⟩ := L2.paired_get pr e
    have q := entry_at he i
    rw [hb] at q
    refine ⟨_, q, ?_⟩
    show Value.ref b.2.1 = _
    rw [e2]
end
section
variable {P : Program} {w : World} {K : PySem.W.Frag} {tg : Expr} {d : Addr} {o : Obj} {es : Array DictEntry} {ep : Nat}
theorem turn_keysN {kvs : NKv} (it : Addr) (hod : o.data = .dict es ep) : Turn P w K tg (Itn P w d o kvs) [it] it (fun i h => h.IsKeyIter it d i kvs.length ep) where
  mem := by simp
  obj := fun i h st b hb => by
    have e : b = it := by simpa using hb
    subst e
    obtain ⟨oi, e, c, dd⟩ := st
    exact ⟨oi, e, fun v z => by rw [dd] at z; cases z⟩
  keep := fun i h h' st k => st.at fun oi e => k it (by simp) oi e
  item := by
    intro X hP hw hK hc i pins s σ H E I hf st hg
    subst hP hw hK
    obtain ⟨hd, hi⟩ := hg
    obtain ⟨f0, f1, f2, f3, f4, f5⟩ := hf it (by simp)
    obtain ⟨hs, hgd, hx, es', ep', hdt, hsz, ent⟩ := I.frzN hd
    obtain ⟨rfl, rfl⟩ := dict_ep hod hdt
    obtain ⟨p, hkv⟩ : ∃ p, kvs[i]? = some p := ⟨kvs[i], List.getElem?_eq_getElem hi⟩
    obtain ⟨en, hen, hkey⟩ := ent i p hkv
    refine next_key_item st hgd hdt hsz hen fun h' st' sb => ?_
    have I1 : Inv X pins σ H { s with heap := h' } := I.turned (t' := s.toks) (fun b ob hb e => (sb.2 b hb).trans e) f0 f1 f3 f4 f5
    obtain ⟨oi, e, c, dd⟩ := id st'
    exact ⟨en.key, rfl, go_of (s := { s with heap := h' }) e c dd (by decide) ⟨.ref p.2.1, H, I1, hkey, ⟨rfl, p, hkv, rfl⟩, st', fun b hb => (hf b hb).1⟩⟩
  done := by
    intro X hP hw hK hc i pins s σ H E I hf st hg
    subst hP hw hK
    obtain ⟨hd, hi⟩ := hg
    obtain ⟨f0, f1, f2, f3, f4, f5⟩ := hf it (by simp)
    obtain ⟨hs, hgd, hx, es', ep', hdt, hsz, ent⟩ := I.frzN hd
    obtain ⟨rfl, rfl⟩ := dict_ep hod hdt
    exact next_key_end (I.ok.hd hc) st hgd hdt hsz hi fun h' eb => ⟨rfl, I.turned (t' := s.toks) (fun b ob hb e => eb b ob hb e) f0 f1 f3 f4 f5⟩
  self := fun A i s Q E st h => by
    refine wpAny_pyIter_slot st.typeIs F.slot_dict_keyiterator_iter (wpAny_call_entry F.slot_dict_keyiterator_iter st.typeIs F.entry_dict_keyiterator_iter ?_ (F.args_dict_keyiterator_iter_1 _))
    show wpAny _ _ (ret (.ref it)) _ _ s
    exact wpAny_pure ⟨_, rfl, "dict_keyiterator", _, st.typeIs, F.slot_dict_keyiterator_next.lookup, h⟩
end
def zKeysN (P : Program) (w : World) (x : V) (H : Hp) (R : It → Hp → Prop) : Prop := ∃ d o kvs, x = .ref d ∧ H d = some (.frz o (DN P w d kvs)) ∧ R (Itn P w d o kvs) H
def iKeysN (P : Program) (w : World) (td : TE) : TI := fun σ H R => td σ H fun x H1 => zKeysN P w x H1 R
theorem pi_keysN {X : Cx} {tg e : Expr} {td : TE} (he : PE X e td) : PI X tg e (iKeysN X.prog X.w td) := by
  refine ⟨fun pins s σ H R I h => ?_⟩
  refine thn (he.run pins s σ H _ I h) fun u s1 ⟨x, H1, I1, rx, d, o, kvs, ex, hd, q⟩ => ?_
  subst ex
  obtain rfl : u = Value.ref d := rx
  obtain ⟨hs, hgd, hx, es, ep, hdt, hsz, ent⟩ := I1.frzN hd
  refine iter_keys hs hgd hx hdt (pi_one (tk := s1.toks) I1 _ (turn_keysN _ hdt) ⟨_, Heap.get?_push_size _ rfl, rfl, ?_⟩ q)
  rw [hsz] <;> rfl
theorem rd_iKeysN {P : Program} {w : World} {td : TE} {σ : L2.St} {H : Hp} {R : It → Hp → Prop} (q : td σ H fun x H1 => zKeysN P w x H1 R) : iKeysN P w td σ H R := q
section
variable {κ α : Type} [DecidableEq κ] {kk : κ → NestedKey} {ek : κ → PyData} {e : α → PyData} {F0 H0 G G' H H' : Hp} {kvs : NKv} {l : List (κ × α)} {a : Addr} {P : Program} {w : World} {od : Obj}
theorem q_keysN {R : It → Hp → Prop} (h : H a = some (.frz od (DN P w a kvs))) (q : R (Itn P w a od kvs) H) : zKeysN P w (.ref a) H R := ⟨a, od, kvs, rfl, h, q⟩
theorem frn_at : ∀ {l : List (κ × α)} {kvs : NKv} {i : Nat} {p : κ × α} {q : NestedKey × Addr × V}, FrN kk e F0 G kvs l → l[i]? = some p → kvs[i]? = some q → KeyAt G (kk p.1) q.2.1
  | [], _, i, _, _, _, h, _ => by simp at h
  | r :: l, kvs, i, p, q, f, h, h2 => by
    cases f with
    | cons f1 f2 f3 =>
      cases i with
      | zero =>
        cases h
        cases h2
        exact f1
      | succ i => exact frn_at f3 (by simpa using h) (by simpa using h2)
theorem w_keysN (hk : KK ek kk) (f : FrN kk e F0 G kvs l) : Walk (Itn P w a od kvs) (l.map (·.1)).length (fun H => H a = some (.frz od (DN P w a kvs))) (fun i H v H' => H' = H ∧ ∀ x, (l.map (·.1))[i]? = some x → Fr E0h G v (ek x)) where
  goes := fun i H hi h => ⟨h, by rw [f.len]; simpa using hi⟩
  stops := fun H h => ⟨h, by rw [f.len, List.length_map]; exact Nat.le_refl _⟩
  yields := fun i H x H' hi h y => by
    obtain ⟨rfl, p, hp, rfl⟩ := y
    refine ⟨rfl, fun k hk' => ?_⟩
    rw [List.getElem?_map] at hk'
    obtain ⟨r, hr, rfl⟩ := Option.map_eq_some_iff.mp hk'
    have := (frn_at f hr hp).1
    rw [hk.data] at this
    exact this
end
/-! ### given back -/
mutual
theorem nested_flat : ∀ k : NestedKey, flatD k.data = true
  | .none => by simp only [NestedKey.data, flatD]
  | .num i => by simp only [NestedKey.data, flatD]
  | .text x => by simp only [NestedKey.data, flatD]
  | .tup ks => by simp only [NestedKey.data, flatD, nested_flats ks]
theorem nested_flats : ∀ ks : List NestedKey, flatDs (NestedKey.datas ks) = true
  | [] => by simp only [NestedKey.datas, flatDs]
  | k :: ks => by simp only [NestedKey.datas, flatDs, nested_flat k, nested_flats ks, Bool.and_self]
end
section
variable {ms : List Addr} {H0 G H H' G1 : Hp} {cs : List (Addr × HO)}
theorem Sep.ret0D (S : Sep ms H0 G H cs) (R : Ret [] H G1 H') : ∃ G', Sep ms H0 G' H' cs ∧ Same G G' ∧ (∀ v d, Fr H G1 v d → Fr H0 G' v d) ∧ (∀ v d, FrL H G1 v d → FrL H0 G' v d) ∧ ∀ b, H b = none → G' b = G1 b ∧ H0 b = none := by
  have sG : Same G (hid G1 (cs.map (·.1))) := fun b o e => by
    have n : b ∉ cs.map (·.1) := fun z => by
      obtain ⟨c, hc, rfl⟩ := List.mem_map.mp z
      rw [(S.cel c hc).2.1] at e
      cases e
    rw [hid_out n]
    exact R.base b o (S.sub b o e) fun z => nomatch z
  have hc : ∀ c ∈ cs, H' c.1 = some c.2 ∧ ∀ xs, c.2 ≠ .tup xs := fun c hc => ⟨R.sub _ _ (R.base _ _ (S.cel c hc).1 List.not_mem_nil), (S.cel c hc).2.2⟩
  have k1 : ∀ a xs, G1 a = some (.lst xs) → H a = none → hid G1 (cs.map (·.1)) a = some (.lst xs) ∧ H0 a = none := fun a xs e n => ⟨by rw [hid_out (S.cne n)]; exact e, S.old a n⟩
  have k2 : ∀ a xs, G1 a = some (.tup xs) → hid G1 (cs.map (·.1)) a = some (.tup xs) := fun a xs e => by
    rw [hid_out ?_]
    · exact e
    · intro z
      obtain ⟨c, hc', rfl⟩ := List.mem_map.mp z
      have := (hc c hc').1
      rw [R.sub _ _ e] at this
      exact (hc c hc').2 xs (Option.some.inj this).symm
  have k3 : ∀ a xs, Rd G1 a (.dK xs) → H a = none → Rd (hid G1 (cs.map (·.1))) a (.dK xs) ∧ H0 a = none := fun a xs e n => ⟨by unfold Rd; rw [hid_out (S.cne n)]; exact e, S.old a n⟩
  refine ⟨hid G1 (cs.map (·.1)), ⟨fun b o e => R.sub b o (hid_some e).2, fun c hc' => ⟨(hc c hc').1, hid_in (List.mem_map_of_mem hc'), (hc c hc').2⟩, S.nd, S.msc, S.hms, fun b e => S.old b (R.old b e), fun b o e n => sG b o (S.base b o e n), fun b xs e => k2 b xs (R.tups b xs e)⟩, sG, fun v d f => f.move k1 k2 k3, fun v d f => f.move k1 k2 k3, fun b n => ⟨hid_out (S.cne n), S.old b n⟩⟩
theorem FrD.back {κ α : Type} {P : Program} {w : World} {kk : κ → NestedKey} {e : α → PyData} {a : Addr} {l : List (κ × α)} {G' : Hp} (f : FrD P w kk e H G1 a l) (k : ∀ b, H b = none → G' b = G1 b ∧ H0 b = none) (m : ∀ v d, Fr H G1 v d → Fr H0 G' v d) : FrD P w kk e H0 G' a l := by
  obtain ⟨kvs, h, n, g⟩ := f
  refine ⟨kvs, ?_, (k a n).2, ?_⟩
  · unfold Rd
    rw [(k a n).1]
    exact h
  · clear h
    induction g with
    | nil => exact .nil
    | cons h1 h2 _ ih => exact .cons ⟨(m _ _ (h1.1.imm (nested_flat _))).rp, h1.2⟩ (m _ _ h2) ih
end
/-! ### {text: x} -/
def zDispT (p : Addr) (x y : V) (H : Hp) (Q : VK) : Prop := H p = some (.dK []) ∧ ∃ kvs : List (Key × V), [(x, y)] = kvs.map (fun kv => (kV kv.1, kv.2)) ∧ kvs.length ≤ 15 ∧ Q (.ref p) (upd H p (.dK (mergeK [] kvs)))
theorem rd_dispT {tk tv : TE} {σ : L2.St} {H : Hp} {Q : VK} (q : ∀ p, H p = none → tk σ (upd H p (.dK [])) fun x H1 => tv σ H1 fun y H2 => zDispT p x y H2 Q) : tDisp [(tk, tv)] σ H Q := q
section
variable {κ α : Type} [DecidableEq κ] {kk : κ → Key} {e : α → PyData} {F0 H0 G H : Hp} {k : κ} {x : α} {v y : V} {a : Addr} {ms : List Addr} {cs : List (Addr × HO)} {Q : VK}
theorem q_dispT0 (S : Sep ms H0 G H cs) (hp : H a = none) : Sep ms H0 G (upd H a (.dK [])) ((a, .dK []) :: cs) ∧ H0 a = none := ⟨S.own hp dk_tup, S.old a hp⟩
theorem q_dispT (S : Sep ms H0 G H ((a, .dK []) :: cs)) (ey : y = kV (kk k)) (fv : Fr F0 G v (e x)) (q : ∀ us H', Sep ms H0 G H' ((a, .dK us) :: cs) → FrK F0 G us ([(k, x)].map fun p => (dKey (kk p.1), e p.2)) → Q (.ref a) H') : zDispT a y v H Q := by
  subst ey
  exact ⟨S.get 0 rfl, [(kk k, v)], rfl, (show 1 ≤ 15 by decide), q _ _ (S.put 0 rfl dk_tup) (.cons fv .nil)⟩
end
end LQ

/-! What a def gives back may hold what it was given. -/
namespace LQ
open PySem PySem.Spec PyProof.Rows L2 LX
section
variable {ms : List Addr} {F0 F1 H0 G H H' G1 : Hp} {cs : List (Addr × HO)} {v : V} {d : PyData} {vs : List V} {ds : List PyData} {kvs : List (Key × V)} {kds : List (PyData × PyData)} {p : Addr}
theorem Fr.rq (f : Fr F0 G v d) (h : ∀ b, F0 b = none → F1 b = none) : Fr F1 G v d := f.move (fun _ _ e n => ⟨e, h _ n⟩) (fun _ _ e => e) fun _ _ e n => ⟨e, h _ n⟩
theorem FrL.rq (f : FrL F0 G vs ds) (h : ∀ b, F0 b = none → F1 b = none) : FrL F1 G vs ds := f.move (fun _ _ e n => ⟨e, h _ n⟩) (fun _ _ e => e) fun _ _ e n => ⟨e, h _ n⟩
theorem FrK.rq (f : FrK F0 G kvs kds) (h : ∀ b, F0 b = none → F1 b = none) : FrK F1 G kvs kds := f.move (fun _ _ e n => ⟨e, h _ n⟩) (fun _ _ e => e) fun _ _ e n => ⟨e, h _ n⟩
/-- what the caller writes -/
def ownF (H : Hp) (cs : List (Addr × HO)) : Hp := fun b => if b ∈ cs.map (·.1) then H b else none
theorem ownF_non {b : Addr} (n : H b = none) : ownF H cs b = none := by
  unfold ownF
  split
  · exact n
  · rfl
theorem ownF_out {b : Addr} (n : b ∉ cs.map (·.1)) : ownF H cs b = none := by unfold ownF; rw [if_neg n]
theorem ownF_in {b : Addr} (S : Sep ms H0 G H cs) (n : ownF H cs b = none) : b ∉ cs.map (·.1) := fun z => by
  unfold ownF at n
  rw [if_pos z] at n
  obtain ⟨c, hc, rfl⟩ := List.mem_map.mp z
  rw [(S.cel c hc).1] at n
  cases n
theorem Sep.gout (S : Sep ms H0 G H cs) {b : Addr} {o : HO} (e : G b = some o) : b ∉ cs.map (·.1) := fun z => by
  obtain ⟨c, hc, rfl⟩ := List.mem_map.mp z
  rw [(S.cel c hc).2.1] at e
  cases e
theorem rd_some {G : Hp} {a : Addr} {u : HO} (h : Rd G a u) : ∃ o, G a = some o := by rcases h with h | ⟨o, h⟩ <;> exact ⟨_, h⟩
theorem Fr.own (f : Fr F0 G v d) (S : Sep ms H0 G H cs) : Fr (ownF H cs) H v d :=
  f.move (fun a _ e _ => ⟨S.sub _ _ e, ownF_out (S.gout e)⟩) (fun _ _ e => S.sub _ _ e) fun a _ e _ => ⟨rd_same e S.sub, let ⟨_, h⟩ := rd_some e; ownF_out (S.gout h)⟩
theorem Sep.ret0A (S : Sep ms H0 G H cs) (R : Ret [] H G1 H') : ∃ G', Sep ms H0 G' H' cs ∧ Same G G' ∧ (∀ v d, Fr H G1 v d → Fr H0 G' v d) ∧ (∀ v d, FrL H G1 v d → FrL H0 G' v d) ∧ ∀ v d, Fr (ownF H cs) G1 v d → Fr E0h G' v d := by
  have sG : Same G (hid G1 (cs.map (·.1))) := fun b o e => by
    rw [hid_out (S.gout e)]
    exact R.base b o (S.sub b o e) fun z => nomatch z
  have hc : ∀ c ∈ cs, H' c.1 = some c.2 ∧ ∀ xs, c.2 ≠ .tup xs := fun c hc => ⟨R.sub _ _ (R.base _ _ (S.cel c hc).1 List.not_mem_nil), (S.cel c hc).2.2⟩
  have k1 : ∀ a xs, G1 a = some (.lst xs) → H a = none → hid G1 (cs.map (·.1)) a = some (.lst xs) ∧ H0 a = none := fun a xs e n => ⟨by rw [hid_out (S.cne n)]; exact e, S.old a n⟩
  have k2 : ∀ a xs, G1 a = some (.tup xs) → hid G1 (cs.map (·.1)) a = some (.tup xs) := fun a xs e => by
    rw [hid_out ?_]
    · exact e
    · intro z
      obtain ⟨c, hc', rfl⟩ := List.mem_map.mp z
      have := (hc c hc').1
      rw [R.sub _ _ e] at this
      exact (hc c hc').2 xs (Option.some.inj this).symm
  have k3 : ∀ a xs, Rd G1 a (.dK xs) → H a = none → Rd (hid G1 (cs.map (·.1))) a (.dK xs) ∧ H0 a = none := fun a xs e n => ⟨by unfold Rd; rw [hid_out (S.cne n)]; exact e, S.old a n⟩
  refine ⟨hid G1 (cs.map (·.1)), ⟨fun b o e => R.sub b o (hid_some e).2, fun c hc' => ⟨(hc c hc').1, hid_in (List.mem_map_of_mem hc'), (hc c hc').2⟩, S.nd, S.msc, S.hms, fun b e => S.old b (R.old b e), fun b o e n => sG b o (S.base b o e n), fun b xs e => k2 b xs (R.tups b xs e)⟩, sG, fun v d f => f.move k1 k2 k3, fun v d f => f.move k1 k2 k3,
    fun v d f => f.move (H0' := E0h) (fun a xs e n => ⟨by rw [hid_out (ownF_in S n)]; exact e, rfl⟩) k2 fun a xs e n => ⟨by unfold Rd; rw [hid_out (ownF_in S n)]; exact e, rfl⟩⟩
/-- an owned list, dict is only read from here on; its elements may be old -/
theorem Sep.fixLF (S : Sep ms H0 G H cs) (i : Nat) (h : cs[i]? = some (p, .lst vs)) (hm : p ∉ ms) (f : FrL F0 G vs ds) (n : F0 p = none) : ∃ G', Sep ms H0 G' H (cs.eraseIdx i) ∧ Same G G' ∧ Fr F0 G' (.ref p) (.list ds) :=
  ⟨_, S.fix i h hm, sNew (S.gnone i h), .lst upd_same n (f.same (sNew (S.gnone i h)))⟩
theorem FrK.same' {G' : Hp} (h : FrK F0 G kvs kds) (s : Same G G') : FrK F0 G' kvs kds := h.move (fun _ _ e n => ⟨s _ _ e, n⟩) (fun _ _ e => s _ _ e) fun _ _ e n => ⟨rd_same e s, n⟩
theorem Sep.fixDF (S : Sep ms H0 G H cs) (i : Nat) (h : cs[i]? = some (p, .dK kvs)) (hm : p ∉ ms) (f : FrK F0 G kvs kds) (n : F0 p = none) : ∃ G', Sep ms H0 G' H (cs.eraseIdx i) ∧ Same G G' ∧ Fr F0 G' (.ref p) (.dict kds) :=
  ⟨_, S.fix i h hm, sNew (S.gnone i h), .dic (Or.inl upd_same) n (f.same' (sNew (S.gnone i h)))⟩
end
end LQ

/-! ### repr of plain values too -/
namespace LX
open PySem PySem.Spec PyProof.Rows L2
def shV : V → Str
  | .non => Str.ofString "None"
  | .bl b => if b = true then Str.ofString "True" else Str.ofString "False"
  | .int i => Str.ofString (toString i)
  | .str x => reprText x
  | _ => Str.ofString ""
def FitV : V → Prop
  | .non => True
  | .bl _ => True
  | .int i => i.natAbs.log2 < 1920
  | .str x => (reprText x).length ≤ sizeLine
  | _ => False
def qRepr2 (K : PySem.W.Frag) : List V → Hp → VK → Prop := fun vs H Q => (∃ v, vs = [v] ∧ FitV v ∧ Q (.str (shV v)) H) ∨ qRepr K vs H Q
theorem krepr2 {X : Cx} {K : PySem.W.Frag} (quiet : X.A.guards = some []) (hu : X.A.units + 64 < cLine) (h : X.K = K := by rfl) : CallR X (.builtin "repr") (qRepr2 K) := by
  intro pins s σ H vs us Q I r want
  rcases want with ⟨v, rfl, fit, q⟩ | want
  · obtain ⟨u, rfl, ru⟩ : ∃ u, us = [u] ∧ RelV v u := by
      cases r with
      | cons r1 r2 =>
        cases r2
        exact ⟨_, rfl, r1⟩
    cases v with
    | non =>
      obtain rfl : u = Value.none := ru
      exact PySem.P.repr_of_none ⟨.str _, H, I.tok _, ⟨_, rfl⟩, q⟩
    | bl b =>
      obtain rfl : u = Value.bool b := ru
      refine PySem.P.repr_of_bool ⟨.str (shV (.bl b)), H, I.tok _, ⟨_, rfl⟩, q⟩
    | int i =>
      obtain ⟨t, rfl⟩ := ru
      exact PySem.P.repr_of_int fit ⟨.str _, H, I.tok _, ⟨_, rfl⟩, q⟩
    | str x =>
      obtain ⟨t, rfl⟩ := ru
      exact PySem.P.repr_of_str ⟨.str _, H, I.tok _, ⟨_, rfl⟩, q⟩ fit
    | _ => exact fit.elim
  · exact krepr quiet hu h pins s σ H vs us Q I r want
theorem fit_int {n : Nat} (h : n ≤ 1000) : FitV (.int (n : Int)) := by
  show (n : Int).natAbs.log2 < 1920
  have e : (n : Int).natAbs = n := Int.natAbs_natCast n
  rw [e]
  refine Nat.lt_of_le_of_lt ?_ (show 1000 < 1920 by decide)
  exact Nat.le_trans (Nat.log2_le_self n) h
theorem fit_txt {cs : List Nat} (h : cs.length ≤ 1000) (hc : ∀ c ∈ cs, c ≤ 122) : FitV (.str (txt cs)) := by
  have := PySem.StrLaws.reprText_len (txt cs) (fun c hm => by
    have h1 := hc c (by simpa using hm)
    have : (122 : Nat) < 16 ^ 8 := by decide
    omega)
  have e2 := txt_len cs
  have e := sizeLine_eq
  refine Nat.le_trans this ?_
  rw [e2, e]
  omega
theorem fit_chr {c : Nat} (h : c ≤ 122) : FitV (sg c) := fit_txt (cs := [c]) (by show 1 ≤ 1000; decide) (fun d hd => by
  rw [List.mem_singleton] at hd
  rw [hd]
  exact h)
end LX

/-! rules with the program and the world named; repr of any value. -/
namespace LQ
open PySem PySem.Spec PyProof.Rows L2 LX
section
variable {P : Program} {w : World} {X : Cx} {o i e f value : Expr} {pos pos' apos cpos : Pos} {td ty tx tv : TE}
theorem pe_dgetP (hu : X.A.units + 64 < cLine) (ho : PE X o td) (hi : PE X i ty) (hs : NoSl i) (hP : X.prog = P := by rfl) (hw : X.w = w := by rfl) : PE X (.Subscript o i pos) (tDGetN P w td ty) := by subst hP hw; exact pe_dgetN hu ho hi hs
theorem pc_dinP (hu : X.A.units + 64 < cLine) (hi : PE X i ty) (ho : PE X o td) (hP : X.prog = P := by rfl) (hw : X.w = w := by rfl) : PC X .In i o (tDInN P w ty td) := by subst hP hw; exact pc_dinN hu hi ho
theorem pc_dnotinP (hu : X.A.units + 64 < cLine) (hi : PE X i ty) (ho : PE X o td) (hP : X.prog = P := by rfl) (hw : X.w = w := by rfl) : PC X .NotIn i o (tDNotInN P w ty td) := by subst hP hw; exact pc_dnotinN hu hi ho
theorem pe_dgetP1 (hu : X.A.units + 64 < cLine) (ho : PE X o td) (he : PE X e ty) (m : M1 X o "get" apos e cpos) (hP : X.prog = P := by rfl) (hw : X.w = w := by rfl) : PE X (.Call (.Attribute o "get" apos) [e] [] cpos) (tDGetN1 P w td ty) := by subst hP hw; exact pe_dgetN1 hu ho he m
theorem pe_dgetP2 (hu : X.A.units + 64 < cLine) (ho : PE X o td) (he : PE X e ty) (hf : PE X f tx) (m : M2 X o "get" apos e f cpos) (hP : X.prog = P := by rfl) (hw : X.w = w := by rfl) : PE X (.Call (.Attribute o "get" apos) [e, f] [] cpos) (tDGetN2 P w td ty tx) := by subst hP hw; exact pe_dgetN2 hu ho he hf m
theorem pi_keysP {tg : Expr} (he : PE X e td) (hP : X.prog = P := by rfl) (hw : X.w = w := by rfl) : PI X tg e (iKeysN P w td) := by subst hP hw; exact pi_keysN he
end
def reprAF : PyData → Option Str
  | .none => some (Str.ofString "None")
  | .bool b => some (if b = true then Str.ofString "True" else Str.ofString "False")
  | .int i => cond (decide (i.natAbs.log2 < 1920)) (some (Str.ofString (toString i))) none
  | .str x => cond (decide ((PySem.reprText x).length ≤ sizeLine)) (some (PySem.reprText x)) none
  | d => reprF d
theorem q_reprA {K : PySem.W.Frag} {F0 H : Hp} {v : V} {d : PyData} {s : Str} {Q : VK} (f : Fr F0 H v d) (h : reprAF d = some s) (q : Q (.str s) H) : qRepr2 K [v] H Q := by
  cases f with
  | non => cases som h; exact Or.inl ⟨_, rfl, True.intro, q⟩
  | bl b => cases som h; exact Or.inl ⟨_, rfl, True.intro, q⟩
  | int i =>
    obtain ⟨h1, h2⟩ := grd (show cond _ _ _ = _ from h)
    cases som h2
    have h3 : i.natAbs.log2 < 1920 := of_decide_eq_true h1
    exact Or.inl ⟨_, rfl, h3, q⟩
  | str x =>
    obtain ⟨h1, h2⟩ := grd (show cond _ _ _ = _ from h)
    cases som h2
    have h3 : (PySem.reprText x).length ≤ sizeLine := of_decide_eq_true h1
    exact Or.inl ⟨_, rfl, h3, q⟩
  | lst a b c => exact Or.inr (q_repr (.lst a b c) h q)
  | tup a b => exact Or.inr (q_repr (.tup a b) h q)
  | dic a b c => exact Or.inr (q_repr (.dic a b c) h q)
end LQ

/-! text.count from a place to a place -/
namespace LQ
open PySem L2 LX
def zCount3 (x : V) (xs : List V) (H : Hp) (Q : VK) : Prop := ∃ (a b : Str) (i j : Int), x = .str a ∧ xs = [.str b, .int i, .int j] ∧ Q (.int (Txt.countIn a b i j)) H
theorem kcount3 {X : Cx} : MtR X "str.count" zCount3 := mt_count4
end LQ

/-! A dict that a def makes and gives back belongs to its caller; one that is shown for a time is taken back. -/
namespace LQ
open PySem PySem.Spec PyProof.Rows L2 LX
section
variable {ms : List Addr} {F0 H0 G G2 H H' G1 : Hp} {cs : List (Addr × HO)} {a : Addr} {w kvs : List (Key × V)} {ds : List (PyData × PyData)}
theorem Sep.fixDo (S : Sep ms H0 G H cs) (i : Nat) (h : cs[i]? = some (a, .dK kvs)) (hm : a ∉ ms) (f : FrK F0 G kvs ds) (n : F0 a = none) : ∃ G', Sep ms H0 G' H (cs.eraseIdx i) ∧ Same G G' ∧ Fr F0 G' (.ref a) (.dict ds) ∧ ∃ w, G' a = some (.dK w) :=
  ⟨_, S.fix i h hm, sNew (S.gnone i h), .dic (Or.inl upd_same) n (f.same (sNew (S.gnone i h))), _, upd_same⟩
theorem Sep.unshareD (S : Sep ms H0 G2 H' cs) (f : Fr H0 G2 (.ref a) (.dict ds)) (h1 : G2 a = some (.dK w)) : ∃ G', Sep ms H0 G' H' ((a, .dK w) :: cs) ∧ H0 a = none ∧ FrK H0 G' w ds ∧ (∀ G0, Same G0 G2 → G0 a = none → Same G0 G') ∧ ∀ F0 vs ds, FrL F0 G2 vs ds → flatDs ds = true → FrL F0 G' vs ds := by
  obtain ⟨kvs, h0, h2⟩ := di f
  have e : kvs = w := by
    rcases h0 with h0 | ⟨o, h0⟩ <;> rw [h1] at h0
    · injection h0 with h0; injection h0 with h0; exact h0.symm
    · cases h0
  subst e
  have n0 := di0 f
  have out : ∀ b, b ≠ a → hid G2 [a] b = G2 b := fun b hb => hid_out fun z => hb (List.mem_singleton.mp z)
  refine ⟨hid G2 [a], ⟨fun b o e => S.sub b o (hid_some e).2, fun c hc => ?_, List.nodup_cons.mpr ⟨fun z => ?_, S.nd⟩, fun p hp => List.mem_cons_of_mem _ (S.msc p hp), S.hms, S.old, fun b o e n => ?_, fun b xs e => ?_⟩, n0, FrK.off f h2 (by simp), fun G0 s n b o e => ?_, fun F0 vs ds h e => h.hidF (fun p hp xs z => ?_) e⟩
  · rcases List.mem_cons.mp hc with z | z
    · rw [z]
      exact ⟨S.sub _ _ h1, hid_in (List.mem_singleton.mpr rfl), dk_tup⟩
    · obtain ⟨k1, k2, k3⟩ := S.cel c z
      refine ⟨k1, ?_, k3⟩
      by_cases e : c.1 = a
      · exact hid_in (List.mem_singleton.mpr e)
      · rw [out _ e]
        exact k2
  · obtain ⟨c, hc, e⟩ := List.mem_map.mp z
    have := (S.cel c hc).2.1
    rw [e, h1] at this
    cases this
  · rw [out b fun z => by rw [z, n0] at e; cases e]
    exact S.base b o e n
  · have g := S.tups b xs e
    rw [out b fun z => by rw [z, h1] at g; cases g]
    exact g
  · rw [out b fun z => by rw [z, n] at e; cases e]
    exact s b o e
  · rw [List.mem_singleton.mp hp, h1] at z
    cases z
theorem Sep.ret0P (S : Sep ms H0 G H cs) (R : Ret [] H G1 H') (f : Fr H G1 (.ref a) (.dict ds)) (p : ∃ w, G1 a = some (.dK w)) : ∃ G' w, Sep ms H0 G' H' ((a, .dK w) :: cs) ∧ Same G G' ∧ H0 a = none ∧ FrK H0 G' w ds := by
  obtain ⟨w, p⟩ := p
  obtain ⟨G2, S2, s2, t2, _, b2⟩ := S.ret0D R
  have n := di0 f
  have p2 : G2 a = some (.dK w) := by rw [(b2 a n).1]; exact p
  obtain ⟨G3, S3, n3, f3, u3, _⟩ := S2.unshareD (t2 _ _ f) p2
  exact ⟨G3, w, S3, u3 _ s2 (S.gfree n), n3, f3⟩
end
end LQ

/-! What the functions of the programs give: rules for their parts. -/
namespace LQ
open PySem L2 LX
def Ev {α : Type} (o : Option α) (P : α → Prop) : Prop := ∃ x, o = some x ∧ P x
section
variable {α β S R : Type}
theorem ev_s {P : α → Prop} {x : α} (h : P x) : Ev (some x) P := ⟨x, rfl, h⟩
theorem ev_b {o : Option α} {f : α → Option β} {P : α → Prop} {Q : β → Prop} (h : Ev o P) (k : ∀ x, P x → Ev (f x) Q) : Ev (o.bind f) Q := by
  obtain ⟨x, rfl, h⟩ := h
  exact k x h
theorem ev_be {o : Option α} {f : α → Option β} {x : α} {Q : β → Prop} (h : o = some x) (k : Ev (f x) Q) : Ev (o.bind f) Q := by
  rw [h]
  exact k
theorem ev_c {c : Bool} {a b : Option α} {P : α → Prop} (h1 : c = true → Ev a P) (h2 : c = false → Ev b P) : Ev (cond c a b) P := by
  cases c with
  | true => exact h1 rfl
  | false => exact h2 rfl
theorem be {o : Option α} {f : α → Option β} {x : α} {r : Option β} (h : o = some x) (k : f x = r) : o.bind f = r := by
  rw [h]
  exact k
theorem be_ev {o : Option α} {f : α → Option β} {P : α → Prop} {r : Option β} (h : Ev o P) (k : ∀ x, P x → f x = r) : o.bind f = r := by
  obtain ⟨x, rfl, h⟩ := h
  exact k x h
theorem Ev.imp {o : Option α} {P Q : α → Prop} (h : Ev o P) (k : ∀ x, P x → Q x) : Ev o Q := by
  obtain ⟨x, e, h⟩ := h
  exact ⟨x, e, k x h⟩
theorem ev_loop {f : α → S → Option S} {P : S → Prop} : ∀ {l : List α} {s : S} (I : Nat → S → Prop), I 0 s → (∀ i x s, l[i]? = some x → I i s → Ev (f x s) (I (i + 1))) → (∀ s, I l.length s → P s) → Ev (loopF f l s) P
  | [], s, I, h0, _, k => ⟨s, rfl, k s h0⟩
  | x :: xs, s, I, h0, st, k => by
    refine ev_b (st 0 x s rfl h0) fun s1 h1 => ?_
    exact ev_loop (l := xs) (s := s1) (fun i s => I (i + 1) s) h1 (fun i y s2 e h2 => st (i + 1) y s2 e h2) (fun s2 h2 => k s2 h2)
theorem loop_fold {f : α → S → Option S} {g : S → α → S} : ∀ {l : List α} {s : S} (I : Nat → S → Prop), I 0 s → (∀ i x s, l[i]? = some x → I i s → f x s = some (g s x) ∧ I (i + 1) (g s x)) → loopF f l s = some (l.foldl g s)
  | [], s, I, _, _ => rfl
  | x :: xs, s, I, h0, st => by
    obtain ⟨h1, h2⟩ := st 0 x s rfl h0
    show (f x s).bind _ = _
    rw [h1]
    exact loop_fold (l := xs) (fun i s => I (i + 1) s) h2 fun i y s2 e h => st (i + 1) y s2 e h
/-- a loop that never gives back from within -/
theorem loop_all {f : α → S → Option (Ctl R S)} {P : Ctl R S → Prop} : ∀ {l : List α} {s : S} (I : Nat → S → Prop), I 0 s → (∀ i x s, l[i]? = some x → I i s → Ev (f x s) fun c => ∃ s', c = .nx s' ∧ I (i + 1) s') → (∀ s, I l.length s → P (.nx s)) → Ev (loopC f l s) P
  | [], s, I, h0, _, k => ⟨_, rfl, k s h0⟩
  | x :: xs, s, I, h0, st, k => by
    obtain ⟨c, e, s1, rfl, h1⟩ := st 0 x s rfl h0
    show Ev ((f x s).bind _) P
    rw [e]
    exact loop_all (l := xs) (s := s1) (fun i s => I (i + 1) s) h1 (fun i y s2 e h2 => st (i + 1) y s2 e h2) (fun s2 h2 => k s2 h2)
theorem compF_map {f : α → Option (Option β)} {g : α → β} : ∀ {l : List α}, (∀ x ∈ l, f x = some (some (g x))) → compF f l = some (l.map g)
  | [], _ => rfl
  | x :: xs, h => by
    show (f x).bind _ = _
    rw [h x List.mem_cons_self]
    show (compF f xs).bind _ = _
    rw [compF_map fun y hy => h y (List.mem_cons_of_mem _ hy)]
    rfl
theorem compF_filt {f : α → Option (Option β)} {q : α → Bool} {g : α → β} : ∀ {l : List α}, (∀ x ∈ l, f x = some (if q x = true then some (g x) else none)) → compF f l = some ((l.filter q).map g)
  | [], _ => rfl
  | x :: xs, h => by
    show (f x).bind _ = _
    rw [h x List.mem_cons_self]
    show (compF f xs).bind _ = _
    rw [compF_filt fun y hy => h y (List.mem_cons_of_mem _ hy)]
    cases c : q x with
    | true => rw [List.filter_cons_of_pos c]; rfl
    | false => rw [List.filter_cons_of_neg (by simp [c])]; rfl
theorem compL_map {f : α → Option (Option β)} {g : α → β} {l : List α} (z : l.length ≤ LIM) (h : ∀ x ∈ l, f x = some (some (g x))) : compL f l = some (l.map g) := by
  unfold compL
  rw [decide_eq_true z]
  exact compF_map h
theorem compL_filt {f : α → Option (Option β)} {q : α → Bool} {g : α → β} {l : List α} (z : l.length ≤ LIM) (h : ∀ x ∈ l, f x = some (if q x = true then some (g x) else none)) : compL f l = some ((l.filter q).map g) := by
  unfold compL
  rw [decide_eq_true z]
  exact compF_filt h
theorem compT_filt {f : α → Option (Option Str)} {q : α → Bool} {g : α → Str} {l : List α} (z : l.length ≤ 4000) (h : ∀ x ∈ l, f x = some (if q x = true then some (g x) else none)) : compT f l = some ((l.filter q).map g) := by
  unfold compT
  rw [decide_eq_true z]
  exact compF_filt h
/-! ### numbers -/
theorem modF_ok {a b : Int} (h : 0 < b) : modF a b = some (a % b) := by unfold modF; rw [decide_eq_true h]; rfl
theorem divF_ok {a b : Int} (h : 0 < b) (h2 : b.natAbs < 2 ^ 1000) : divF a b = some (a / b) := by unfold divF; rw [decide_eq_true h, decide_eq_true h2]; rfl
theorem powF_ok {a b : Int} (h : 0 ≤ b) (h2 : b ≤ 1000) (h3 : a.natAbs < 2 ^ 1000) : powF a b = some (a ^ b.toNat) := by unfold powF; rw [decide_eq_true h, decide_eq_true h2, decide_eq_true h3]; rfl
theorem mulF_ok {a b : Int} (h : a.natAbs < 2 ^ 100000) (h2 : b.natAbs < 2 ^ 100000) : mulF a b = some (a * b) := by unfold mulF; rw [decide_eq_true h, decide_eq_true h2]; rfl
theorem rngF_ok {a b : Int} (h : -(2 ^ 62) ≤ a) (h2 : a < 2 ^ 62) (h3 : -(2 ^ 62) ≤ b) (h4 : b < 2 ^ 62) : rngF a b = some (rgI a b) := by unfold rngF; rw [decide_eq_true h, decide_eq_true h2, decide_eq_true h3, decide_eq_true h4]; rfl
theorem lrgF_ok {a b : Int} (h : -(2 ^ 62) ≤ a) (h2 : a < 2 ^ 62) (h3 : -(2 ^ 62) ≤ b) (h4 : b < 2 ^ 62) (h5 : (b - a).toNat ≤ LIM) : lrgF a b = some (rgI a b) := by unfold lrgF; rw [decide_eq_true h, decide_eq_true h2, decide_eq_true h3, decide_eq_true h4, decide_eq_true h5]; rfl
theorem rgI_at {a b : Int} {i : Nat} {x : Int} (h : (rgI a b)[i]? = some x) : x = a + i ∧ a + i < b := by
  unfold rgI at h
  rw [List.getElem?_map] at h
  obtain ⟨j, hj, rfl⟩ := Option.map_eq_some_iff.mp h
  obtain ⟨h1, h2⟩ := List.getElem?_eq_some_iff.mp hj
  rw [List.getElem_range] at h2
  rw [List.length_range] at h1
  subst h2
  exact ⟨rfl, by omega⟩
theorem rgI_nat (n : Nat) : rgI 0 (n : Int) = (List.range n).map fun i : Nat => (i : Int) := by
  unfold rgI
  have : ((n : Int) - 0).toNat = n := by omega
  rw [this]
  exact List.map_congr_left fun i _ => by omega
theorem maxI_eq {a b : Int} : maxI a b = max a b := by unfold maxI; split <;> omega
theorem minI_eq {a b : Int} : minI a b = min a b := by unfold minI; split <;> omega
/-! ### lists -/
theorem ix_nat {l : List α} {i : Nat} {x : α} (h : l[i]? = some x) : ix l (i : Int) = some x := by
  have hl := (List.getElem?_eq_some_iff.mp h).1
  unfold ix atI
  rw [LX.ixN_nat hl]
  exact h
theorem ix_int {l : List α} {i : Int} {x : α} (h : 0 ≤ i) (h2 : l[i.toNat]? = some x) : ix l i = some x := by
  have := ix_nat h2
  rwa [Int.toNat_of_nonneg h] at this
theorem ev_ix {l : List α} {i : Int} {P : α → Prop} (h : 0 ≤ i) (h2 : i < lenI l) (k : ∀ x, l[i.toNat]? = some x → P x) : Ev (ix l i) P := by
  have hl : i.toNat < l.length := by unfold lenI at h2; omega
  exact ⟨l[i.toNat], ix_int h (List.getElem?_eq_getElem hl), k _ (List.getElem?_eq_getElem hl)⟩
theorem appF_ok {l : List α} {x : α} (h : l.length < LIM) : appF l x = some (l ++ [x]) := by unfold appF; rw [decide_eq_true h]; rfl
theorem catF_ok {l m : List α} (h : l.length + m.length ≤ LIM) : catF l m = some (l ++ m) := by unfold catF; rw [decide_eq_true h]; rfl
theorem repF_ok {l : List α} {k : Int} (h1 : -(2 ^ 63) ≤ k) (h2 : k < 2 ^ 63) (h : l.length * k.toNat ≤ LIM) : repF l k = some (List.replicate k.toNat l).flatten := by unfold repF; rw [decide_eq_true h1, decide_eq_true h2, decide_eq_true h]; rfl
theorem setF_nat {l : List α} {i : Nat} {x : α} (h : i < l.length) : setF l (i : Int) x = some (l.set i x) := by unfold setF; rw [LX.ixN_nat h]; rfl
theorem popAt_nat {l : List α} {i : Nat} {x : α} (h : l[i]? = some x) (h2 : l.length ≤ LIM) : popAtF l (i : Int) = some (x, l.eraseIdx i) := by
  have hl := (List.getElem?_eq_some_iff.mp h).1
  unfold popAtF
  rw [decide_eq_true (show -(2 ^ 63) ≤ (i : Int) by omega), decide_eq_true (show (i : Int) < 2 ^ 63 by unfold LIM at h2; omega)]
  have : seqIndex? (i : Int) l.length = some i := by
    unfold seqIndex?
    simp
    omega
  show (seqIndex? (i : Int) l.length).bind _ = _
  rw [this]
  show (l[i]?).bind _ = _
  rw [h]
  rfl
theorem enum_at {l : List α} {i : Nat} {p : Int × α} (h : (enumI l)[i]? = some p) : p.1 = i ∧ l[i]? = some p.2 := by
  unfold enumI at h
  rw [List.getElem?_zipWith] at h
  cases h1 : (List.range l.length)[i]? with
  | none => rw [h1] at h; cases h
  | some j =>
    cases h2 : l[i]? with
    | none => rw [h1, h2] at h; cases h
    | some x =>
      rw [h1, h2] at h
      cases h
      obtain ⟨h3, h4⟩ := List.getElem?_eq_some_iff.mp h1
      rw [List.getElem_range] at h4
      subst h4
      exact ⟨rfl, rfl⟩
theorem enum_len {l : List α} : (enumI l).length = l.length := by
  unfold enumI
  rw [List.length_zipWith, List.length_range, Nat.min_self]
theorem take_min (l : List α) (n : Nat) : l.take (min n l.length) = l.take n := by
  rw [← List.take_take, List.take_length]
theorem drop_min (l : List α) (n : Nat) : l.drop (min n l.length) = l.drop n := by
  by_cases h : n ≤ l.length
  · rw [Nat.min_eq_left h]
  · rw [Nat.min_eq_right (by omega), List.drop_length, List.drop_eq_nil_of_le (by omega)]
theorem cutL_to (l : List α) (n : Nat) : cutL l none (some (n : Int)) = l.take n := by
  unfold cutL
  rw [HT.sIx_none, HT.sIx_nat, List.drop_zero, Nat.sub_zero, take_min]
theorem cutL_from (l : List α) (n : Nat) : cutL l (some (n : Int)) none = l.drop n := by
  unfold cutL
  rw [HT.sIx_none, HT.sIx_nat, drop_min, List.take_of_length_le]
  rw [List.length_drop]
  omega
theorem cutL_mid (l : List α) (n m : Nat) : cutL l (some (n : Int)) (some (m : Int)) = (l.take m).drop n := by
  unfold cutL
  rw [HT.sIx_nat, HT.sIx_nat, ← List.drop_take, take_min]
  by_cases h : n ≤ l.length
  · rw [Nat.min_eq_left h]
  · rw [List.drop_eq_nil_of_le, List.drop_eq_nil_of_le] <;> rw [List.length_take] <;> omega
theorem cutL_len (l : List α) (a b : Option Int) : (cutL l a b).length ≤ l.length := by
  unfold cutL
  rw [List.length_take, List.length_drop]
  omega
/-! ### texts of one letter -/
def lt (c : Nat) : Str := ⟨#[c]⟩
theorem lt_len (c : Nat) : lenS (lt c) = some 1 := rfl
theorem lt_inj {c d : Nat} : lt c = lt d ↔ c = d := by
  constructor
  · intro h
    have : (#[c] : Array Nat) = #[d] := congrArg Str.cps h
    simpa using this
  · intro h; rw [h]
theorem lt_dec (c d : Nat) : decide (lt c = lt d) = decide (c = d) := by
  rw [decide_eq_decide]
  exact lt_inj
theorem lt_col {c : Nat} (h : 97 ≤ c ∧ c ≤ 122) : ((!ltS (lt c) (Str.ofString "a")) && (!ltS (Str.ofString "z") (lt c))) = true := by
  have h1 : ltS (lt c) (Str.ofString "a") = false := by
    show decide (([c] : List Nat) < [97]) = false
    rw [decide_eq_false_iff_not, List.cons_lt_cons_iff]
    rintro (h1 | ⟨_, h1⟩)
    · omega
    · exact absurd h1 (List.not_lt_nil _)
  have h2 : ltS (Str.ofString "z") (lt c) = false := by
    show decide (([122] : List Nat) < [c]) = false
    rw [decide_eq_false_iff_not, List.cons_lt_cons_iff]
    rintro (h1 | ⟨_, h1⟩)
    · omega
    · exact absurd h1 (List.not_lt_nil _)
  rw [h1, h2]
  rfl
/-! ### rows -/
abbrev eRow (e : Nat × Nat) : Int × Str := ((e.1 : Int), lt e.2)
abbrev enc (r : Row) : List (Int × Str) := r.map eRow
abbrev nI (cs : List Nat) : List Int := cs.map fun n : Nat => (n : Int)
theorem enc_len (r : Row) : (enc r).length = r.length := List.length_map ..
theorem mem_nI {n : Nat} {cs : List Nat} : (n : Int) ∈ nI cs ↔ n ∈ cs := by
  constructor
  · intro h
    obtain ⟨m, h1, h2⟩ := List.mem_map.mp h
    have : m = n := by omega
    exact this ▸ h1
  · exact List.mem_map_of_mem
theorem nI_dec {n : Nat} {cs : List Nat} : decide ((n : Int) ∈ nI cs) = decide (n ∈ cs) := by
  rw [decide_eq_decide]
  exact mem_nI
end
end LQ
/-! ### equal data -/
namespace LQ
open PySem L2 LX
structure EqE {α : Type} [DecidableEq α] (n : Nat) (e : α → PyData) (ok : α → Prop) : Prop where
  sd : ∀ x, ok x → Sd n (e x)
  eq : ∀ x y, ok x → ok y → PyData.eqv (e x) (e y) = decide (x = y)
section
variable {α β : Type} [DecidableEq α] [DecidableEq β]
theorem EqE.int : EqE 0 eI (fun _ => True) := ⟨fun _ _ => Sd.int, fun x y _ _ => by
  simp only [PyData.eqv]
  exact Bool.eq_iff_iff.mpr ⟨fun h => decide_eq_true (by simpa using h), fun h => by simpa using of_decide_eq_true h⟩⟩
theorem EqE.bool : EqE 0 eB (fun _ => True) := ⟨fun _ _ => ⟨by simp only [PyData.canLay0], by simp only [PyData.depth]; omega⟩, fun x y _ _ => by cases x <;> cases y <;> simp [PyData.eqv]⟩
theorem EqE.str : EqE 0 eS (fun z => PyData.strOk z = true) := ⟨fun z h => ⟨by simp only [PyData.canLay0]; exact h, by simp only [PyData.depth]; omega⟩, fun x y _ _ => by
  simp only [PyData.eqv]
  exact Bool.eq_iff_iff.mpr ⟨fun h => decide_eq_true (by simpa using h), fun h => by simpa using of_decide_eq_true h⟩⟩
theorem Sd.up {m n : Nat} {d : PyData} (h : Sd m d) (z : m ≤ n) : Sd n d := ⟨h.lay, Nat.le_trans h.dep z⟩
theorem sd_all {n : Nat} {e : α → PyData} {ok : α → Prop} (h : EqE n e ok) : ∀ {l : List α}, (∀ x ∈ l, ok x) → PyData.canLayAll0 (l.map e) = true ∧ PyData.depthAll (l.map e) ≤ n
  | [], _ => ⟨by simp only [List.map_nil, PyData.canLayAll0], by simp only [List.map_nil, PyData.depthAll]; omega⟩
  | x :: l, k => by
    have h1 := h.sd x (k x List.mem_cons_self)
    have h2 := sd_all h fun y hy => k y (List.mem_cons_of_mem _ hy)
    simp only [List.map_cons, PyData.canLayAll0, PyData.depthAll]
    exact ⟨by rw [h1.lay, h2.1]; rfl, by have := h1.dep; omega⟩
theorem eqv_all {n : Nat} {e : α → PyData} {ok : α → Prop} (h : EqE n e ok) : ∀ {l m : List α}, (∀ x ∈ l, ok x) → (∀ x ∈ m, ok x) → PyData.eqvAll (l.map e) (m.map e) = decide (l = m)
  | [], [], _, _ => by simp only [List.map_nil, PyData.eqvAll]; rfl
  | [], _ :: _, _, _ => by simp only [List.map_nil, List.map_cons, PyData.eqvAll]; rfl
  | _ :: _, [], _, _ => by simp only [List.map_nil, List.map_cons, PyData.eqvAll]; rfl
  | x :: l, y :: m, k, k2 => by
    simp only [List.map_cons, PyData.eqvAll]
    rw [h.eq x y (k x List.mem_cons_self) (k2 y List.mem_cons_self), eqv_all h (fun y hy => k y (List.mem_cons_of_mem _ hy)) (fun y hy => k2 y (List.mem_cons_of_mem _ hy))]
    exact Bool.eq_iff_iff.mpr ⟨fun h => decide_eq_true (by simpa using h), fun h => by simpa using of_decide_eq_true h⟩
theorem EqE.list {n : Nat} {e : α → PyData} {ok : α → Prop} (h : EqE n e ok) : EqE (n + 1) (eL e) (fun l => ∀ x ∈ l, ok x) := ⟨fun l k => ⟨by simp only [PyData.canLay0]; exact (sd_all h k).1, by simp only [PyData.depth]; have := (sd_all h k).2; omega⟩, fun l m k k2 => by
  simp only [PyData.eqv]
  exact eqv_all h k k2⟩
theorem EqE.tup {n : Nat} {e : α → PyData} {f : β → PyData} {ok : α → Prop} {ok2 : β → Prop} (h : EqE n e ok) (h2 : EqE n f ok2) : EqE (n + 1) (eT2 e f) (fun p => ok p.1 ∧ ok2 p.2) := ⟨fun p k => by
  have h1 := h.sd p.1 k.1
  have h3 := h2.sd p.2 k.2
  refine ⟨?_, ?_⟩
  · simp only [PyData.canLay0, PyData.canLayAll0]
    rw [h1.lay, h3.lay]
    rfl
  · simp only [PyData.depth, PyData.depthAll]
    have := h1.dep
    have := h3.dep
    omega, fun p q k k2 => by
  simp only [PyData.eqv, PyData.eqvAll]
  rw [h.eq _ _ k.1 k2.1, h2.eq _ _ k.2 k2.2]
  obtain ⟨a, b⟩ := p
  obtain ⟨c, d⟩ := q
  exact Bool.eq_iff_iff.mpr ⟨fun h => decide_eq_true (by simpa using h), fun h => by simpa using of_decide_eq_true h⟩⟩
theorem EqE.run {n : Nat} {e : α → PyData} {ok : α → Prop} (h : EqE n e ok) (z : n ≤ 64) {x y : α} (k : ok x) (k2 : ok y) : eqvF (e x) (e y) = some (decide (x = y)) := by
  have h1 := h.sd x k
  have h2 := h.sd y k2
  unfold eqvF
  rw [h1.shaped z, h2.shaped z, PyData.hasDict_of_canLay _ h1.lay, PyData.hasDict_of_canLay _ h2.lay, h.eq x y k k2]
  rfl
end
theorem strOk_lt {c : Nat} (h : c ≤ 122) : PyData.strOk (lt c) = true := by
  unfold PyData.strOk lt
  simp
  omega
abbrev eRows : List (Int × Str) → PyData := eL (eT2 eI eS)
theorem eqRow : EqE 2 eRows (fun l => ∀ x ∈ l, True ∧ PyData.strOk x.2 = true) := EqE.list (EqE.tup EqE.int EqE.str)
theorem ok_enc {r : Row} (h : ∀ e ∈ r, 97 ≤ e.2 ∧ e.2 ≤ 122) : ∀ x ∈ enc r, True ∧ PyData.strOk x.2 = true := fun x hx => by
  obtain ⟨e, he, rfl⟩ := List.mem_map.mp hx
  exact ⟨trivial, strOk_lt (h e he).2⟩
end LQ
namespace LQ
open PySem L2 LX
theorem EqE.oI : EqE 0 (eO eI) (fun _ => True) := ⟨fun x _ => by cases x; exact Sd.none; exact Sd.int, fun x y _ _ => by
  cases x <;> cases y
  · simp only [eO, PyData.eqv]; rfl
  · simp only [eO, PyData.eqv]; rfl
  · simp only [eO, PyData.eqv]; rfl
  · simp only [eO, PyData.eqv]
    exact Bool.eq_iff_iff.mpr ⟨fun h => decide_eq_true (by simpa using h), fun h => by simpa using of_decide_eq_true h⟩⟩
theorem zip_maps {α β γ : Type} (g : α → β) (h : α → γ) : ∀ l : List α, zipL (l.map g) (l.map h) = l.map fun x => (g x, h x)
  | [] => rfl
  | x :: l => by
    show (g x, h x) :: zipL (l.map g) (l.map h) = _
    rw [zip_maps g h l]
    rfl
theorem lt_maps : ∀ {l m : List Nat}, l.map lt = m.map lt → l = m
  | [], [], _ => rfl
  | [], _ :: _, h => nomatch h
  | _ :: _, [], h => nomatch h
  | x :: l, y :: m, h => by
    rw [List.map_cons, List.map_cons] at h
    injection h with h1 h2
    rw [lt_inj.mp h1, lt_maps h2]
end LQ

/-! Dicts, joined letters, different values, counts. -/
namespace LQ
open PySem L2 LX
section
variable {κ α : Type} [DecidableEq κ]
theorem dget_put (l : List (κ × α)) (k : κ) (x : α) (j : κ) : dget (dput l k x) j = if k = j then some x else dget l j := by
  unfold dput
  split
  · rename_i h
    obtain ⟨p, hp, e⟩ := List.any_eq_true.mp h
    have e := of_decide_eq_true e
    clear h
    induction l with
    | nil => cases hp
    | cons q l ih =>
      unfold dget at ih ⊢
      rw [List.map_cons]
      by_cases c : q.1 = k
      · rw [if_pos c]
        by_cases d : k = j
        · rw [if_pos d, List.find?_cons_of_pos (by rw [decide_eq_true_iff]; exact c.trans d)]
          rfl
        · rw [if_neg d, List.find?_cons_of_neg (by rw [decide_eq_true_iff]; exact fun z => d (c.symm.trans z)), List.find?_cons_of_neg (by rw [decide_eq_true_iff]; exact fun z => d (c.symm.trans z))]
          by_cases hl : p ∈ l
          · have := ih hl
            rw [if_neg d] at this
            exact this
          · have hz : ∀ u ∈ l, u.1 = k → False ∨ True := fun _ _ _ => Or.inr trivial
            clear hz
            have go : ∀ l : List (κ × α), (List.find? (fun p => decide (p.1 = j)) (l.map fun p => if p.1 = k then (p.1, x) else p)).map (·.2) = (l.find? fun p => decide (p.1 = j)).map (·.2) := by
              intro l
              induction l with
              | nil => rfl
              | cons u l ih2 =>
                rw [List.map_cons]
                by_cases c2 : u.1 = k
                · rw [if_pos c2, List.find?_cons_of_neg (by rw [decide_eq_true_iff]; exact fun z => d (c2.symm.trans z)), List.find?_cons_of_neg (by rw [decide_eq_true_iff]; exact fun z => d (c2.symm.trans z))]
                  exact ih2
                · rw [if_neg c2]
                  by_cases c3 : u.1 = j
                  · rw [List.find?_cons_of_pos (by rw [decide_eq_true_iff]; exact c3), List.find?_cons_of_pos (by rw [decide_eq_true_iff]; exact c3)]
                  · rw [List.find?_cons_of_neg (by rw [decide_eq_true_iff]; exact c3), List.find?_cons_of_neg (by rw [decide_eq_true_iff]; exact c3)]
                    exact ih2
            exact go l
      · rw [if_neg c]
        have hl : p ∈ l := by
          rcases List.mem_cons.mp hp with z | z
          · exact absurd (z ▸ e) c
          · exact z
        by_cases d : q.1 = j
        · rw [List.find?_cons_of_pos (by rw [decide_eq_true_iff]; exact d), List.find?_cons_of_pos (by rw [decide_eq_true_iff]; exact d), if_neg (fun z => c (d.trans z.symm))]
        · rw [List.find?_cons_of_neg (by rw [decide_eq_true_iff]; exact d), List.find?_cons_of_neg (by rw [decide_eq_true_iff]; exact d)]
          exact ih hl
  · rename_i h
    unfold dget
    rw [List.find?_append]
    by_cases d : k = j
    · rw [if_pos d]
      have : l.find? (fun p => decide (p.1 = j)) = none := by
        rw [List.find?_eq_none]
        intro u hu z
        exact h (List.any_eq_true.mpr ⟨u, hu, by rw [d]; exact z⟩)
      rw [this, List.find?_cons_of_pos (by rw [decide_eq_true_iff]; exact d)]
      rfl
    · rw [if_neg d, List.find?_cons_of_neg (by rw [decide_eq_true_iff]; exact d)]
      cases l.find? (fun p => decide (p.1 = j)) <;> rfl
theorem dget_merge_no {j : κ} : ∀ (m l : List (κ × α)), (∀ p ∈ m, p.1 ≠ j) → dget (dmerge l m) j = dget l j
  | [], l, _ => rfl
  | p :: m, l, h => by
    show dget (dmerge (dput l p.1 p.2) m) j = _
    rw [dget_merge_no m _ fun q hq => h q (List.mem_cons_of_mem _ hq), dget_put, if_neg (h p List.mem_cons_self)]
theorem dget_merge {p : κ × α} : ∀ (m l : List (κ × α)), (m.map (·.1)).Nodup → p ∈ m → dget (dmerge l m) p.1 = some p.2
  | [], _, _, h => nomatch h
  | q :: m, l, nd, h => by
    have nd' := List.nodup_cons.mp (show (q.1 :: m.map (·.1)).Nodup from nd)
    show dget (dmerge (dput l q.1 q.2) m) p.1 = _
    rcases List.mem_cons.mp h with z | z
    · rw [z, dget_merge_no m _ fun u hu e => nd'.1 (by rw [← e]; exact List.mem_map_of_mem (f := (·.1)) hu), dget_put, if_pos rfl]
    · exact dget_merge m _ nd'.2 z
end
theorem enc_nodup {r : Row} (V : Vr r) : ((enc r).map (·.1)).Nodup := by
  have : (enc r).map (·.1) = nI (r.map (·.1)) := by
    show List.map _ (List.map _ r) = List.map _ (List.map _ r)
    rw [List.map_map, List.map_map]
    rfl
  rw [this, nI, List.nodup_iff_pairwise_ne, List.pairwise_map]
  exact V.nodup.imp fun h z => h (by omega)
theorem dget_row {r : Row} (V : Vr r) {p : Nat} (h : p < r.length) : dget (dmerge [] (enc r)) (p : Int) = some (lt (colOf r p)) :=
  dget_merge (p := ((p : Int), lt (colOf r p))) _ _ (enc_nodup V) (List.mem_map_of_mem (f := eRow) (colOf_mem (V.has h)))
theorem join_lt {ys : List Str} (h : ∀ y ∈ ys, ∃ c, y = lt c) (z : ys.length ≤ 1000) : Ev (joinF (Str.ofString "") ys) fun s => ∃ ns : List Nat, ys = ns.map lt ∧ s = txt ns ∧ s.length = ys.length := by
  have ex : ∃ ns : List Nat, ys = ns.map lt := by
    clear z
    induction ys with
    | nil => exact ⟨[], rfl⟩
    | cons y ys ih =>
      obtain ⟨c, hc⟩ := h y List.mem_cons_self
      obtain ⟨ns, hn⟩ := ih fun u hu => h u (List.mem_cons_of_mem _ hu)
      exact ⟨c :: ns, by rw [hn, hc]; rfl⟩
  obtain ⟨ns, rfl⟩ := ex
  rw [List.length_map] at z
  have s1 : ∀ ns : List Nat, ((ns.map lt).map (·.length)).sum = ns.length := by
    intro ns
    induction ns with
    | nil => rfl
    | cons c ns ih =>
      show (lt c).length + ((ns.map lt).map (·.length)).sum = _
      rw [ih]
      show 1 + _ = _
      rw [List.length_cons]
      omega
  have e0 : (Str.ofString "").length = 0 := rfl
  unfold joinF
  rw [decide_eq_true (by rw [s1, e0]; omega)]
  exact ⟨_, rfl, ns, rfl, join_ones ns, by
    rw [show Txt.join (Str.ofString "") (ns.map lt) = txt ns from join_ones ns, List.length_map]
    show ns.toArray.size = _
    rw [List.size_toArray]⟩
theorem txt_len (ns : List Nat) : (txt ns).length = ns.length := by
  show ns.toArray.size = _
  rw [List.size_toArray]
section
variable {α β : Type} [DecidableEq α] [DecidableEq β]
/-- of two or more different values, two differ -/
theorem dd_two {l : List α} (h : 2 ≤ (dd l).length) : ∃ x ∈ l, ∃ y ∈ l, x ≠ y := by
  have nd := dd_nodup l
  match e : dd l, h with
  | x :: y :: r, _ =>
    rw [e] at nd
    refine ⟨x, mem_dd.mp (by rw [e]; exact List.mem_cons_self), y, mem_dd.mp (by rw [e]; exact List.mem_cons_of_mem _ List.mem_cons_self), fun z => ?_⟩
    exact (List.nodup_cons.mp nd).1 (by rw [z]; exact List.mem_cons_self)
theorem dd_ne {l : List α} (h : l ≠ []) : 1 ≤ (dd l).length := by
  cases l with
  | nil => exact absurd rfl h
  | cons x l =>
    have : x ∈ dd (x :: l) := mem_dd.mpr List.mem_cons_self
    cases e : dd (x :: l) with
    | nil => rw [e] at this; cases this
    | cons _ _ => exact Nat.succ_le_succ (Nat.zero_le _)
end
theorem sortU_len (ks : List Str) : (sortU ks).length = (dd ks).length := by
  unfold sortU
  exact (List.mergeSort_perm _ _).length_eq
theorem mem_sortU {ks : List Str} {x : Str} : x ∈ sortU ks ↔ x ∈ ks := by
  unfold sortU
  rw [(List.mergeSort_perm _ _).mem_iff, mem_dd]
theorem mem_sortUI {ks : List Int} {x : Int} : x ∈ sortUI ks ↔ x ∈ ks := by
  unfold sortUI
  rw [(List.mergeSort_perm _ _).mem_iff, mem_dd]
theorem count_nI (l : List Nat) (p : Nat) : (nI l).count (p : Int) = l.count p := by
  induction l with
  | nil => rfl
  | cons x l ih =>
    show (((x : Int) :: nI l)).count (p : Int) = _
    rw [List.count_cons, List.count_cons, ih]
    congr 1
    by_cases h : x = p
    · rw [h]; simp
    · rw [show ((x : Int) == (p : Int)) = false from beq_eq_false_iff_ne.mpr fun z => h (by omega), show (x == p) = false from beq_eq_false_iff_ne.mpr h]
theorem ex_nI {l : List Int} (h : ∀ x ∈ l, ∃ n : Nat, x = (n : Int)) : ∃ ns : List Nat, l = nI ns := by
  induction l with
  | nil => exact ⟨[], rfl⟩
  | cons x l ih =>
    obtain ⟨n, hn⟩ := h x List.mem_cons_self
    obtain ⟨ns, e⟩ := ih fun y hy => h y (List.mem_cons_of_mem _ hy)
    exact ⟨n :: ns, by rw [e, hn]; rfl⟩
end LQ
namespace LQ
open PySem L2 LX
theorem join_txt {cs : List Nat} (z : cs.length ≤ 1000) : joinF (Str.ofString "") (cs.map lt) = some (txt cs) := by
  obtain ⟨s, e, ns, h1, h2, _⟩ := join_lt (ys := cs.map lt) (fun y hy => by
    obtain ⟨c, _, rfl⟩ := List.mem_map.mp hy
    exact ⟨c, rfl⟩) (by rw [List.length_map]; exact z)
  rw [e, h2, lt_maps h1]
theorem cat_txt {cs : List Nat} {x : Nat} (z : cs.length ≤ 1000) : catS (txt cs) (lt x) = some (txt (cs ++ [x])) := by
  have l1 : (txt cs).length = cs.length := LX.txt_len cs
  have l2 : (lt x).length = 1 := rfl
  unfold catS
  rw [decide_eq_true (by unfold LIM; omega)]
  show some _ = some _
  congr 1
  apply str_ext
  show (cs.toArray ++ #[x]).toList = (cs ++ [x]).toArray.toList
  simp
/-- the least of a list stands first when sorted -/
theorem sort_head {l : List Int} {m : Int} (h : minL l = some m) : ix (sortI l) (0 : Int) = some m := by
  have pm : (sortI l).Perm l := List.mergeSort_perm _ _
  have pw : (sortI l).Pairwise (fun a b : Int => decide (a ≤ b) = true) := List.pairwise_mergeSort (fun a b c x y => by rw [decide_eq_true_iff] at *; omega) (fun a b => by simp; omega) l
  cases e : sortI l with
  | nil =>
    rw [e] at pm
    rw [pm.symm.eq_nil] at h
    cases h
  | cons x xs =>
    rw [e] at pm pw
    have hx : x ∈ l := pm.mem_iff.mp List.mem_cons_self
    have := minL_is h hx fun y hy => by
      rcases List.mem_cons.mp (pm.mem_iff.mpr hy) with z | z
      · omega
      · exact of_decide_eq_true ((List.pairwise_cons.mp pw).1 y z)
    rw [← this]
    exact ix_int (by decide) rfl
end LQ

namespace LQF
open PySem L2 LX LQ
def F__law_pool (x_cell : Int) (x_place : Int) : Option (List Int) :=
  some [(maxI (x_cell - ((10 : Int) ^ (18 : Nat))) (0 : Int)), (((x_cell % (2147483629 : Int)) + ((40009 : Int) * x_place)) % (2147483629 : Int)), (0 : Int)]
def F__law_draw (x_pool : (List Int)) (x_many : Int) : Option (Int × (List Int)) :=
  (ix x_pool (2 : Int)).bind fun y1652 =>
(setF x_pool (2 : Int) (y1652 + (1 : Int))).bind fun l1656 =>
(ix l1656 (1 : Int)).bind fun y1662 =>
(ix l1656 (2 : Int)).bind fun y1666 =>
(ix l1656 (2 : Int)).bind fun y1670 =>
(mulF ((7 : Int) * y1666) y1670).bind fun y1674 =>
(powF ((y1662 + y1674) + (1 : Int)) (2 : Int)).bind fun y1676 =>
(ix l1656 (2 : Int)).bind fun y1678 =>
(setF l1656 (1 : Int) ((((y1676 % (2147483587 : Int)) * (69621 : Int)) + ((40692 : Int) * y1678)) % (2147483629 : Int))).bind fun l1682 =>
(ix l1682 (1 : Int)).bind fun y1688 =>
(divF y1688 (64 : Int)).bind fun y1692 =>
(modF y1692 x_many).bind fun y1694 =>
((ix l1682 (0 : Int)).bind fun y1722 =>
cond (decide ((0 : Int) < y1722)) ((ix l1682 (0 : Int)).bind fun y1726 =>
(modF y1726 x_many).bind fun y1730 =>
(ix l1682 (0 : Int)).bind fun y1732 =>
(divF y1732 x_many).bind fun y1736 =>
(setF l1682 (0 : Int) y1736).bind fun l1738 =>
some (y1730, l1738)) (some (y1694, l1682))).bind fun (r1720 : (Int × (List Int))) =>
some (r1720.1, r1720.2)
def F__law_lineup (x_pool : (List Int)) (x_many : Int) : Option ((List (Int × Str)) × (List Int)) :=
  (lrgF (0 : Int) x_many).bind fun l1755 =>
(rngF (0 : Int) x_many).bind fun l1762 =>
(compLS (fun (a1802 : Int) (s1815 : ((List Int) × (List Int))) => (F__law_draw s1815.2 (lenI s1815.1)).bind fun y1824 =>
(popAtF s1815.1 y1824.1).bind fun y1837 =>
some (some y1837.1, (y1837.2, y1824.2))) l1762 (l1755, x_pool)).bind fun l1849 =>
(F__law_draw l1849.2.2 x_many).bind fun y1866 =>
(rngF (0 : Int) ((1 : Int) + y1866.1)).bind fun l1879 =>
(compLS (fun (a1913 : Int) (s1926 : (List Int)) => (F__law_draw s1926 (26 : Int)).bind fun y1932 =>
(ixS (Str.ofString "abcdefghijklmnopqrstuvwxyz") y1932.1).bind fun y1945 =>
some (some y1945, y1932.2)) l1879 y1866.2).bind fun l1949 =>
(compLS (fun (a2015 : Int) (s2028 : (List Int)) => (F__law_draw s2028 (lenI l1949.1)).bind fun y2038 =>
(ix l1949.1 y2038.1).bind fun y2051 =>
some (some (a2015, y2051), y2038.2)) l1849.1 l1949.2).bind fun l2066 =>
some (l2066.1, l2066.2)
def F__law_called (x_start : (List (Int × Str))) (x_who : Int) : Option (List (Int × Str)) :=
  (compL (fun (a2089 : (Int × Str)) => cond (decide (a2089.1 = x_who)) (some (some a2089.2)) (some none)) x_start).bind fun l2111 =>
(ix l2111 (0 : Int)).bind fun y2126 =>
(compL (fun (a2138 : (Int × Str)) => cond (!(decide (a2138.2 = y2126))) (some (some a2138.2)) (some none)) x_start).bind fun l2160 =>
(catF l2160 [y2126]).bind fun y2181 =>
(ix y2181 (0 : Int)).bind fun y2195 =>
(compL (fun (a2219 : (Int × Str)) => cond (!(decide (a2219.1 = x_who))) (some (some a2219)) (some none)) x_start).bind fun l2241 =>
(catF [(x_who, y2195)] l2241).bind fun y2256 =>
some y2256
def F__law_reachable (x_start : (List (Int × Str))) : Option (List (Str × ((List (Int × Str)) × (List Int)))) :=
  (reprF ((eL (eT2 eI eS)) x_start)).bind fun y2278 =>
(rngF (0 : Int) (99 : Int)).bind fun l2314 =>
(loopF (fun (a2316 : Int) (s2317 : ((List ((List (Int × Str)) × (List Int))) × (List (Str × ((List (Int × Str)) × (List Int)))))) => (loopF (fun (a2353 : ((List (Int × Str)) × (List Int))) (s2354 : ((List ((List (Int × Str)) × (List Int))) × (List (Str × ((List (Int × Str)) × (List Int)))))) => (rngF (0 : Int) (lenI x_start)).bind fun l2392 =>
(loopF (fun (a2394 : Int) (s2395 : ((List ((List (Int × Str)) × (List Int))) × (List (Str × ((List (Int × Str)) × (List Int)))))) => (F__law_called a2353.1 a2394).bind fun y2419 =>
(reprF ((eL (eT2 eI eS)) y2419)).bind fun y2431 =>
cond (!(dhas s2395.2 y2431)) ((catF a2353.2 [a2394]).bind fun y2439 =>
(reprF ((eL (eT2 eI eS)) y2419)).bind fun y2459 =>
(dputF s2395.2 y2459 (y2419, y2439)).bind fun l2461 =>
(reprF ((eL (eT2 eI eS)) y2419)).bind fun y2467 =>
(dget l2461 y2467).bind fun y2469 =>
(appF s2395.1 y2469).bind fun l2474 =>
some (l2474, l2461)) (some (s2395.1, s2395.2))) l2392 (s2354.1, s2354.2)).bind fun r2416 =>
some (r2416.1, r2416.2)) s2317.1 (([] : (List ((List (Int × Str)) × (List Int)))), s2317.2)).bind fun r2377 =>
some (r2377.1, r2377.2)) l2314 ([(x_start, ([] : (List Int)))], [(y2278, (x_start, ([] : (List Int))))])).bind fun r2342 =>
some r2342.2
def F__law_cell_at (x_script : (List Int)) (x_k : Int) : Option Int :=
  cond (decide (x_k < (lenI x_script))) ((ix x_script x_k).bind fun y2527 =>
some y2527) (some (0 : Int))
def F__law_many (x_pool : (List Int)) (x_script : (List Int)) : Option (Int × (List Int)) :=
  ((eqvF (eL eI x_script) (eL eI ([] : List Int))).bind fun b2543 =>
cond b2543 (some ((2 : Int), x_pool)) ((F__law_draw x_pool (4 : Int)).bind fun y2558 =>
some (((1 : Int) + y2558.1), y2558.2))).bind fun y2571 =>
some (y2571.1, y2571.2)
def F_is_integer (x_value : Int) : Option Bool :=
  some (true && (!false))
def F_is_color (x_value : Str) : Option Bool :=
  (cond (decide ("str" = "str")) ((lenS x_value).bind fun y2584 =>
cond (decide (y2584 = (1 : Int))) (some ((!ltS x_value (Str.ofString "a")) && (!ltS (Str.ofString "z") x_value))) (some false)) (some false)).bind fun b2590 =>
some b2590
def F_is_colored_integer (x_value : (Int × Str)) : Option Bool :=
  (cond (decide ("tuple" = "tuple")) (cond (decide ((2 : Int) = (2 : Int))) ((F_is_integer x_value.1).bind fun y2614 =>
cond y2614 ((F_is_color x_value.2).bind fun y2629 =>
some y2629) (some false)) (some false)) (some false)).bind fun b2640 =>
some b2640
def F_is_lineup (x_value : (List (Int × Str))) : Option Bool :=
  cond ((!(decide ("list" = "list"))) || (!((decide ((1 : Int) ≤ (lenI x_value))) && (decide ((lenI x_value) ≤ (60 : Int)))))) (some false) ((loopC (fun (a2666 : (Int × Str)) (s2667 : Unit) => (F_is_colored_integer a2666).bind fun y2688 =>
cond (!y2688) (some (.ret false)) (some (.nx ()))) x_value ()).bind fun r2683_ => ctlK r2683_ (fun q => some q) fun r2683 =>
(compL (fun (a2710 : (Int × Str)) => some (some a2710.1)) x_value).bind fun l2732 =>
(lrgF (0 : Int) (lenI x_value)).bind fun l2758 =>
(eqvF ((eL eI) (sortI l2732)) ((eL eI) l2758)).bind fun b2766 =>
some b2766)
def F_check_lineup (x_value : (List (Int × Str))) : Option Unit :=
  (F_is_lineup x_value).bind fun y2771 =>
cond (!y2771) (none) (some ())
def F_check_people (x_lineup : (List (Int × Str))) : Option Unit :=
  cond (decide ((4 : Int) < (lenI x_lineup))) (none) (some ())
def F_check_small (x_lineup : (List (Int × Str))) : Option Unit :=
  (F_check_lineup x_lineup).bind fun y2790 =>
(F_check_people x_lineup).bind fun y2800 =>
some ()
def F_first_other_color (x_lineup : (List (Int × Str))) (x_color : Str) : Option (Option Str) :=
  (loopC (fun (a2816 : (Int × Str)) (s2817 : Unit) => cond (!(decide (a2816.2 = x_color))) (some (.ret (some a2816.2))) (some (.nx ()))) x_lineup ()).bind fun r2834_ => ctlK r2834_ (fun q => some q) fun r2834 =>
some (none : (Option Str))
def F_colors_by_person (x_lineup : (List (Int × Str))) : Option (List Str) :=
  (repF [(Str.ofString "")] (lenI x_lineup)).bind fun y2863 =>
(loopF (fun (a2878 : (Int × Str)) (s2879 : (List Str)) => (setF s2879 a2878.1 a2878.2).bind fun l2908 =>
some l2908) x_lineup y2863).bind fun r2898 =>
some r2898
def F_apply_call (x_lineup : (List (Int × Str))) (x_person : Int) : Option ((List (Int × Str)) × (Option Str)) :=
  (F_colors_by_person x_lineup).bind fun y2928 =>
(ix y2928 x_person).bind fun y2940 =>
(F_first_other_color x_lineup y2940).bind fun y2947 =>
(compL (fun (a2963 : (Int × Str)) => cond (!(decide (a2963.1 = x_person))) (some (some a2963)) (some none)) x_lineup).bind fun l2985 =>
(cond y2947.isNone (some y2940) ((y2947).bind fun o3004 =>
some o3004)).bind fun y3007 =>
(catF [(x_person, y3007)] l2985).bind fun y3026 =>
some (y3026, y2947)
def F_shortest_calls_to_all (x_lineup : (List (Int × Str))) : Option (List ((List (Int × Str)) × (List Int))) :=
  (whileF (fun (s3079 : ((List (List (Int × Str))) × (List ((List (Int × Str)) × (List Int))))) => some (!s3079.1.isEmpty)) (fun (s3079 : ((List (List (Int × Str))) × (List ((List (Int × Str)) × (List Int))))) => (loopF (fun (a3113 : (List (Int × Str))) (s3114 : ((List (List (Int × Str))) × (List ((List (Int × Str)) × (List Int))))) => (rngF (0 : Int) (lenI x_lineup)).bind fun l3144 =>
(loopF (fun (a3146 : Int) (s3147 : ((List (List (Int × Str))) × (List ((List (Int × Str)) × (List Int))))) => (F_apply_call a3113 a3146).bind fun y3171 =>
cond (!(dhas s3147.2 y3171.1)) ((dget s3147.2 a3113).bind fun y3198 =>
(catF y3198 [a3146]).bind fun y3209 =>
(dputF s3147.2 y3171.1 y3209).bind fun l3223 =>
(appF s3147.1 y3171.1).bind fun l3229 =>
some (l3229, l3223)) (some (s3147.1, s3147.2))) l3144 (s3114.1, s3114.2)).bind fun r3168 =>
some (r3168.1, r3168.2)) s3079.1 (([] : (List (List (Int × Str)))), s3079.2)).bind fun r3136 =>
some (r3136.1, r3136.2)) fuelW ([x_lineup], [(x_lineup, ([] : (List Int)))])).bind fun r3099 =>
some r3099.2
def F_farthest_reachable (x_lineup : (List (Int × Str))) : Option (Int × Int) :=
  (F_check_small x_lineup).bind fun y3279 =>
(F_shortest_calls_to_all x_lineup).bind fun y3289 =>
(compL (fun (a3319 : (List (Int × Str))) => (dget y3289 a3319).bind fun y3336 =>
some (some (lenI y3336))) (y3289.map (·.1))).bind fun l3348 =>
(maxL l3348).bind fun y3367 =>
(maxL l3348).bind fun y3375 =>
some (y3367, ((l3348.count y3375 : Nat) : Int))
def F_law (x_script : (List Int)) : Option Bool :=
  (rngF (0 : Int) (maxI (1 : Int) (minI (3 : Int) (lenI x_script)))).bind fun l3391 =>
(loopC (fun (a3393 : Int) (s3394 : Unit) => (F__law_cell_at x_script a3393).bind fun y3419 =>
(F__law_pool y3419 a3393).bind fun y3429 =>
(F__law_many y3429 x_script).bind fun y3444 =>
(F__law_lineup y3444.2 y3444.1).bind fun y3457 =>
(F__law_reachable y3457.1).bind fun y3472 =>
(compL (fun (a3501 : Str) => (dget y3472 a3501).bind fun y3516 =>
some (some (lenI y3516.2))) (dkeys y3472)).bind fun l3534 =>
(maxL l3534).bind fun y3553 =>
(maxL l3534).bind fun y3561 =>
(reprF ((eL (eT2 eI eS)) y3457.1)).bind fun y3575 =>
((F_farthest_reachable y3457.1).bind fun y3578 =>
(reprF ((eT2 eI eI) y3578)).bind fun y3590 =>
(reprF ((eT2 eI eI) (y3553, ((l3534.count y3561 : Nat) : Int)))).bind fun y3592 =>
cond (!(decide (y3590 = y3592))) (some true) ((reprF ((eL (eT2 eI eS)) y3457.1)).bind fun y3594 =>
some (!(decide (y3594 = y3575))))).bind fun b3597 =>
cond b3597 (some (.ret false)) (some (.nx ()))) l3391 ()).bind fun r3416_ => ctlK r3416_ (fun q => some q) fun r3416 =>
some true
end LQF

namespace K84
open PySem L2 LX LQ
section
variable {P : Program} {w : World} {K : PySem.W.Frag} {mg : Str → Option Value} {base : Heap} {a : Ad}
open LQF
def sp__law_pool (K : PySem.W.Frag) : Sp := fun vs H Q _ => ∃ (x_cell : Int) (x_place : Int), vs = [(.int x_cell), (.int x_place)] ∧ ∃ r, F__law_pool x_cell x_place = some r ∧ ∀ (a : Addr) (G H' : Hp), Ret [] H G H' → Fr H G (.ref a) ((eL eI) (r)) → Q (.ref a) H'
theorem ok__law_pool (T : Txt K mg a) : FnOk P w K mg base CX0 1 a.f__law_pool a.d__law_pool ["cell", "place"] (sp__law_pool K) := by
  refine T.F__law_pool.ok sc__law_pool (fun vs H Q E h => ?_) (fun cdv A outer s H0 vs Q E hr h => ?_)
  · obtain ⟨x_cell, x_place, rfl, _⟩ := h
    rfl
  · obtain ⟨x_cell, x_place, rfl, r, h, kq⟩ := h
    have nd := sc__law_pool.nd
    have hu64 := hr.units
    have hu65 := units65 hr
    refine ⟨_, (pss_one (ps_ret (pe_lst (pa_cons (pe_callB (kmax2 rfl) (by rfl) T.b_max (by decide +kernel) (pa_cons (pe_op op_sub (pv 0) (pe_op op_powW pe_int pe_int)) (pa_cons pe_int pa_nil))) (pa_cons (pe_op op_mod (pe_op op_add (pe_op op_mod (pv 0) pe_int) (pe_op op_mul pe_int (pv 1))) pe_int) (pa_cons pe_int pa_nil)))))), ?_⟩
    unfold F__law_pool at h
    have S0 := Sep.start H0
    refine rd_ret ?_
    refine rd_lstZ ?_
    refine rd_cons ?_
    refine rd_cb ?_
    refine rd_cons ?_
    refine rd_op ?_
    refine rd_var rfl ?_
    refine rd_op ?_
    refine rd_c ?_
    refine rd_c ?_
    refine rd_I ⟨by decide, by decide, by decide⟩ ?_
    refine rd_I0 ?_
    refine rd_cons ?_
    refine rd_c ?_
    refine rd_nil ?_
    refine q_max2 ?_
    refine rd_cons ?_
    refine rd_op ?_
    refine rd_op ?_
    refine rd_op ?_
    refine rd_var rfl ?_
    refine rd_c ?_
    refine rd_I (by show (0 : Int) < _; decide) ?_
    refine rd_op ?_
    refine rd_c ?_
    refine rd_var rfl ?_
    refine rd_I (Or.inl ⟨by decide, by decide⟩) ?_
    refine rd_I0 ?_
    refine rd_c ?_
    refine rd_I (by show (0 : Int) < _; decide) ?_
    refine rd_cons ?_
    refine rd_c ?_
    refine rd_nil ?_
    refine q_lst (F0 := H0) (ds := [eI (maxI (x_cell - ((10 : Int) ^ (18 : Nat))) (0 : Int)), eI (((x_cell % (2147483629 : Int)) + ((40009 : Int) * x_place)) % (2147483629 : Int)), eI (0 : Int)]) S0 (by show 3 ≤ LIM; decide) (.cons (.int _) (.cons (.int _) (.cons (.int _) .nil))) S0.old fun a1642 G1643 H1644 S1645 s1646 f1647 => ?_
    replace f1647 : Fr H0 G1643 (.ref a1642) ((eL eI) [(maxI (x_cell - ((10 : Int) ^ (18 : Nat))) (0 : Int)), (((x_cell % (2147483629 : Int)) + ((40009 : Int) * x_place)) % (2147483629 : Int)), (0 : Int)]) := f1647
    cases h
    exact kq a1642 _ _ S1645.toRet f1647
end
end K84

namespace K84
open PySem L2 LX LQ
section
variable {P : Program} {w : World} {K : PySem.W.Frag} {mg : Str → Option Value} {base : Heap} {a : Ad}
open LQF
def sp__law_draw (K : PySem.W.Frag) : Sp := fun vs H Q _ => ∃ (a1648 : Addr) (w1649 : List V) (x_pool : (List Int)) (x_many : Int), vs = [.ref a1648, (.int x_many)] ∧ H a1648 = some (.lst w1649) ∧ FrL E0h (hid H [a1648]) w1649 (x_pool.map eI) ∧ ∃ r, F__law_draw x_pool x_many = some r ∧ ∀ (u0 : List V) (G H' : Hp), Ret [a1648] H G H' → H' a1648 = some (.lst u0) → FrL E0h G u0 ((r.2).map eI) → Q (.int (r.1)) H'
theorem ok__law_draw (T : Txt K mg a) : FnOk P w K mg base CX0 1 a.f__law_draw a.d__law_draw ["pool", "many"] (sp__law_draw K) := by
  refine T.F__law_draw.ok sc__law_draw (fun vs H Q E h => ?_) (fun cdv A outer s H0 vs Q E hr h => ?_)
  · obtain ⟨a1648, w1649, x_pool, x_many, rfl, _⟩ := h
    rfl
  · obtain ⟨a1648, w1649, x_pool, x_many, rfl, h1650, f1651, r, h, kq⟩ := h
    have nd := sc__law_draw.nd
    have hu64 := hr.units
    have hu65 := units65 hr
    refine ⟨_, (pss_cons (ps_asg (pe_op op_add (pe_ix (kix_list (K := K)) (pv 0) pe_int (fun _ _ => rfl)) pe_int) (pg_sub (pv 0) pe_int set_list))
      (pss_cons (ps_set (i := 2) nd rfl (Or.inl rfl) (pe_op op_mod (pe_op op_powW (pe_op op_add (pe_op op_add (pe_ix (kix_list (K := K)) (pv 0) pe_int (fun _ _ => rfl)) (pe_op op_mulW (pe_op op_mul pe_int (pe_ix (kix_list (K := K)) (pv 0) pe_int (fun _ _ => rfl))) (pe_ix (kix_list (K := K)) (pv 0) pe_int (fun _ _ => rfl)))) pe_int) pe_int) pe_int))
      (pss_cons (ps_asg (pe_op op_mod (pe_op op_add (pe_op op_mul (pv 2) pe_int) (pe_op op_mul pe_int (pe_ix (kix_list (K := K)) (pv 0) pe_int (fun _ _ => rfl)))) pe_int) (pg_sub (pv 0) pe_int set_list))
      (pss_cons (ps_set (i := 3) nd rfl (Or.inl rfl) (pe_op op_mod (pe_op op_fdivW (pe_ix (kix_list (K := K)) (pv 0) pe_int (fun _ _ => rfl)) pe_int) (pv 1)))
      (Evl.pss_cut (ps_if (pt_cmpR op_gt (pe_ix (kix_list (K := K)) (pv 0) pe_int (fun _ _ => rfl)) pe_int (nomark _)) (pss_cons (ps_set (i := 3) nd rfl (Or.inl rfl) (pe_op op_mod (pe_ix (kix_list (K := K)) (pv 0) pe_int (fun _ _ => rfl)) (pv 1)))
      (pss_one (ps_asg (pe_op op_fdivW (pe_ix (kix_list (K := K)) (pv 0) pe_int (fun _ _ => rfl)) (pv 1)) (pg_sub (pv 0) pe_int set_list)))) pss_nil)
      (pss_one (ps_ret (pv 3)))))))), ?_⟩
    unfold F__law_draw at h
    have S0 := Sep.start1 h1650
    refine rd_seq ?_
    refine rd_asg ?_
    refine rd_op ?_
    refine rd_op ?_
    refine rd_var rfl ?_
    refine rd_c ?_
    obtain ⟨y1652, h1653, h⟩ := bnd h
    refine q_ixL (F0 := E0h) (S0.get 0 rfl) f1651 h1653 fun v1654 f1655 => ?_
    cases fr_int f1655
    refine rd_c ?_
    refine rd_I0 ?_
    refine rd_sub ?_
    refine rd_var rfl ?_
    refine rd_c ?_
    obtain ⟨l1656, h1657, h⟩ := bnd h
    refine q_setL S0 0 rfl f1651 (.int _) h1657 fun w1658 H1659 S1660 f1661 => ?_
    have S1660 : Sep [a1648] H0 (hid H0 [a1648]) H1659 [(a1648, .lst w1658)] := S1660
    refine rd_mk ?_
    refine rd_seq ?_
    refine rd_asg ?_
    refine rd_op ?_
    refine rd_op ?_
    refine rd_op ?_
    refine rd_op ?_
    refine rd_op ?_
    refine rd_var rfl ?_
    refine rd_c ?_
    obtain ⟨y1662, h1663, h⟩ := bnd h
    refine q_ixL (F0 := E0h) (S1660.get 0 rfl) f1661 h1663 fun v1664 f1665 => ?_
    cases fr_int f1665
    refine rd_op ?_
    refine rd_op ?_
    refine rd_c ?_
    refine rd_op ?_
    refine rd_var rfl ?_
    refine rd_c ?_
    obtain ⟨y1666, h1667, h⟩ := bnd h
    refine q_ixL (F0 := E0h) (S1660.get 0 rfl) f1661 h1667 fun v1668 f1669 => ?_
    cases fr_int f1669
    refine rd_I (Or.inl ⟨by decide, by decide⟩) ?_
    refine rd_op ?_
    refine rd_var rfl ?_
    refine rd_c ?_
    obtain ⟨y1670, h1671, h⟩ := bnd h
    refine q_ixL (F0 := E0h) (S1660.get 0 rfl) f1661 h1671 fun v1672 f1673 => ?_
    cases fr_int f1673
    obtain ⟨y1674, h1675, h⟩ := bnd h
    refine q_mulW h1675 ?_
    refine rd_I0 ?_
    refine rd_c ?_
    refine rd_I0 ?_
    refine rd_c ?_
    obtain ⟨y1676, h1677, h⟩ := bnd h
    refine q_pow h1677 ?_
    refine rd_c ?_
    refine rd_I (by show (0 : Int) < _; decide) ?_
    refine rd_nameS (σ' := [some (.ref a1648), some (.int x_many), some (.int (y1676 % (2147483587 : Int))), none]) rfl ?_
    refine rd_mk ?_
    refine rd_seq ?_
    refine rd_asg ?_
    refine rd_op ?_
    refine rd_op ?_
    refine rd_op ?_
    refine rd_var rfl ?_
    refine rd_c ?_
    refine rd_I (Or.inr ⟨by decide, by decide⟩) ?_
    refine rd_op ?_
    refine rd_c ?_
    refine rd_op ?_
    refine rd_var rfl ?_
    refine rd_c ?_
    obtain ⟨y1678, h1679, h⟩ := bnd h
    refine q_ixL (F0 := E0h) (S1660.get 0 rfl) f1661 h1679 fun v1680 f1681 => ?_
    cases fr_int f1681
    refine rd_I (Or.inl ⟨by decide, by decide⟩) ?_
    refine rd_I0 ?_
    refine rd_c ?_
    refine rd_I (by show (0 : Int) < _; decide) ?_
    refine rd_sub ?_
    refine rd_var rfl ?_
    refine rd_c ?_
    obtain ⟨l1682, h1683, h⟩ := bnd h
    refine q_setL S1660 0 rfl f1661 (.int _) h1683 fun w1684 H1685 S1686 f1687 => ?_
    have S1686 : Sep [a1648] H0 (hid H0 [a1648]) H1685 [(a1648, .lst w1684)] := S1686
    refine rd_mk ?_
    refine rd_seq ?_
    refine rd_asg ?_
    refine rd_op ?_
    refine rd_op ?_
    refine rd_op ?_
    refine rd_var rfl ?_
    refine rd_c ?_
    obtain ⟨y1688, h1689, h⟩ := bnd h
    refine q_ixL (F0 := E0h) (S1686.get 0 rfl) f1687 h1689 fun v1690 f1691 => ?_
    cases fr_int f1691
    refine rd_c ?_
    obtain ⟨y1692, h1693, h⟩ := bnd h
    refine q_div h1693 ?_
    refine rd_var rfl ?_
    obtain ⟨y1694, h1695, h⟩ := bnd h
    refine q_mod h1695 ?_
    refine rd_nameS (σ' := [some (.ref a1648), some (.int x_many), some (.int (y1676 % (2147483587 : Int))), some (.int y1694)]) rfl ?_
    refine rd_mk ?_
    obtain ⟨r1720, ho1721, h⟩ := bnd h
    refine rd_cut (fun σ' H' => ∃ (w1749 : List V) (G1745 : Hp), σ' = [some (.ref a1648), some (.int x_many), some (.int (y1676 % (2147483587 : Int))), some (.int r1720.1)] ∧ Sep [a1648] H0 G1745 H' [(a1648, .lst w1749)] ∧ Same (hid H0 [a1648]) G1745 ∧ FrL E0h G1745 w1749 ((r1720.2).map eI)) ?_ ?_
    ·
      have h := ho1721
      have sE1696 := Same.refl (hid H0 [a1648])
      refine rd_ifS ?_
      refine rd_test ?_
      refine rd_op ?_
      refine rd_op ?_
      refine rd_var rfl ?_
      refine rd_c ?_
      obtain ⟨y1722, h1723, h⟩ := bnd h
      refine q_ixL (F0 := E0h) (S1686.get 0 rfl) f1687 h1723 fun v1724 f1725 => ?_
      cases fr_int f1725
      refine rd_c ?_
      refine rd_I0 ?_
      refine rd_bl ?_
      rcases cnd h with ⟨c1744, h⟩ | ⟨c1744, h⟩
      ·
        refine iteY c1744 ?_
        refine rd_seq ?_
        refine rd_asg ?_
        refine rd_op ?_
        refine rd_op ?_
        refine rd_var rfl ?_
        refine rd_c ?_
        obtain ⟨y1726, h1727, h⟩ := bnd h
        refine q_ixL (F0 := E0h) (S1686.get 0 rfl) f1687 h1727 fun v1728 f1729 => ?_
        cases fr_int f1729
        refine rd_var rfl ?_
        obtain ⟨y1730, h1731, h⟩ := bnd h
        refine q_mod h1731 ?_
        refine rd_nameS (σ' := [some (.ref a1648), some (.int x_many), some (.int (y1676 % (2147483587 : Int))), some (.int y1730)]) rfl ?_
        refine rd_mk ?_
        refine rd_asg ?_
        refine rd_op ?_
        refine rd_op ?_
        refine rd_var rfl ?_
        refine rd_c ?_
        obtain ⟨y1732, h1733, h⟩ := bnd h
        refine q_ixL (F0 := E0h) (S1686.get 0 rfl) f1687 h1733 fun v1734 f1735 => ?_
        cases fr_int f1735
        refine rd_var rfl ?_
        obtain ⟨y1736, h1737, h⟩ := bnd h
        refine q_div h1737 ?_
        refine rd_sub ?_
        refine rd_var rfl ?_
        refine rd_c ?_
        obtain ⟨l1738, h1739, h⟩ := bnd h
        refine q_setL S1686 0 rfl f1687 (.int _) h1739 fun w1740 H1741 S1742 f1743 => ?_
        have S1742 : Sep [a1648] H0 (hid H0 [a1648]) H1741 [(a1648, .lst w1740)] := S1742
        cases h
        exact ⟨w1740, (hid H0 [a1648]), rfl, S1742, sE1696, f1743⟩
      ·
        refine iteN c1744 ?_
        refine rd_next ?_
        cases h
        exact ⟨w1684, (hid H0 [a1648]), rfl, S1686, sE1696, f1687⟩
    rintro _ H1746 ⟨w1749, G1745, rfl, S1747, sE1748, f1750⟩
    refine rd_ret ?_
    refine rd_var rfl ?_
    cases h
    exact kq w1749 _ _ S1747.toRet (S1747.get 0 rfl) f1750
end
end K84

namespace K84
open PySem L2 LX LQ
section
variable {P : Program} {w : World} {K : PySem.W.Frag} {mg : Str → Option Value} {base : Heap} {a : Ad}
open LQF
def sp__law_lineup (K : PySem.W.Frag) : Sp := fun vs H Q _ => ∃ (a1751 : Addr) (w1752 : List V) (x_pool : (List Int)) (x_many : Int), vs = [.ref a1751, (.int x_many)] ∧ H a1751 = some (.lst w1752) ∧ FrL E0h (hid H [a1751]) w1752 (x_pool.map eI) ∧ ∃ r, F__law_lineup x_pool x_many = some r ∧ ∀ (a : Addr) (u0 : List V) (G H' : Hp), Ret [a1751] H G H' → H' a1751 = some (.lst u0) → FrL E0h G u0 ((r.2).map eI) → Fr H G (.ref a) ((eL (eT2 eI eS)) (r.1)) → Q (.ref a) H'
theorem ok__law_lineup (T : Txt K mg a) : FnOk P w K mg base CX0 2 a.f__law_lineup a.d__law_lineup ["pool", "many"] (sp__law_lineup K) := by
  refine T.F__law_lineup.ok sc__law_lineup (fun vs H Q E h => ?_) (fun cdv A outer s H0 vs Q E hr h => ?_)
  · obtain ⟨a1751, w1752, x_pool, x_many, rfl, _⟩ := h
    rfl
  · obtain ⟨a1751, w1752, x_pool, x_many, rfl, h1753, f1754, r, h, kq⟩ := h
    have nd := sc__law_lineup.nd
    have hu64 := hr.units
    have hu65 := units65 hr
    refine ⟨_, (pss_cons (ps_set (i := 2) nd rfl (Or.inr rfl) (pe_listRg rfl rfl T.b_list (prg_1 rfl T.b_range (pv 1))))
      (pss_cons (ps_setLc (i := 3) (own := [("k", 5)]) (g := gName 5) (tt := tYes) rfl nd rfl rfl (sw_true rfl rfl rfl (by decide +kernel)) (pi_range1 rfl T.b_range (pa_cons (pv 1) pa_nil)) (blkOk_by (own := [("k", 5)]) (N := ["pool", "many", "left", "order", "colors_here", "k", "person"]) (sc := defScope s__law_lineup) (by decide +kernel)) (fun _ _ _ _ _ => (pg_name (i := 5) nd rfl (Or.inl rfl))) (fun _ _ _ _ _ => pts_nil) (fun _ _ _ _ _ => (kbm (K := K) PySem.F.plainAttrs_list PySem.F.slot_list_pop PySem.F.type_list_pop mt_popAt (pv 2) (pa_cons (pe_call (ok__law_draw T) (hr.mono (by decide)) rfl T.g__law_draw T.k__law_draw T.n__law_draw .nil pass0 (pa_cons (pv 0) (pa_cons (pe_callB (klen (K := K)) (by rfl) T.b_len (by decide +kernel) (pa_cons (pv 2) pa_nil)) pa_nil))) pa_nil))))
      (pss_cons (ps_set (i := 4) nd rfl (Or.inr rfl) (pe_lc (own := [("k", 5)]) (g := gName 5) (tt := tYes) rfl nd (pi_range1 rfl T.b_range (pa_cons (pe_op op_add pe_int (pe_call (ok__law_draw T) (hr.mono (by decide)) rfl T.g__law_draw T.k__law_draw T.n__law_draw .nil pass0 (pa_cons (pv 0) (pa_cons (pv 1) pa_nil)))) pa_nil)) (blkOk_by (own := [("k", 5)]) (N := ["pool", "many", "left", "order", "colors_here", "k", "person"]) (sc := defScope s__law_lineup) (by decide +kernel)) (fun _ _ _ _ _ => (pg_name (i := 5) nd rfl (Or.inl rfl))) (fun _ _ _ _ _ => pts_nil) (fun _ _ _ _ _ => (pe_ix ix_str pe_str (pe_call (ok__law_draw T) (hr.mono (by decide)) rfl T.g__law_draw T.k__law_draw T.n__law_draw .nil pass0 (pa_cons (pv 0) (pa_cons pe_int pa_nil))) (fun _ _ => rfl)))))
      (pss_one (ps_ret (pe_lc (own := [("person", 6)]) (g := gName 6) (tt := tYes) rfl nd (kpi_list (K := K) (pv 3)) (blkOk_by (own := [("person", 6)]) (N := ["pool", "many", "left", "order", "colors_here", "k", "person"]) (sc := defScope s__law_lineup) (by decide +kernel)) (fun _ _ _ _ _ => (pg_name (i := 6) nd rfl (Or.inl rfl))) (fun _ _ _ _ _ => pts_nil) (fun _ _ _ _ _ => (pe_tup (pa_cons (pv 6) (pa_cons (pe_ix (kix_list (K := K)) (pv 4) (pe_call (ok__law_draw T) (hr.mono (by decide)) rfl T.g__law_draw T.k__law_draw T.n__law_draw .nil pass0 (pa_cons (pv 0) (pa_cons (pe_callB (klen (K := K)) (by rfl) T.b_len (by decide +kernel) (pa_cons (pv 4) pa_nil)) pa_nil))) (fun _ _ => rfl)) pa_nil)))))))))), ?_⟩
    unfold F__law_lineup at h
    have S0 := Sep.start1 h1753
    refine rd_seq ?_
    refine rd_asg ?_
    refine rd_lstRgZ ?_
    refine rd_rg1 ?_
    refine rd_var rfl ?_
    refine ⟨_, rfl, ?_⟩
    obtain ⟨l1755, h1756, h⟩ := bnd h
    refine q_lrg h1756 ?_
    refine q_newO S0 fun a1757 H1758 S1759 n1760 => ?_
    have f1761 : FrL H0 (hid H0 [a1751]) (l1755.map V.int) (l1755.map eI) := (ints_frl l1755)
    refine rd_nameS (σ' := [some (.ref a1751), some (.int x_many), some (.ref a1757), none, none, none, none]) rfl ?_
    refine rd_mk ?_
    refine rd_seq ?_
    refine rd_asg ?_
    refine rd_lc ?_
    refine rd_iR1 ?_
    refine rd_cons ?_
    refine rd_var rfl ?_
    refine rd_nil ?_
    obtain ⟨l1762, h1763, h⟩ := bnd h
    refine q_rng1 h1763 ?_
    intro D1764 h1765
    have S1817 := S1759
    have f1818 : FrL H0 (hid H0 [a1751]) ((l1755).map V.int) ((l1755).map eI) := ints_frl _
    have S1817 : Sep [a1751] H0 (hid H0 [a1751]) H1758 [(a1757, .lst ((l1755).map V.int)), (a1751, .lst w1752)] := S1817
    have S1819 := S1817
    rw [frl_ints f1754] at S1819
    have f1820 : FrL H0 (hid H0 [a1751]) ((x_pool).map V.int) ((x_pool).map eI) := ints_frl _
    have S1819 : Sep [a1751] H0 (hid H0 [a1751]) H1758 [(a1757, .lst ((l1755).map V.int)), (a1751, .lst ((x_pool).map V.int))] := S1819
    obtain ⟨l1849, h1850, h⟩ := bnd h
    refine q_lcLS (c := fun (s1815 : ((List Int) × (List Int))) => ([(a1757, .lst ((s1815.1).map V.int)), (a1751, .lst ((s1815.2).map V.int))] : List (Addr × HO))) (ys := l1849.1) (s1 := l1849.2) (enc := eI) (F0 := H0) h1850 (w_rng1 h1763) S1819 h1765 S1819.old ?_ ?_ ?_
    · rintro svD1764 GD1764 HD1764 accD1764 SD1764 sD1764
      exact trivial
    · rintro i1803 x1804 a1802 s1815 o1813 s1816 G1807 H1805 H1806 acc1812 h1810 h S1808 s1809 h1811 T F hT hF
      have S1808 : Sep [a1751] H0 G1807 H1805 [(D1764, .lst acc1812), (a1757, .lst ((s1815.1).map V.int)), (a1751, .lst ((s1815.2).map V.int))] := S1808
      have f1821 : FrL H0 G1807 ((s1815.1).map V.int) ((s1815.1).map eI) := ints_frl _
      have f1822 : FrL H0 G1807 ((s1815.2).map V.int) ((s1815.2).map eI) := ints_frl _
      have sT1814 := Same.refl G1807
      obtain ⟨rfl, e1823⟩ := h1811
      cases e1823 _ h1810
      refine rd_nameS (σ' := [some (.ref a1751), some (.int x_many), some (.ref a1757), none, none, some (.int a1802), none]) rfl ?_
      refine ⟨rfl, ?_⟩
      refine rd_tyes ?_
      refine iteY rfl ?_
      refine rd_bm ?_
      refine rd_var rfl ?_
      refine ⟨Or.inl ⟨rfl, _, SqL.of (S1808.get 1 rfl)⟩, ?_⟩
      refine rd_cons ?_
      refine rd_call ?_
      refine rd_cons ?_
      refine rd_var rfl ?_
      refine rd_cons ?_
      refine rd_cb ?_
      refine rd_cons ?_
      refine rd_var rfl ?_
      refine rd_nil ?_
      refine q_len (S1808.get 1 rfl) f1821 ?_
      refine rd_nil ?_
      obtain ⟨y1824, h1825, h⟩ := bnd h
      refine ⟨a1751, ((s1815.2).map V.int), s1815.2, (lenI s1815.1), rfl, (S1808.get 2 rfl), (f1822.rp.same (S1808.hid1 2 rfl)), y1824, h1825, fun w1829 G1826 H1827 R1828 h1830 k1831 => ?_⟩
      obtain ⟨G1832, S1833, s1834, t1835, l1836⟩ := S1808.ret1 2 rfl R1828 h1830 lst_tup
      have k1831 := l1836 _ _ (k1831.imm (flat_map flI _))
      have f1821 := f1821.same s1834
      have f1822 := f1822.same s1834
      have sT1814 := sT1814.trans s1834
      have S1833 : Sep [a1751] H0 G1832 H1827 [(D1764, .lst acc1812), (a1757, .lst ((s1815.1).map V.int)), (a1751, .lst w1829)] := S1833
      refine rd_nil ?_
      obtain ⟨y1837, h1838, h⟩ := bnd h
      refine q_popAt (x := y1837.1) (r := y1837.2) S1833 1 rfl f1821 h1838 fun v1839 w1840 H1841 S1842 f1843 f1844 => ?_
      have S1842 : Sep [a1751] H0 G1832 H1841 [(D1764, .lst acc1812), (a1757, .lst w1840), (a1751, .lst w1829)] := S1842
      cases fr_int f1844
      have S1845 := S1842
      rw [frl_ints f1843] at S1845
      have f1846 : FrL H0 G1832 ((y1837.2).map V.int) ((y1837.2).map eI) := ints_frl _
      have S1845 : Sep [a1751] H0 G1832 H1841 [(D1764, .lst acc1812), (a1757, .lst ((y1837.2).map V.int)), (a1751, .lst w1829)] := S1845
      have S1847 := S1845
      rw [frl_ints k1831] at S1847
      have f1848 : FrL H0 G1832 ((y1824.2).map V.int) ((y1824.2).map eI) := ints_frl _
      have S1847 : Sep [a1751] H0 G1832 H1841 [(D1764, .lst acc1812), (a1757, .lst ((y1837.2).map V.int)), (a1751, .lst ((y1824.2).map V.int))] := S1847
      cases h
      exact hT _ _ _ _ rfl S1847 sT1814 (.int _)
    rintro G1852 H1853 w1854 S1855 s1856 f1857 n1858 n1859
    have f1860 : FrL H0 G1852 ((l1849.2.1).map V.int) ((l1849.2.1).map eI) := ints_frl _
    have f1861 : FrL H0 G1852 ((l1849.2.2).map V.int) ((l1849.2.2).map eI) := ints_frl _
    have S1855 : Sep [a1751] H0 G1852 H1853 [(D1764, .lst w1854), (a1757, .lst ((l1849.2.1).map V.int)), (a1751, .lst ((l1849.2.2).map V.int))] := S1855
    obtain ⟨G1862, S1863, s1864, f1865⟩ := S1855.fixF 0 rfl (S1855.notms n1858) f1857 n1859
    have f1860 := f1860.same s1864
    have f1861 := f1861.same s1864
    refine rd_nameS (σ' := [some (.ref a1751), some (.int x_many), some (.ref a1757), some (.ref D1764), none, none, none]) rfl ?_
    refine rd_mk ?_
    refine rd_seq ?_
    refine rd_asg ?_
    refine rd_lc ?_
    refine rd_iR1 ?_
    refine rd_cons ?_
    refine rd_op ?_
    refine rd_c ?_
    refine rd_call ?_
    refine rd_cons ?_
    refine rd_var rfl ?_
    refine rd_cons ?_
    refine rd_var rfl ?_
    refine rd_nil ?_
    obtain ⟨y1866, h1867, h⟩ := bnd h
    refine ⟨a1751, ((l1849.2.2).map V.int), l1849.2.2, x_many, rfl, (S1863.get 1 rfl), (f1861.rp.same (S1863.hid1 1 rfl)), y1866, h1867, fun w1871 G1868 H1869 R1870 h1872 k1873 => ?_⟩
    obtain ⟨G1874, S1875, s1876, t1877, l1878⟩ := S1863.ret1 1 rfl R1870 h1872 lst_tup
    have k1873 := l1878 _ _ (k1873.imm (flat_map flI _))
    have f1865 := f1865.same s1876
    have f1860 := f1860.same s1876
    have f1861 := f1861.same s1876
    have S1875 : Sep [a1751] H0 G1874 H1869 [(a1757, .lst ((l1849.2.1).map V.int)), (a1751, .lst w1871)] := S1875
    refine rd_I0 ?_
    refine rd_nil ?_
    obtain ⟨l1879, h1880, h⟩ := bnd h
    refine q_rng1 h1880 ?_
    intro D1881 h1882
    have S1928 := S1875
    rw [frl_ints k1873] at S1928
    have f1929 : FrL H0 G1874 ((y1866.2).map V.int) ((y1866.2).map eI) := ints_frl _
    have S1928 : Sep [a1751] H0 G1874 H1869 [(a1757, .lst ((l1849.2.1).map V.int)), (a1751, .lst ((y1866.2).map V.int))] := S1928
    obtain ⟨l1949, h1950, h⟩ := bnd h
    refine q_lcLS (c := fun (s1926 : (List Int)) => ([(a1757, .lst ((l1849.2.1).map V.int)), (a1751, .lst ((s1926).map V.int))] : List (Addr × HO))) (ys := l1949.1) (s1 := l1949.2) (enc := eS) (F0 := H0) h1950 (w_rng1 h1880) S1928 h1882 S1928.old ?_ ?_ ?_
    · rintro svD1881 GD1881 HD1881 accD1881 SD1881 sD1881
      exact trivial
    · rintro i1914 x1915 a1913 s1926 o1924 s1927 G1918 H1916 H1917 acc1923 h1921 h S1919 s1920 h1922 T F hT hF
      have f1865 := f1865.same s1920
      have f1860 := f1860.same s1920
      have S1919 : Sep [a1751] H0 G1918 H1916 [(D1881, .lst acc1923), (a1757, .lst ((l1849.2.1).map V.int)), (a1751, .lst ((s1926).map V.int))] := S1919
      have f1930 : FrL H0 G1918 ((s1926).map V.int) ((s1926).map eI) := ints_frl _
      have sT1925 := Same.refl G1918
      obtain ⟨rfl, e1931⟩ := h1922
      cases e1931 _ h1921
      refine rd_nameS (σ' := [some (.ref a1751), some (.int x_many), some (.ref a1757), some (.ref D1764), none, some (.int a1913), none]) rfl ?_
      refine ⟨rfl, ?_⟩
      refine rd_tyes ?_
      refine iteY rfl ?_
      refine rd_op ?_
      refine rd_c ?_
      refine rd_call ?_
      refine rd_cons ?_
      refine rd_var rfl ?_
      refine rd_cons ?_
      refine rd_c ?_
      refine rd_nil ?_
      obtain ⟨y1932, h1933, h⟩ := bnd h
      refine ⟨a1751, ((s1926).map V.int), s1926, (26 : Int), rfl, (S1919.get 2 rfl), (f1930.rp.same (S1919.hid1 2 rfl)), y1932, h1933, fun w1937 G1934 H1935 R1936 h1938 k1939 => ?_⟩
      obtain ⟨G1940, S1941, s1942, t1943, l1944⟩ := S1919.ret1 2 rfl R1936 h1938 lst_tup
      have k1939 := l1944 _ _ (k1939.imm (flat_map flI _))
      have f1865 := f1865.same s1942
      have f1860 := f1860.same s1942
      have f1930 := f1930.same s1942
      have sT1925 := sT1925.trans s1942
      have S1941 : Sep [a1751] H0 G1940 H1935 [(D1881, .lst acc1923), (a1757, .lst ((l1849.2.1).map V.int)), (a1751, .lst w1937)] := S1941
      obtain ⟨y1945, h1946, h⟩ := bnd h
      refine q_ixS h1946 ?_
      have S1947 := S1941
      rw [frl_ints k1939] at S1947
      have f1948 : FrL H0 G1940 ((y1932.2).map V.int) ((y1932.2).map eI) := ints_frl _
      have S1947 : Sep [a1751] H0 G1940 H1935 [(D1881, .lst acc1923), (a1757, .lst ((l1849.2.1).map V.int)), (a1751, .lst ((y1932.2).map V.int))] := S1947
      cases h
      exact hT _ _ _ _ rfl S1947 sT1925 (.str _)
    rintro G1952 H1953 w1954 S1955 s1956 f1957 n1958 n1959
    have f1865 := f1865.same s1956
    have f1860 := f1860.same s1956
    have f1960 : FrL H0 G1952 ((l1949.2).map V.int) ((l1949.2).map eI) := ints_frl _
    have S1955 : Sep [a1751] H0 G1952 H1953 [(D1881, .lst w1954), (a1757, .lst ((l1849.2.1).map V.int)), (a1751, .lst ((l1949.2).map V.int))] := S1955
    obtain ⟨G1961, S1962, s1963, f1964⟩ := S1955.fixF 0 rfl (S1955.notms n1958) f1957 n1959
    have f1865 := f1865.same s1963
    have f1860 := f1860.same s1963
    have f1960 := f1960.same s1963
    refine rd_nameS (σ' := [some (.ref a1751), some (.int x_many), some (.ref a1757), some (.ref D1764), some (.ref D1881), none, none]) rfl ?_
    refine rd_mk ?_
    refine rd_ret ?_
    refine rd_lc ?_
    refine rd_iList ?_
    refine rd_var rfl ?_
    obtain ⟨w1965, h1966, k1967⟩ := li f1865
    refine ⟨_, rfl, ⟨_, SqL.of (S1962.sub _ _ h1966)⟩, ?_⟩
    intro D1968 h1969
    have S2030 := S1962
    rw [frl_ints f1960] at S2030
    have f2031 : FrL H0 G1961 ((l1949.2).map V.int) ((l1949.2).map eI) := ints_frl _
    have S2030 : Sep [a1751] H0 G1961 H1953 [(a1757, .lst ((l1849.2.1).map V.int)), (a1751, .lst ((l1949.2).map V.int))] := S2030
    obtain ⟨l2066, h2067, h⟩ := bnd h
    refine q_lcLS (c := fun (s2028 : (List Int)) => ([(a1757, .lst ((l1849.2.1).map V.int)), (a1751, .lst ((s2028).map V.int))] : List (Addr × HO))) (ys := l2066.1) (s1 := l2066.2) (enc := (eT2 eI eS)) (F0 := H0) h2067 (w_li k1967) S2030 h1969 S2030.old ?_ ?_ ?_
    · rintro svD1968 GD1968 HD1968 accD1968 SD1968 sD1968
      exact (SD1968.sub _ _ (sD1968 _ _ h1966))
    · rintro i2016 x2017 a2015 s2028 o2026 s2029 G2020 H2018 H2019 acc2025 h2023 h S2021 s2022 h2024 T F hT hF
      have f1865 := f1865.same s2022
      have f1964 := f1964.same s2022
      have f1860 := f1860.same s2022
      have S2021 : Sep [a1751] H0 G2020 H2018 [(D1968, .lst acc2025), (a1757, .lst ((l1849.2.1).map V.int)), (a1751, .lst ((s2028).map V.int))] := S2021
      have f2032 : FrL H0 G2020 ((s2028).map V.int) ((s2028).map eI) := ints_frl _
      have sT2027 := Same.refl G2020
      obtain ⟨rfl, e2033⟩ := h2024
      have f2034 := (e2033 _ h2023).same s2022
      cases fr_int f2034
      refine rd_nameS (σ' := [some (.ref a1751), some (.int x_many), some (.ref a1757), some (.ref D1764), some (.ref D1881), none, some (.int a2015)]) rfl ?_
      refine ⟨rfl, ?_⟩
      refine rd_tyes ?_
      refine iteY rfl ?_
      refine rd_tupZ ?_
      refine rd_cons ?_
      refine rd_var rfl ?_
      refine rd_cons ?_
      refine rd_op ?_
      refine rd_var rfl ?_
      refine rd_call ?_
      refine rd_cons ?_
      refine rd_var rfl ?_
      refine rd_cons ?_
      refine rd_cb ?_
      refine rd_cons ?_
      refine rd_var rfl ?_
      refine rd_nil ?_
      obtain ⟨w2035, h2036, k2037⟩ := li f1964
      refine q_len (S2021.sub _ _ h2036) k2037 ?_
      refine rd_nil ?_
      obtain ⟨y2038, h2039, h⟩ := bnd h
      refine ⟨a1751, ((s2028).map V.int), s2028, (lenI l1949.1), rfl, (S2021.get 2 rfl), (f2032.rp.same (S2021.hid1 2 rfl)), y2038, h2039, fun w2043 G2040 H2041 R2042 h2044 k2045 => ?_⟩
      obtain ⟨G2046, S2047, s2048, t2049, l2050⟩ := S2021.ret1 2 rfl R2042 h2044 lst_tup
      have k2045 := l2050 _ _ (k2045.imm (flat_map flI _))
      have f1865 := f1865.same s2048
      have f1964 := f1964.same s2048
      have f1860 := f1860.same s2048
      have f2032 := f2032.same s2048
      have sT2027 := sT2027.trans s2048
      have S2047 : Sep [a1751] H0 G2046 H2041 [(D1968, .lst acc2025), (a1757, .lst ((l1849.2.1).map V.int)), (a1751, .lst w2043)] := S2047
      obtain ⟨y2051, h2052, h⟩ := bnd h
      obtain ⟨w2053, h2054, k2055⟩ := li f1964
      refine q_ixL (F0 := H0) (S2047.sub _ _ h2054) k2055 h2052 fun v2056 f2057 => ?_
      cases fr_str f2057
      refine rd_nil ?_
      refine q_tup (F0 := H0) (ds := [eI a2015, eS y2051]) S2047 (by show 2 ≤ LIM; decide) (.cons (.int _) (.cons (.str _) .nil)) fun a2058 G2059 H2060 S2061 s2062 f2063 => ?_
      have f1865 := f1865.same s2062
      have f1964 := f1964.same s2062
      have f1860 := f1860.same s2062
      have k2045 := k2045.same s2062
      have sT2027 := sT2027.trans s2062
      replace f2063 : Fr H0 G2059 (.ref a2058) ((eT2 eI eS) (a2015, y2051)) := f2063
      have S2064 := S2061
      rw [frl_ints k2045] at S2064
      have f2065 : FrL H0 G2059 ((y2038.2).map V.int) ((y2038.2).map eI) := ints_frl _
      have S2064 : Sep [a1751] H0 G2059 H2060 [(D1968, .lst acc2025), (a1757, .lst ((l1849.2.1).map V.int)), (a1751, .lst ((y2038.2).map V.int))] := S2064
      cases h
      exact hT _ _ _ _ rfl S2064 sT2027 f2063
    rintro G2069 H2070 w2071 S2072 s2073 f2074 n2075 n2076
    have f1865 := f1865.same s2073
    have f1964 := f1964.same s2073
    have f1860 := f1860.same s2073
    have f2077 : FrL H0 G2069 ((l2066.2).map V.int) ((l2066.2).map eI) := ints_frl _
    have S2072 : Sep [a1751] H0 G2069 H2070 [(D1968, .lst w2071), (a1757, .lst ((l1849.2.1).map V.int)), (a1751, .lst ((l2066.2).map V.int))] := S2072
    obtain ⟨G2078, S2079, s2080, f2081⟩ := S2072.fixF 0 rfl (S2072.notms n2075) f2074 n2076
    have f1865 := f1865.same s2080
    have f1964 := f1964.same s2080
    have f1860 := f1860.same s2080
    have f2077 := f2077.same s2080
    cases h
    exact kq D1968 ((l2066.2).map V.int) _ _ S2079.toRet (S2079.get 1 rfl) f2077.rp f2081
end
end K84

namespace K84
open PySem L2 LX LQ
section
variable {P : Program} {w : World} {K : PySem.W.Frag} {mg : Str → Option Value} {base : Heap} {a : Ad}
open LQF
def sp__law_called (K : PySem.W.Frag) : Sp := fun vs H Q _ => ∃ (a2082 : Addr) (x_start : (List (Int × Str))) (x_who : Int), vs = [.ref a2082, (.int x_who)] ∧ Fr E0h H (.ref a2082) ((eL (eT2 eI eS)) x_start) ∧ ∃ r, F__law_called x_start x_who = some r ∧ ∀ (a : Addr) (G H' : Hp), Ret [] H G H' → Fr H G (.ref a) ((eL (eT2 eI eS)) (r)) → Q (.ref a) H'
theorem ok__law_called (T : Txt K mg a) : FnOk P w K mg base CX0 1 a.f__law_called a.d__law_called ["start", "who"] (sp__law_called K) := by
  refine T.F__law_called.ok sc__law_called (fun vs H Q E h => ?_) (fun cdv A outer s H0 vs Q E hr h => ?_)
  · obtain ⟨a2082, x_start, x_who, rfl, _⟩ := h
    rfl
  · obtain ⟨a2082, x_start, x_who, rfl, f2083, r, h, kq⟩ := h
    have nd := sc__law_called.nd
    have hu64 := hr.units
    have hu65 := units65 hr
    refine ⟨_, (pss_cons (ps_set (i := 2) nd rfl (Or.inr rfl) (pe_ix (kix_list (K := K)) (pe_lc (own := [("one", 4), ("color", 5)]) (g := gTup K 2 (gCons (gName 4) (gCons (gName 5) gNil))) rfl nd (kpi_list (K := K) (pv 0)) (blkOk_by (own := [("one", 4), ("color", 5)]) (N := ["start", "who", "own", "others_there", "one", "color", "pair"]) (sc := defScope s__law_called) (by decide +kernel)) (fun _ _ _ _ _ => (kpg_tup (K := K) rfl (pgs_cons (pg_name (i := 4) nd rfl (Or.inl rfl)) (pgs_cons (pg_name (i := 5) nd rfl (Or.inl rfl)) pgs_nil)))) (fun _ _ _ _ _ => pts_one (pt_cmpR op_eq (pv 4) (pv 1) (nomark _))) (fun _ _ _ _ _ => (pv 5))) pe_int (fun _ _ => rfl)))
      (pss_cons (ps_setLc (i := 3) (own := [("one", 4), ("color", 5)]) (g := gTup K 2 (gCons (gName 4) (gCons (gName 5) gNil))) rfl nd rfl rfl (sw_true rfl rfl rfl (by decide +kernel)) (kpi_list (K := K) (pv 0)) (blkOk_by (own := [("one", 4), ("color", 5)]) (N := ["start", "who", "own", "others_there", "one", "color", "pair"]) (sc := defScope s__law_called) (by decide +kernel)) (fun _ _ _ _ _ => (kpg_tup (K := K) rfl (pgs_cons (pg_name (i := 4) nd rfl (Or.inl rfl)) (pgs_cons (pg_name (i := 5) nd rfl (Or.inl rfl)) pgs_nil)))) (fun _ _ _ _ _ => pts_one (pt_cmpR op_ne (pv 5) (pv 2) (nomark _))) (fun _ _ _ _ _ => (pv 5)))
      (pss_one (ps_ret (pe_op op_cat (pe_lst (pa_cons (pe_tup (pa_cons (pv 1) (pa_cons (pe_ix (kix_list (K := K)) (pe_op op_cat (pv 3) (pe_lst (pa_cons (pv 2) pa_nil))) pe_int (fun _ _ => rfl)) pa_nil))) pa_nil)) (pe_lc (own := [("pair", 6)]) (g := gName 6) rfl nd (kpi_list (K := K) (pv 0)) (blkOk_by (own := [("pair", 6)]) (N := ["start", "who", "own", "others_there", "one", "color", "pair"]) (sc := defScope s__law_called) (by decide +kernel)) (fun _ _ _ _ _ => (pg_name (i := 6) nd rfl (Or.inl rfl))) (fun _ _ _ _ _ => pts_one (pt_cmpR op_ne (pe_ix (kix_tup (K := K)) (pv 6) pe_int (fun _ _ => rfl)) (pv 1) (nomark _))) (fun _ _ _ _ _ => (pv 6)))))))), ?_⟩
    unfold F__law_called at h
    have S0 := Sep.start H0
    refine rd_seq ?_
    refine rd_asg ?_
    refine rd_op ?_
    refine rd_lc ?_
    refine rd_iList ?_
    refine rd_var rfl ?_
    obtain ⟨w2084, h2085, k2086⟩ := li f2083
    refine ⟨_, rfl, ⟨_, SqL.of (S0.sub _ _ h2085)⟩, ?_⟩
    intro D2087 h2088
    obtain ⟨l2111, h2112, h⟩ := bnd h
    refine q_lcL (enc := eS) (F0 := H0) h2112 (w_li k2086) S0 h2088 S0.old ?_ ?_ ?_
    · rintro GD2087 HD2087 accD2087 SD2087 sD2087
      exact (SD2087.sub _ _ (sD2087 _ _ h2085))
    · rintro i2090 x2091 a2089 o2100 G2094 H2092 H2093 acc2099 h2097 h S2095 s2096 h2098 T F hT hF
      have f2083 := f2083.same s2096
      have sT2101 := Same.refl G2094
      obtain ⟨rfl, e2103⟩ := h2098
      have f2104 := (e2103 _ h2097).same s2096
      obtain ⟨a2105, rfl⟩ := fr_tup f2104
      obtain ⟨v2106, v2107, h2110, f2108, f2109⟩ := tu2 f2104
      cases fr_int f2108
      cases fr_str f2109
      refine rd_gtup (S2095.sub _ _ h2110) rfl ?_
      refine rd_gcons ?_
      refine rd_nameS (σ' := [some (.ref a2082), some (.int x_who), none, none, some (.int a2089.1), none, none]) rfl ?_
      refine rd_gcons ?_
      refine rd_nameS (σ' := [some (.ref a2082), some (.int x_who), none, none, some (.int a2089.1), some (.str a2089.2), none]) rfl ?_
      refine rd_gnil ?_
      refine ⟨rfl, ?_⟩
      refine rd_test ?_
      refine rd_op ?_
      refine rd_var rfl ?_
      refine rd_var rfl ?_
      refine q_eqI ?_
      refine rd_bl ?_
      rcases cnd h with ⟨c2113, h⟩ | ⟨c2113, h⟩
      ·
        refine iteY c2113 ?_
        refine rd_var rfl ?_
        cases h
        exact hT _ _ _ _ rfl S2095 sT2101 (.str _)
      ·
        refine iteN c2113 ?_
        cases h
        exact hF _ _ rfl S2095 sT2101
    rintro G2114 H2115 w2116 S2117 s2118 f2119 n2120 n2121
    have f2083 := f2083.same s2118
    obtain ⟨G2122, S2123, s2124, f2125⟩ := S2117.fixF 0 rfl (by simp) f2119 n2121
    have f2083 := f2083.same s2124
    refine rd_c ?_
    obtain ⟨y2126, h2127, h⟩ := bnd h
    obtain ⟨w2128, h2129, k2130⟩ := li f2125
    refine q_ixL (F0 := H0) (S2123.sub _ _ h2129) k2130 h2127 fun v2131 f2132 => ?_
    cases fr_str f2132
    refine rd_nameS (σ' := [some (.ref a2082), some (.int x_who), some (.str y2126), none, none, none, none]) rfl ?_
    refine rd_mk ?_
    refine rd_seq ?_
    refine rd_asg ?_
    refine rd_lc ?_
    refine rd_iList ?_
    refine rd_var rfl ?_
    obtain ⟨w2133, h2134, k2135⟩ := li f2083
    refine ⟨_, rfl, ⟨_, SqL.of (S2123.sub _ _ h2134)⟩, ?_⟩
    intro D2136 h2137
    obtain ⟨l2160, h2161, h⟩ := bnd h
    refine q_lcL (enc := eS) (F0 := H0) h2161 (w_li k2135) S2123 h2137 S2123.old ?_ ?_ ?_
    · rintro GD2136 HD2136 accD2136 SD2136 sD2136
      exact (SD2136.sub _ _ (sD2136 _ _ h2134))
    · rintro i2139 x2140 a2138 o2149 G2143 H2141 H2142 acc2148 h2146 h S2144 s2145 h2147 T F hT hF
      have f2083 := f2083.same s2145
      have sT2150 := Same.refl G2143
      obtain ⟨rfl, e2152⟩ := h2147
      have f2153 := (e2152 _ h2146).same s2145
      obtain ⟨a2154, rfl⟩ := fr_tup f2153
      obtain ⟨v2155, v2156, h2159, f2157, f2158⟩ := tu2 f2153
      cases fr_int f2157
      cases fr_str f2158
      refine rd_gtup (S2144.sub _ _ h2159) rfl ?_
      refine rd_gcons ?_
      refine rd_nameS (σ' := [some (.ref a2082), some (.int x_who), some (.str y2126), none, some (.int a2138.1), none, none]) rfl ?_
      refine rd_gcons ?_
      refine rd_nameS (σ' := [some (.ref a2082), some (.int x_who), some (.str y2126), none, some (.int a2138.1), some (.str a2138.2), none]) rfl ?_
      refine rd_gnil ?_
      refine ⟨rfl, ?_⟩
      refine rd_test ?_
      refine rd_op ?_
      refine rd_var rfl ?_
      refine rd_var rfl ?_
      refine q_neS ?_
      refine rd_bl ?_
      rcases cnd h with ⟨c2162, h⟩ | ⟨c2162, h⟩
      ·
        refine iteY c2162 ?_
        refine rd_var rfl ?_
        cases h
        exact hT _ _ _ _ rfl S2144 sT2150 (.str _)
      ·
        refine iteN c2162 ?_
        cases h
        exact hF _ _ rfl S2144 sT2150
    rintro G2163 H2164 w2165 S2166 s2167 f2168 n2169 n2170
    have f2083 := f2083.same s2167
    obtain ⟨G2171, S2172, s2173, f2174⟩ := S2166.fixF 0 rfl (by simp) f2168 n2170
    have f2083 := f2083.same s2173
    refine rd_nameS (σ' := [some (.ref a2082), some (.int x_who), some (.str y2126), some (.ref D2136), none, none, none]) rfl ?_
    refine rd_mk ?_
    refine rd_ret ?_
    refine rd_op ?_
    refine rd_lstZ ?_
    refine rd_cons ?_
    refine rd_tupZ ?_
    refine rd_cons ?_
    refine rd_var rfl ?_
    refine rd_cons ?_
    refine rd_op ?_
    refine rd_op ?_
    refine rd_var rfl ?_
    refine rd_lstZ ?_
    refine rd_cons ?_
    refine rd_var rfl ?_
    refine rd_nil ?_
    refine q_lst (F0 := H0) (ds := [eS y2126]) S2172 (by show 1 ≤ LIM; decide) (.cons (.str _) .nil) S2172.old fun a2175 G2176 H2177 S2178 s2179 f2180 => ?_
    have f2083 := f2083.same s2179
    have f2174 := f2174.same s2179
    replace f2180 : Fr H0 G2176 (.ref a2175) ((eL eS) [y2126]) := f2180
    obtain ⟨y2181, h2182, h⟩ := bnd h
    obtain ⟨w2183, h2184, k2185⟩ := li f2174
    obtain ⟨w2186, h2187, k2188⟩ := li f2180
    refine q_cat S2178 (S2178.sub _ _ h2184) k2185 (S2178.sub _ _ h2187) k2188 h2182 S2178.old fun a2189 G2192 H2190 S2191 s2193 f2194 => ?_
    have f2083 := f2083.same s2193
    have f2174 := f2174.same s2193
    refine rd_c ?_
    obtain ⟨y2195, h2196, h⟩ := bnd h
    obtain ⟨w2197, h2198, k2199⟩ := li f2194
    refine q_ixL (F0 := H0) (S2191.sub _ _ h2198) k2199 h2196 fun v2200 f2201 => ?_
    cases fr_str f2201
    refine rd_nil ?_
    refine q_tup (F0 := H0) (ds := [eI x_who, eS y2195]) S2191 (by show 2 ≤ LIM; decide) (.cons (.int _) (.cons (.str _) .nil)) fun a2202 G2203 H2204 S2205 s2206 f2207 => ?_
    have f2083 := f2083.same s2206
    have f2174 := f2174.same s2206
    replace f2207 : Fr H0 G2203 (.ref a2202) ((eT2 eI eS) (x_who, y2195)) := f2207
    refine rd_nil ?_
    refine q_lst (F0 := H0) (ds := [(eT2 eI eS) (x_who, y2195)]) S2205 (by show 1 ≤ LIM; decide) (.cons f2207 .nil) S2205.old fun a2208 G2209 H2210 S2211 s2212 f2213 => ?_
    have f2083 := f2083.same s2212
    have f2174 := f2174.same s2212
    replace f2213 : Fr H0 G2209 (.ref a2208) ((eL (eT2 eI eS)) [(x_who, y2195)]) := f2213
    refine rd_lc ?_
    refine rd_iList ?_
    refine rd_var rfl ?_
    obtain ⟨w2214, h2215, k2216⟩ := li f2083
    refine ⟨_, rfl, ⟨_, SqL.of (S2211.sub _ _ h2215)⟩, ?_⟩
    intro D2217 h2218
    obtain ⟨l2241, h2242, h⟩ := bnd h
    refine q_lcL (enc := (eT2 eI eS)) (F0 := H0) h2242 (w_li k2216) S2211 h2218 S2211.old ?_ ?_ ?_
    · rintro GD2217 HD2217 accD2217 SD2217 sD2217
      exact (SD2217.sub _ _ (sD2217 _ _ h2215))
    · rintro i2220 x2221 a2219 o2230 G2224 H2222 H2223 acc2229 h2227 h S2225 s2226 h2228 T F hT hF
      have f2083 := f2083.same s2226
      have f2174 := f2174.same s2226
      have f2213 := f2213.same s2226
      have sT2231 := Same.refl G2224
      obtain ⟨rfl, e2233⟩ := h2228
      have f2234 := (e2233 _ h2227).same s2226
      obtain ⟨a2235, rfl⟩ := fr_tup f2234
      refine rd_nameS (σ' := [some (.ref a2082), some (.int x_who), some (.str y2126), some (.ref D2136), none, none, some (.ref a2235)]) rfl ?_
      refine ⟨rfl, ?_⟩
      refine rd_test ?_
      refine rd_op ?_
      refine rd_op ?_
      refine rd_var rfl ?_
      refine rd_c ?_
      obtain ⟨v2236, v2237, h2240, f2238, f2239⟩ := tu2 f2234
      cases fr_int f2238
      cases fr_str f2239
      refine rd_ixT (S2225.sub _ _ h2240) rfl ?_
      refine rd_var rfl ?_
      refine q_neI ?_
      refine rd_bl ?_
      rcases cnd h with ⟨c2243, h⟩ | ⟨c2243, h⟩
      ·
        refine iteY c2243 ?_
        refine rd_var rfl ?_
        cases h
        exact hT _ _ _ _ rfl S2225 sT2231 (f2234.imm ((flT2 flI flS) _))
      ·
        refine iteN c2243 ?_
        cases h
        exact hF _ _ rfl S2225 sT2231
    rintro G2244 H2245 w2246 S2247 s2248 f2249 n2250 n2251
    have f2083 := f2083.same s2248
    have f2174 := f2174.same s2248
    have f2213 := f2213.same s2248
    obtain ⟨G2252, S2253, s2254, f2255⟩ := S2247.fixF 0 rfl (by simp) f2249 n2251
    have f2083 := f2083.same s2254
    have f2174 := f2174.same s2254
    have f2213 := f2213.same s2254
    obtain ⟨y2256, h2257, h⟩ := bnd h
    obtain ⟨w2258, h2259, k2260⟩ := li f2213
    obtain ⟨w2261, h2262, k2263⟩ := li f2255
    refine q_cat S2253 (S2253.sub _ _ h2259) k2260 (S2253.sub _ _ h2262) k2263 h2257 S2253.old fun a2264 G2267 H2265 S2266 s2268 f2269 => ?_
    have f2083 := f2083.same s2268
    have f2174 := f2174.same s2268
    cases h
    exact kq a2264 _ _ S2266.toRet f2269
end
end K84

namespace K84
open PySem L2 LX LQ
section
variable {P : Program} {w : World} {K : PySem.W.Frag} {mg : Str → Option Value} {base : Heap} {a : Ad}
open LQF
def sp__law_reachable (K : PySem.W.Frag) : Sp := fun vs H Q _ => ∃ (Fp : Hp) (a2270 : Addr) (x_start : (List (Int × Str))), vs = [.ref a2270] ∧ (∀ b, H b = none → Fp b = none) ∧ Fr Fp H (.ref a2270) ((eL (eT2 eI eS)) x_start) ∧ ∃ r, F__law_reachable x_start = some r ∧ ∀ (a : Addr) (G H' : Hp), Ret [] H G H' → Fr Fp G (.ref a) ((eD kS (eT2 (eL (eT2 eI eS)) (eL eI))) (r)) → Q (.ref a) H'
theorem ok__law_reachable (T : Txt K mg a) : FnG P w K mg base 2 a.f__law_reachable a.d__law_reachable ["start"] (sp__law_reachable K) := by
  refine fnG T.F__law_reachable sc__law_reachable (fun vs H Q E h => ?_) (fun cdv A outer s H0 vs Q E hr quiet h => ?_)
  · obtain ⟨Fp, a2270, x_start, rfl, _⟩ := h
    rfl
  · obtain ⟨Fp, a2270, x_start, rfl, hFp, f2271, r, h, kq⟩ := h
    have nd := sc__law_reachable.nd
    have hu64 := hr.units
    have hu65 := units65 hr
    refine ⟨_, (pss_cons (ps_set (i := 1) nd rfl (Or.inl rfl) (pe_disp (pps_cons (pe_callB (krepr (K := K) quiet hu64) (by rfl) T.b_repr (by decide +kernel) (pa_cons (pv 0) pa_nil)) (pe_tup (pa_cons (pv 0) (pa_cons (pe_lst pa_nil) pa_nil))) pps_nil) (by rfl) (by rfl) (fun z => by cases z) (by decide)))
      (pss_cons (ps_set (i := 2) nd rfl (Or.inl rfl) (pe_lst (pa_cons (pe_tup (pa_cons (pv 0) (pa_cons (pe_lst pa_nil) pa_nil))) pa_nil)))
      (pss_cons (ps_for PassesOwn.never rfl (pi_range1 rfl T.b_range (pa_cons pe_int pa_nil)) (pg_name (i := 3) nd rfl (Or.inl rfl)) (pss_cons (ps_set (i := 4) nd rfl (Or.inl rfl) (pe_lst pa_nil))
      (pss_cons (ps_for PassesOwn.never rfl (kpi_list (K := K) (pv 2)) (kpg_tup (K := K) rfl (pgs_cons (pg_name (i := 5) nd rfl (Or.inl rfl)) (pgs_cons (pg_name (i := 6) nd rfl (Or.inl rfl)) pgs_nil))) (pss_one (ps_for PassesOwn.never rfl (pi_range1 rfl T.b_range (pa_cons (pe_callB (klen (K := K)) (by rfl) T.b_len (by decide +kernel) (pa_cons (pv 0) pa_nil)) pa_nil)) (pg_name (i := 7) nd rfl (Or.inl rfl)) (pss_cons (ps_set (i := 8) nd rfl (Or.inl rfl) (pe_call (ok__law_called T) (hr.mono (by decide)) rfl T.g__law_called T.k__law_called T.n__law_called .nil pass0 (pa_cons (pv 5) (pa_cons (pv 7) pa_nil))))
      (pss_one (ps_if (pt_cmp (pc_dnotin (u1_of hu64) (pe_callB (krepr (K := K) quiet hu64) (by rfl) T.b_repr (by decide +kernel) (pa_cons (pv 8) pa_nil)) (pv 1)) rfl) (pss_cons (ps_dput (u1_of hu64) (pv 1) (pe_callB (krepr (K := K) quiet hu64) (by rfl) T.b_repr (by decide +kernel) (pa_cons (pv 8) pa_nil)) (pe_tup (pa_cons (pv 8) (pa_cons (pe_op op_cat (pv 6) (pe_lst (pa_cons (pv 7) pa_nil))) pa_nil))) rfl)
      (pss_one (ps_expr (kbm (K := K) PySem.F.plainAttrs_list PySem.F.slot_list_append PySem.F.type_list_append mt_append (pv 4) (pa_cons (pe_dget (u1_of hu64) (pv 1) (pe_callB (krepr (K := K) quiet hu64) (by rfl) T.b_repr (by decide +kernel) (pa_cons (pv 8) pa_nil)) (fun _ _ => rfl)) pa_nil))))) pss_nil))))))
      (pss_one (ps_set (i := 2) nd rfl (Or.inl rfl) (pv 4))))))
      (pss_one (ps_ret (pv 1)))))), ?_⟩
    unfold F__law_reachable at h
    have S0 := Sep.start H0
    refine rd_seq ?_
    refine rd_asg ?_
    refine rd_dispT fun a2272 h2273 => ?_
    obtain ⟨S2274, n2275⟩ := q_dispT0 S0 h2273
    have f2277 : FrK H0 H0 [] ((([] : (List (Str × ((List (Int × Str)) × (List Int)))))).map fun p => (dKey (kS p.1), (eT2 (eL (eT2 eI eS)) (eL eI)) p.2)) := .nil
    refine rd_cb ?_
    refine rd_cons ?_
    refine rd_var rfl ?_
    refine rd_nil ?_
    obtain ⟨y2278, h2279, h⟩ := bnd h
    refine q_repr (f2271.rp.same S2274.sub) h2279 ?_
    refine rd_tupZ ?_
    refine rd_cons ?_
    refine rd_var rfl ?_
    refine rd_cons ?_
    refine rd_lstZ ?_
    refine rd_nil ?_
    refine q_lst (F0 := H0) (ds := []) S2274 (by show 0 ≤ LIM; decide) .nil S2274.old fun a2280 G2281 H2282 S2283 s2284 f2285 => ?_
    have f2271 := f2271.same s2284
    have f2277 := f2277.same s2284
    replace f2285 : Fr H0 G2281 (.ref a2280) ((eL eI) ([] : (List Int))) := f2285
    refine rd_nil ?_
    refine q_tup (F0 := Fp) (ds := [(eL (eT2 eI eS)) x_start, (eL eI) ([] : (List Int))]) S2283 (by show 2 ≤ LIM; decide) (.cons f2271 (.cons (f2285.rq hFp) .nil)) fun a2286 G2287 H2288 S2289 s2290 f2291 => ?_
    have f2271 := f2271.same s2290
    have f2277 := f2277.same s2290
    replace f2291 : Fr Fp G2287 (.ref a2286) ((eT2 (eL (eT2 eI eS)) (eL eI)) (x_start, ([] : (List Int)))) := f2291
    refine q_dispT (F0 := Fp) (kk := kS) S2289 (kV_S _).symm f2291 fun w2292 H2293 S2294 f2295 => ?_
    have S2294 : Sep [] H0 G2287 H2293 [(a2272, .dK w2292)] := S2294
    refine rd_nameS (σ' := [some (.ref a2270), some (.ref a2272), none, none, none, none, none, none, none]) rfl ?_
    refine rd_mk ?_
    refine rd_seq ?_
    refine rd_asg ?_
    refine rd_lstZ ?_
    refine rd_cons ?_
    refine rd_tupZ ?_
    refine rd_cons ?_
    refine rd_var rfl ?_
    refine rd_cons ?_
    refine rd_lstZ ?_
    refine rd_nil ?_
    refine q_lst (F0 := H0) (ds := []) S2294 (by show 0 ≤ LIM; decide) .nil S2294.old fun a2296 G2297 H2298 S2299 s2300 f2301 => ?_
    have f2271 := f2271.same s2300
    have f2295 := f2295.same s2300
    replace f2301 : Fr H0 G2297 (.ref a2296) ((eL eI) ([] : (List Int))) := f2301
    refine rd_nil ?_
    refine q_tup (F0 := Fp) (ds := [(eL (eT2 eI eS)) x_start, (eL eI) ([] : (List Int))]) S2299 (by show 2 ≤ LIM; decide) (.cons f2271 (.cons (f2301.rq hFp) .nil)) fun a2302 G2303 H2304 S2305 s2306 f2307 => ?_
    have f2271 := f2271.same s2306
    have f2295 := f2295.same s2306
    replace f2307 : Fr Fp G2303 (.ref a2302) ((eT2 (eL (eT2 eI eS)) (eL eI)) (x_start, ([] : (List Int)))) := f2307
    refine rd_nil ?_
    refine q_lst (F0 := Fp) (ds := [(eT2 (eL (eT2 eI eS)) (eL eI)) (x_start, ([] : (List Int)))]) S2305 (by show 1 ≤ LIM; decide) (.cons f2307 .nil) (fun b9 n9 => hFp b9 (S2305.old b9 n9)) fun a2308 G2309 H2310 S2311 s2312 f2313 => ?_
    have f2271 := f2271.same s2312
    have f2295 := f2295.same s2312
    replace f2313 : Fr Fp G2309 (.ref a2308) ((eL (eT2 (eL (eT2 eI eS)) (eL eI))) [(x_start, ([] : (List Int)))]) := f2313
    refine rd_nameS (σ' := [some (.ref a2270), some (.ref a2272), some (.ref a2308), none, none, none, none, none, none]) rfl ?_
    refine rd_mk ?_
    refine rd_seq ?_
    refine rd_for ?_
    refine rd_iR1 ?_
    refine rd_cons ?_
    refine rd_c ?_
    refine rd_nil ?_
    obtain ⟨l2314, h2315, h⟩ := bnd h
    refine q_rng1 h2315 ?_
    obtain ⟨r2342, h2343, h⟩ := bnd h
    refine q_forF h2343 (w_rng1 h2315) (fun s2317 σ' H' => ∃ (x2329 : Option V) (x2330 : Option V) (x2331 : Option V) (x2332 : Option V) (x2333 : Option V) (x2334 : Option V) (a2335 : Addr) (w2337 : List (Key × V)) (G2325 : Hp), σ' = [some (.ref a2270), some (.ref a2272), some (.ref a2335), x2329, x2330, x2331, x2332, x2333, x2334] ∧ Sep [] H0 G2325 H' [(a2272, .dK w2337)] ∧ Same G2309 G2325 ∧ Fr Fp G2325 (.ref a2335) ((eL (eT2 (eL (eT2 eI eS)) (eL eI))) s2317.1) ∧ FrK Fp G2325 w2337 ((s2317.2).map fun p => (dKey (kS p.1), (eT2 (eL (eT2 eI eS)) (eL eI)) p.2))) ?_ ?_ ?_ ?_
    · exact ⟨_, _, _, _, _, _, a2308, w2292, G2309, rfl, S2311, Same.refl _, f2313, f2295⟩
    · rintro s2317 _ H2326 ⟨x2329, x2330, x2331, x2332, x2333, x2334, a2335, w2337, G2325, rfl, S2327, sE2328, f2336, f2338⟩
      exact trivial
    · rintro i2318 a2316 s2317 s2319 x2320 _ H2326 H2321 h2322 h ⟨x2329, x2330, x2331, x2332, x2333, x2334, a2335, w2337, G2325, rfl, S2327, sE2328, f2336, f2338⟩ h2323
      have f2271 := f2271.same sE2328
      obtain ⟨rfl, e2344⟩ := h2323
      cases e2344 _ h2322
      refine rd_nameS (σ' := [some (.ref a2270), some (.ref a2272), some (.ref a2335), some (.int a2316), x2330, x2331, x2332, x2333, x2334]) rfl ?_
      refine rd_seq ?_
      refine rd_asg ?_
      refine rd_lstZ ?_
      refine rd_nil ?_
      refine q_lstO S2327 (by show 0 ≤ LIM; decide) fun a2345 H2346 S2347 n2348 => ?_
      have f2349 : FrL H0 G2325 [] (([] : (List ((List (Int × Str)) × (List Int)))).map (eT2 (eL (eT2 eI eS)) (eL eI))) := .nil
      refine rd_nameS (σ' := [some (.ref a2270), some (.ref a2272), some (.ref a2335), some (.int a2316), some (.ref a2345), x2331, x2332, x2333, x2334]) rfl ?_
      refine rd_mk ?_
      refine rd_seq ?_
      refine rd_for ?_
      refine rd_iList ?_
      refine rd_var rfl ?_
      obtain ⟨w2350, h2351, k2352⟩ := li f2336
      refine ⟨_, rfl, ⟨_, SqL.of (S2347.sub _ _ h2351)⟩, ?_⟩
      have f2349 := (f2349.rq hFp)
      obtain ⟨r2377, h2378, h⟩ := bnd h
      refine q_forF h2378 (w_li k2352) (fun s2354 σ' H' => ∃ (x2366 : Option V) (x2367 : Option V) (x2368 : Option V) (x2369 : Option V) (w2370 : List V) (w2372 : List (Key × V)) (G2362 : Hp), σ' = [some (.ref a2270), some (.ref a2272), some (.ref a2335), some (.int a2316), some (.ref a2345), x2366, x2367, x2368, x2369] ∧ Sep [] H0 G2362 H' [(a2345, .lst w2370), (a2272, .dK w2372)] ∧ Same G2325 G2362 ∧ FrL Fp G2362 w2370 ((s2354.1).map (eT2 (eL (eT2 eI eS)) (eL eI))) ∧ FrK Fp G2362 w2372 ((s2354.2).map fun p => (dKey (kS p.1), (eT2 (eL (eT2 eI eS)) (eL eI)) p.2))) ?_ ?_ ?_ ?_
      · exact ⟨_, _, _, _, [], w2337, G2325, rfl, S2347, Same.refl _, f2349, f2338⟩
      · rintro s2354 _ H2363 ⟨x2366, x2367, x2368, x2369, w2370, w2372, G2362, rfl, S2364, sE2365, f2371, f2373⟩
        exact (S2364.sub _ _ (sE2365 _ _ h2351))
      · rintro i2355 a2353 s2354 s2356 x2357 _ H2363 H2358 h2359 h ⟨x2366, x2367, x2368, x2369, w2370, w2372, G2362, rfl, S2364, sE2365, f2371, f2373⟩ h2360
        have f2271 := f2271.same sE2365
        obtain ⟨rfl, e2379⟩ := h2360
        have f2380 := (e2379 _ h2359).same sE2365
        obtain ⟨a2381, rfl⟩ := fr_tup f2380
        obtain ⟨v2382, v2383, h2386, f2384, f2385⟩ := tu2 f2380
        obtain ⟨a2387, rfl⟩ := fr_lst f2384
        obtain ⟨a2388, rfl⟩ := fr_lst f2385
        refine rd_gtup (S2364.sub _ _ h2386) rfl ?_
        refine rd_gcons ?_
        refine rd_nameS (σ' := [some (.ref a2270), some (.ref a2272), some (.ref a2335), some (.int a2316), some (.ref a2345), some (.ref a2387), x2367, x2368, x2369]) rfl ?_
        refine rd_gcons ?_
        refine rd_nameS (σ' := [some (.ref a2270), some (.ref a2272), some (.ref a2335), some (.int a2316), some (.ref a2345), some (.ref a2387), some (.ref a2388), x2368, x2369]) rfl ?_
        refine rd_gnil ?_
        refine rd_for ?_
        refine rd_iR1 ?_
        refine rd_cons ?_
        refine rd_cb ?_
        refine rd_cons ?_
        refine rd_var rfl ?_
        refine rd_nil ?_
        obtain ⟨w2389, h2390, k2391⟩ := li f2271
        refine q_len (S2364.sub _ _ h2390) k2391 ?_
        refine rd_nil ?_
        obtain ⟨l2392, h2393, h⟩ := bnd h
        refine q_rng1 h2393 ?_
        obtain ⟨r2416, h2417, h⟩ := bnd h
        refine q_forF h2417 (w_rng1 h2393) (fun s2395 σ' H' => ∃ (x2407 : Option V) (x2408 : Option V) (w2409 : List V) (w2411 : List (Key × V)) (G2403 : Hp), σ' = [some (.ref a2270), some (.ref a2272), some (.ref a2335), some (.int a2316), some (.ref a2345), some (.ref a2387), some (.ref a2388), x2407, x2408] ∧ Sep [] H0 G2403 H' [(a2345, .lst w2409), (a2272, .dK w2411)] ∧ Same G2362 G2403 ∧ FrL Fp G2403 w2409 ((s2395.1).map (eT2 (eL (eT2 eI eS)) (eL eI))) ∧ FrK Fp G2403 w2411 ((s2395.2).map fun p => (dKey (kS p.1), (eT2 (eL (eT2 eI eS)) (eL eI)) p.2))) ?_ ?_ ?_ ?_
        · exact ⟨_, _, w2370, w2372, G2362, rfl, S2364, Same.refl _, f2371, f2373⟩
        · rintro s2395 _ H2404 ⟨x2407, x2408, w2409, w2411, G2403, rfl, S2405, sE2406, f2410, f2412⟩
          exact trivial
        · rintro i2396 a2394 s2395 s2397 x2398 _ H2404 H2399 h2400 h ⟨x2407, x2408, w2409, w2411, G2403, rfl, S2405, sE2406, f2410, f2412⟩ h2401
          have f2271 := f2271.same sE2406
          have f2384 := f2384.same sE2406
          have f2385 := f2385.same sE2406
          obtain ⟨rfl, e2418⟩ := h2401
          cases e2418 _ h2400
          refine rd_nameS (σ' := [some (.ref a2270), some (.ref a2272), some (.ref a2335), some (.int a2316), some (.ref a2345), some (.ref a2387), some (.ref a2388), some (.int a2394), x2408]) rfl ?_
          refine rd_seq ?_
          refine rd_asg ?_
          refine rd_call ?_
          refine rd_cons ?_
          refine rd_var rfl ?_
          refine rd_cons ?_
          refine rd_var rfl ?_
          refine rd_nil ?_
          obtain ⟨y2419, h2420, h⟩ := bnd h
          refine ⟨a2387, a2353.1, a2394, rfl, (f2384.rp.same S2405.sub), y2419, h2420, fun a2424 G2421 H2422 R2423 f2425 => ?_⟩
          obtain ⟨G2426, S2427, s2428, t2429, l2430⟩ := S2405.ret0 R2423
          have f2271 := f2271.same s2428
          have f2384 := f2384.same s2428
          have f2385 := f2385.same s2428
          have f2410 := f2410.same s2428
          have f2412 := f2412.same s2428
          have sE2406 := sE2406.trans s2428
          have f2425 := t2429 _ _ f2425
          refine rd_nameS (σ' := [some (.ref a2270), some (.ref a2272), some (.ref a2335), some (.int a2316), some (.ref a2345), some (.ref a2387), some (.ref a2388), some (.int a2394), some (.ref a2424)]) rfl ?_
          refine rd_mk ?_
          refine rd_ifS ?_
          refine rd_test ?_
          refine rd_dniZ ?_
          refine rd_cb ?_
          refine rd_cons ?_
          refine rd_var rfl ?_
          refine rd_nil ?_
          obtain ⟨y2431, h2432, h⟩ := bnd h
          refine q_repr (f2425.rp.same S2427.sub) h2432 ?_
          refine rd_var rfl ?_
          refine q_dni (kk := kS) kS_inj (Or.inl (S2427.get 1 rfl)) f2412 (kV_S _).symm ?_
          refine rd_bl ?_
          rcases cnd h with ⟨c2480, h⟩ | ⟨c2480, h⟩
          ·
            refine iteY c2480 ?_
            refine rd_seq ?_
            refine rd_dputZ ?_
            refine rd_tupZ ?_
            refine rd_cons ?_
            refine rd_var rfl ?_
            refine rd_cons ?_
            refine rd_op ?_
            refine rd_var rfl ?_
            refine rd_lstZ ?_
            refine rd_cons ?_
            refine rd_var rfl ?_
            refine rd_nil ?_
            refine q_lst (F0 := H0) (ds := [eI a2394]) S2427 (by show 1 ≤ LIM; decide) (.cons (.int _) .nil) S2427.old fun a2433 G2434 H2435 S2436 s2437 f2438 => ?_
            have f2271 := f2271.same s2437
            have f2384 := f2384.same s2437
            have f2385 := f2385.same s2437
            have f2425 := f2425.same s2437
            have f2410 := f2410.same s2437
            have f2412 := f2412.same s2437
            have sE2406 := sE2406.trans s2437
            replace f2438 : Fr H0 G2434 (.ref a2433) ((eL eI) [a2394]) := f2438
            obtain ⟨y2439, h2440, h⟩ := bnd h
            obtain ⟨w2441, h2442, k2443⟩ := li f2385
            obtain ⟨w2444, h2445, k2446⟩ := li f2438
            refine q_cat S2436 (S2436.sub _ _ h2442) (k2443.imm (flat_map flI _)) (S2436.sub _ _ h2445) k2446 h2440 S2436.old fun a2447 G2450 H2448 S2449 s2451 f2452 => ?_
            have f2271 := f2271.same s2451
            have f2384 := f2384.same s2451
            have f2385 := f2385.same s2451
            have f2425 := f2425.same s2451
            have f2410 := f2410.same s2451
            have f2412 := f2412.same s2451
            have sE2406 := sE2406.trans s2451
            refine rd_nil ?_
            refine q_tup (F0 := H0) (ds := [(eL (eT2 eI eS)) y2419, (eL eI) y2439]) S2449 (by show 2 ≤ LIM; decide) (.cons f2425 (.cons f2452 .nil)) fun a2453 G2454 H2455 S2456 s2457 f2458 => ?_
            have f2271 := f2271.same s2457
            have f2384 := f2384.same s2457
            have f2385 := f2385.same s2457
            have f2425 := f2425.same s2457
            have f2410 := f2410.same s2457
            have f2412 := f2412.same s2457
            have sE2406 := sE2406.trans s2457
            replace f2458 : Fr H0 G2454 (.ref a2453) ((eT2 (eL (eT2 eI eS)) (eL eI)) (y2419, y2439)) := f2458
            refine rd_var rfl ?_
            refine rd_cb ?_
            refine rd_cons ?_
            refine rd_var rfl ?_
            refine rd_nil ?_
            obtain ⟨y2459, h2460, h⟩ := bnd h
            refine q_repr (f2425.rp.same S2456.sub) h2460 ?_
            obtain ⟨l2461, h2462, h⟩ := bnd h
            refine q_dput (kk := kS) kS_inj S2456 1 rfl f2412 (kV_S _).symm (f2458.rq hFp) h2462 fun w2463 H2464 S2465 f2466 => ?_
            have S2465 : Sep [] H0 G2454 H2464 [(a2345, .lst w2409), (a2272, .dK w2463)] := S2465
            refine rd_mk ?_
            refine rd_drop ?_
            refine rd_bm ?_
            refine rd_var rfl ?_
            refine ⟨Or.inl ⟨rfl, _, SqL.of (S2465.get 0 rfl)⟩, ?_⟩
            refine rd_cons ?_
            refine rd_dget ?_
            refine rd_var rfl ?_
            refine rd_cb ?_
            refine rd_cons ?_
            refine rd_var rfl ?_
            refine rd_nil ?_
            obtain ⟨y2467, h2468, h⟩ := bnd h
            refine q_repr (f2425.rp.same S2465.sub) h2468 ?_
            obtain ⟨y2469, h2470, h⟩ := bnd h
            refine q_dget (kk := kS) kS_inj (Or.inl (S2465.get 1 rfl)) f2466 (kV_S _).symm h2470 fun v2471 f2472 => ?_
            obtain ⟨a2473, rfl⟩ := fr_tup f2472
            refine rd_nil ?_
            obtain ⟨l2474, h2475, h⟩ := bnd h
            refine q_app S2465 0 rfl f2410 f2472 h2475 fun w2476 H2477 S2478 f2479 => ?_
            have S2478 : Sep [] H0 G2454 H2477 [(a2345, .lst w2476), (a2272, .dK w2463)] := S2478
            cases h
            exact ⟨_, _, w2476, w2463, G2454, rfl, S2478, sE2406, f2479, f2466⟩
          ·
            refine iteN c2480 ?_
            refine rd_next ?_
            cases h
            exact ⟨_, _, w2409, w2411, G2426, rfl, S2427, sE2406, f2410, f2412⟩
        rintro _ H2482 ⟨x2485, x2486, w2487, w2489, G2481, rfl, S2483, sE2484, f2488, f2490⟩
        have f2271 := f2271.same sE2484
        have f2384 := f2384.same sE2484
        have f2385 := f2385.same sE2484
        have sE2365 := sE2365.trans sE2484
        cases h
        exact ⟨_, _, _, _, w2487, w2489, G2481, rfl, S2483, sE2365, f2488, f2490⟩
      rintro _ H2492 ⟨x2495, x2496, x2497, x2498, w2499, w2501, G2491, rfl, S2493, sE2494, f2500, f2502⟩
      have f2271 := f2271.same sE2494
      have sE2328 := sE2328.trans sE2494
      refine rd_mk ?_
      refine rd_asg ?_
      refine rd_var rfl ?_
      obtain ⟨G2503, S2504, s2505, f2506⟩ := S2493.fixLF 0 rfl (by simp) f2500 (hFp _ n2348)
      have f2271 := f2271.same s2505
      have f2502 := f2502.same s2505
      have sE2328 := sE2328.trans s2505
      refine rd_nameS (σ' := [some (.ref a2270), some (.ref a2272), some (.ref a2345), some (.int a2316), some (.ref a2345), x2495, x2496, x2497, x2498]) rfl ?_
      cases h
      exact ⟨_, _, _, _, _, _, a2345, w2501, G2503, rfl, S2504, sE2328, f2506, f2502⟩
    rintro _ H2508 ⟨x2511, x2512, x2513, x2514, x2515, x2516, a2517, w2519, G2507, rfl, S2509, sE2510, f2518, f2520⟩
    have f2271 := f2271.same sE2510
    refine rd_mk ?_
    refine rd_ret ?_
    refine rd_var rfl ?_
    obtain ⟨G2521, S2522, s2523, f2524⟩ := S2509.fixDF 0 rfl (by simp) f2520 (hFp _ n2275)
    cases h
    exact kq a2272 _ _ S2522.toRet f2524
end
end K84

namespace K84
open PySem L2 LX LQ
section
variable {P : Program} {w : World} {K : PySem.W.Frag} {mg : Str → Option Value} {base : Heap} {a : Ad}
open LQF
def sp__law_cell_at (K : PySem.W.Frag) : Sp := fun vs H Q _ => ∃ (a2525 : Addr) (x_script : (List Int)) (x_k : Int), vs = [.ref a2525, (.int x_k)] ∧ Scr K H a2525 x_script ∧ ∃ r, F__law_cell_at x_script x_k = some r ∧ ∀ (G H' : Hp), Ret [] H G H' → Q (.int (r)) H'
theorem ok__law_cell_at (T : Txt K mg a) : FnOk P w K mg base CX0 1 a.f__law_cell_at a.d__law_cell_at ["script", "k"] (sp__law_cell_at K) := by
  refine T.F__law_cell_at.ok sc__law_cell_at (fun vs H Q E h => ?_) (fun cdv A outer s H0 vs Q E hr h => ?_)
  · obtain ⟨a2525, x_script, x_k, rfl, _⟩ := h
    rfl
  · obtain ⟨a2525, x_script, x_k, rfl, f2526, r, h, kq⟩ := h
    have nd := sc__law_cell_at.nd
    have hu64 := hr.units
    have hu65 := units65 hr
    refine ⟨_, (pss_cons (ps_if (pt_cmpR op_lt (pv 1) (pe_callB (klen (K := K)) (by rfl) T.b_len (by decide +kernel) (pa_cons (pv 0) pa_nil)) (nomark _)) (pss_one (ps_ret (pe_ix (kix_list (K := K)) (pv 0) (pv 1) (fun _ _ => rfl)))) pss_nil)
      (pss_one (ps_ret pe_int))), ?_⟩
    unfold F__law_cell_at at h
    have S0 := Sep.start H0
    refine rd_seq ?_
    refine rd_ifS ?_
    refine rd_test ?_
    refine rd_op ?_
    refine rd_var rfl ?_
    refine rd_cb ?_
    refine rd_cons ?_
    refine rd_var rfl ?_
    refine rd_nil ?_
    refine q_lenScr S0 f2526 ?_
    refine rd_I0 ?_
    refine rd_bl ?_
    rcases cnd h with ⟨c2529, h⟩ | ⟨c2529, h⟩
    ·
      refine iteY c2529 ?_
      refine rd_ret ?_
      refine rd_op ?_
      refine rd_var rfl ?_
      refine rd_var rfl ?_
      obtain ⟨y2527, h2528, h⟩ := bnd h
      refine q_ixScr S0 f2526 h2528 ?_
      cases h
      exact kq _ _ S0.toRet
    ·
      refine iteN c2529 ?_
      refine rd_next ?_
      refine rd_mk ?_
      refine rd_ret ?_
      refine rd_c ?_
      cases h
      exact kq _ _ S0.toRet
end
end K84

namespace K84
open PySem L2 LX LQ
section
variable {P : Program} {w : World} {K : PySem.W.Frag} {mg : Str → Option Value} {base : Heap} {a : Ad}
open LQF
def sp__law_many (K : PySem.W.Frag) : Sp := fun vs H Q _ => ∃ (a2530 : Addr) (w2531 : List V) (x_pool : (List Int)) (a2532 : Addr) (x_script : (List Int)), vs = [.ref a2530, .ref a2532] ∧ H a2530 = some (.lst w2531) ∧ FrL E0h (hid H [a2530]) w2531 (x_pool.map eI) ∧ Scr K (hid H [a2530]) a2532 x_script ∧ ∃ r, F__law_many x_pool x_script = some r ∧ ∀ (u0 : List V) (G H' : Hp), Ret [a2530] H G H' → H' a2530 = some (.lst u0) → FrL E0h G u0 ((r.2).map eI) → Q (.int (r.1)) H'
theorem ok__law_many (T : Txt K mg a) : FnOk P w K mg base CX0 2 a.f__law_many a.d__law_many ["pool", "script"] (sp__law_many K) := by
  refine T.F__law_many.ok sc__law_many (fun vs H Q E h => ?_) (fun cdv A outer s H0 vs Q E hr h => ?_)
  · obtain ⟨a2530, w2531, x_pool, a2532, x_script, rfl, _⟩ := h
    rfl
  · obtain ⟨a2530, w2531, x_pool, a2532, x_script, rfl, h2533, f2534, f2535, r, h, kq⟩ := h
    have nd := sc__law_many.nd
    have hu64 := hr.units
    have hu65 := units65 hr
    refine ⟨_, (pss_one (ps_ret (pe_ifExp (pt_cmpR (keqD (K := K) hu64) (pv 1) (pe_lst pa_nil) (nomark _)) pe_int (pe_op op_add pe_int (pe_call (ok__law_draw T) (hr.mono (by decide)) rfl T.g__law_draw T.k__law_draw T.n__law_draw .nil pass0 (pa_cons (pv 0) (pa_cons pe_int pa_nil))))))), ?_⟩
    unfold F__law_many at h
    have S0 := Sep.start1 h2533
    refine rd_ret ?_
    obtain ⟨y2571, h2572, h⟩ := bnd h
    refine rd_teM2 (fun k H' => ∃ (w2577 : List V) (G2573 : Hp), k = (.int y2571.1) ∧ Sep [a2530] H0 G2573 H' [(a2530, .lst w2577)] ∧ Same (hid H0 [a2530]) G2573 ∧ FrL E0h G2573 w2577 ((y2571.2).map eI)) (fun R q => ?_) ?_
    ·
      have sE2536 := Same.refl (hid H0 [a2530])
      have h := h2572
      refine rd_ifE ?_
      refine rd_test ?_
      refine rd_op ?_
      refine rd_var rfl ?_
      refine rd_lstZ ?_
      refine rd_nil ?_
      refine q_lst (F0 := H0) (ds := []) S0 (by show 0 ≤ LIM; decide) .nil S0.old fun a2537 G2538 H2539 S2540 s2541 f2542 => ?_
      have f2535 := f2535.same s2541
      have f2534 := f2534.same s2541
      have sE2536 := sE2536.trans s2541
      replace f2542 : Fr H0 G2538 (.ref a2537) ((eL eA) ([] : (List PyData))) := f2542
      obtain ⟨b2543, h2544, h⟩ := bnd h
      refine q_eqScr S2540 f2535 (f2542.rp.same S2540.sub) h2544 ?_
      refine rd_bl ?_
      rcases cnd h with ⟨c2579, h⟩ | ⟨c2579, h⟩
      ·
        refine iteY c2579 ?_
        refine rd_c ?_
        cases h
        exact q _ _ ⟨w2531, G2538, rfl, S2540, sE2536, f2534⟩
      ·
        refine iteN c2579 ?_
        refine rd_op ?_
        refine rd_c ?_
        refine rd_call ?_
        refine rd_cons ?_
        refine rd_var rfl ?_
        refine rd_cons ?_
        refine rd_c ?_
        refine rd_nil ?_
        obtain ⟨y2558, h2559, h⟩ := bnd h
        refine ⟨a2530, w2531, x_pool, (4 : Int), rfl, (S2540.get 0 rfl), (f2534.same (S2540.hid1 0 rfl)), y2558, h2559, fun w2563 G2560 H2561 R2562 h2564 k2565 => ?_⟩
        obtain ⟨G2566, S2567, s2568, t2569, l2570⟩ := S2540.ret1 0 rfl R2562 h2564 lst_tup
        have k2565 := l2570 _ _ (k2565.imm (flat_map flI _))
        have f2535 := f2535.same s2568
        have f2534 := f2534.same s2568
        have sE2536 := sE2536.trans s2568
        have k2565 := k2565.rp
        have S2567 : Sep [a2530] H0 G2566 H2561 [(a2530, .lst w2563)] := S2567
        refine rd_I0 ?_
        cases h
        exact q _ _ ⟨w2563, G2566, rfl, S2567, sE2536, k2565⟩
    rintro _ H2574 ⟨w2577, G2573, rfl, S2575, s2576, f2578⟩
    have f2535 := f2535.same s2576
    cases h
    exact kq w2577 _ _ S2575.toRet (S2575.get 0 rfl) f2578
end
end K84

namespace K84
open PySem L2 LX LQ
section
variable {P : Program} {w : World} {K : PySem.W.Frag} {mg : Str → Option Value} {base : Heap} {a : Ad}
open LQF
def sp_is_integer (K : PySem.W.Frag) : Sp := fun vs H Q _ => ∃ (x_value : Int), vs = [(.int x_value)] ∧ ∃ r, F_is_integer x_value = some r ∧ ∀ (G H' : Hp), Ret [] H G H' → Q (.bl (r)) H'
theorem ok_is_integer (T : Txt K mg a) : FnOk P w K mg base CX0 1 a.f_is_integer a.d_is_integer ["value"] (sp_is_integer K) := by
  refine T.F_is_integer.ok sc_is_integer (fun vs H Q E h => ?_) (fun cdv A outer s H0 vs Q E hr h => ?_)
  · obtain ⟨x_value, rfl, _⟩ := h
    rfl
  · obtain ⟨x_value, rfl, r, h, kq⟩ := h
    have nd := sc_is_integer.nd
    have hu64 := hr.units
    have hu65 := units65 hr
    refine ⟨_, (pss_one (ps_ret (pe_and (pe_callB (kisi (K := K)) (by rfl) T.b_isinstance (by decide +kernel) (pa_cons (pv 0) (pa_cons (pe_bltn (v := .ty "int") (by rfl) T.b_int (by decide +kernel) rfl) pa_nil))) (pe_one (pe_not (pe_callB (kisi (K := K)) (by rfl) T.b_isinstance (by decide +kernel) (pa_cons (pv 0) (pa_cons (pe_bltn (v := .ty "bool") (by rfl) T.b_bool (by decide +kernel) rfl) pa_nil)))))))), ?_⟩
    unfold F_is_integer at h
    have S0 := Sep.start H0
    refine rd_ret ?_
    refine rd_teM2 (fun k H' => k = .bl (true && (!false)) ∧ H0 = H') (fun R q => ?_) ?_
    ·
      refine rd_andV ?_
      refine rd_cb ?_
      refine rd_cons ?_
      refine rd_var rfl ?_
      refine rd_cons ?_
      refine rd_c ?_
      refine rd_nil ?_
      refine rd_isi (.ty "int") (.base (.int _)) (kit_ty (r := true) (by decide +kernel)) ?_
      refine ⟨_, rfl, ?_⟩
      refine ite_by (fun c2582 => ?_) (fun c2582 => ?_)
      ·
        refine rd_notV ?_
        refine rd_cb ?_
        refine rd_cons ?_
        refine rd_var rfl ?_
        refine rd_cons ?_
        refine rd_c ?_
        refine rd_nil ?_
        refine rd_isi (.ty "bool") (.base (.int _)) (kit_ty (r := false) (by decide +kernel)) ?_
        refine rd_bl ?_
        exact q _ _ ⟨(congrArg V.bl (andT c2582 rfl)), rfl⟩
      ·
        exact q _ _ ⟨(congrArg V.bl (andF c2582)), rfl⟩
    rintro _ _ ⟨rfl, rfl⟩
    cases h
    exact kq _ _ S0.toRet
end
end K84

namespace K84
open PySem L2 LX LQ
section
variable {P : Program} {w : World} {K : PySem.W.Frag} {mg : Str → Option Value} {base : Heap} {a : Ad}
open LQF
def sp_is_color (K : PySem.W.Frag) : Sp := fun vs H Q _ => ∃ (x_value : Str), vs = [(.str x_value)] ∧ ∃ r, F_is_color x_value = some r ∧ ∀ (G H' : Hp), Ret [] H G H' → Q (.bl (r)) H'
theorem ok_is_color (T : Txt K mg a) : FnOk P w K mg base CX0 1 a.f_is_color a.d_is_color ["value"] (sp_is_color K) := by
  refine T.F_is_color.ok sc_is_color (fun vs H Q E h => ?_) (fun cdv A outer s H0 vs Q E hr h => ?_)
  · obtain ⟨x_value, rfl, _⟩ := h
    rfl
  · obtain ⟨x_value, rfl, r, h, kq⟩ := h
    have nd := sc_is_color.nd
    have hu64 := hr.units
    have hu65 := units65 hr
    refine ⟨_, (pss_one (ps_ret (pe_and (pe_cmpR op_isTyB (pe_typeOf rfl T.b_type (pv 0)) (pe_bltn (v := .ty "str") (by rfl) T.b_str (by decide +kernel) rfl) (nomark _)) (pe_and (pe_cmpR op_eq (pe_callB klenS (by rfl) T.b_len (by decide +kernel) (pa_cons (pv 0) pa_nil)) pe_int (nomark _)) (pe_one (pe_chain op_le_str op_le_str pe_str (pv 0) pe_str)))))), ?_⟩
    unfold F_is_color at h
    have S0 := Sep.start H0
    refine rd_ret ?_
    obtain ⟨b2590, h2591, h⟩ := bnd h
    refine rd_teM2 (fun k H' => ∃  (G2592 : Hp), k = .bl b2590 ∧ Sep [] H0 G2592 H' [] ∧ Same H0 G2592) (fun R q => ?_) ?_
    ·
      have sE2583 := Same.refl H0
      have h := h2591
      refine rd_andV ?_
      refine rd_op ?_
      refine rd_cb ?_
      refine rd_cons ?_
      refine rd_var rfl ?_
      refine rd_nil ?_
      refine rd_typ (n := "str") rfl ?_
      refine rd_c ?_
      refine rd_2ty ?_
      refine ⟨_, rfl, ?_⟩
      rcases cnd h with ⟨c2596, h⟩ | ⟨c2596, h⟩
      ·
        refine iteY c2596 ?_
        refine rd_andV ?_
        refine rd_op ?_
        refine rd_cb ?_
        refine rd_cons ?_
        refine rd_var rfl ?_
        refine rd_nil ?_
        obtain ⟨y2584, h2585, h⟩ := bnd h
        refine q_lenS h2585 ?_
        refine rd_c ?_
        refine q_eqI ?_
        refine ⟨_, rfl, ?_⟩
        rcases cnd h with ⟨c2597, h⟩ | ⟨c2597, h⟩
        ·
          refine iteY c2597 ?_
          refine rd_teM2 (fun k H' => k = .bl ((!ltS x_value (Str.ofString "a")) && (!ltS (Str.ofString "z") x_value)) ∧ H0 = H') (fun R q => ?_) ?_
          ·
            refine rd_chain ?_
            refine rd_c ?_
            refine rd_var rfl ?_
            refine rd_2s ?_
            refine rd_bl ?_
            refine ite_by (fun c2588 => ?_) (fun c2588 => ?_)
            ·
              refine rd_c ?_
              refine rd_2s ?_
              exact q _ _ ⟨(congrArg V.bl (andT c2588 rfl)), rfl⟩
            ·
              exact q _ _ ⟨(congrArg V.bl (andF c2588)), rfl⟩
          rintro _ _ ⟨rfl, rfl⟩
          cases h
          exact q _ _ ⟨H0, rfl, S0, sE2583⟩
        ·
          refine iteN c2597 ?_
          cases h
          exact q _ _ ⟨H0, rfl, S0, sE2583⟩
      ·
        refine iteN c2596 ?_
        cases h
        exact q _ _ ⟨H0, rfl, S0, sE2583⟩
    rintro _ H2593 ⟨G2592, rfl, S2594, s2595⟩
    cases h
    exact kq _ _ S2594.toRet
end
end K84

namespace K84
open PySem L2 LX LQ
section
variable {P : Program} {w : World} {K : PySem.W.Frag} {mg : Str → Option Value} {base : Heap} {a : Ad}
open LQF
def sp_is_colored_integer (K : PySem.W.Frag) : Sp := fun vs H Q _ => ∃ (a2598 : Addr) (x_value : (Int × Str)), vs = [.ref a2598] ∧ Fr E0h H (.ref a2598) ((eT2 eI eS) x_value) ∧ ∃ r, F_is_colored_integer x_value = some r ∧ ∀ (G H' : Hp), Ret [] H G H' → Q (.bl (r)) H'
theorem ok_is_colored_integer (T : Txt K mg a) : FnOk P w K mg base CX0 2 a.f_is_colored_integer a.d_is_colored_integer ["value"] (sp_is_colored_integer K) := by
  refine T.F_is_colored_integer.ok sc_is_colored_integer (fun vs H Q E h => ?_) (fun cdv A outer s H0 vs Q E hr h => ?_)
  · obtain ⟨a2598, x_value, rfl, _⟩ := h
    rfl
  · obtain ⟨a2598, x_value, rfl, f2599, r, h, kq⟩ := h
    have nd := sc_is_colored_integer.nd
    have hu64 := hr.units
    have hu65 := units65 hr
    refine ⟨_, (pss_one (ps_ret (pe_and (pe_cmpR op_isTyB (pe_typeOf rfl T.b_type (pv 0)) (pe_bltn (v := .ty "tuple") (by rfl) T.b_tuple (by decide +kernel) rfl) (nomark _)) (pe_and (pe_cmpR op_eq (pe_callB (klen (K := K)) (by rfl) T.b_len (by decide +kernel) (pa_cons (pv 0) pa_nil)) pe_int (nomark _)) (pe_and (pe_call (ok_is_integer T) (hr.mono (by decide)) rfl T.g_is_integer T.k_is_integer T.n_is_integer .nil pass0 (pa_cons (pe_ix (kix_tup (K := K)) (pv 0) pe_int (fun _ _ => rfl)) pa_nil)) (pe_one (pe_call (ok_is_color T) (hr.mono (by decide)) rfl T.g_is_color T.k_is_color T.n_is_color .nil pass0 (pa_cons (pe_ix (kix_tup (K := K)) (pv 0) pe_int (fun _ _ => rfl)) pa_nil)))))))), ?_⟩
    unfold F_is_colored_integer at h
    have S0 := Sep.start H0
    refine rd_ret ?_
    obtain ⟨b2640, h2641, h⟩ := bnd h
    refine rd_teM2 (fun k H' => ∃  (G2642 : Hp), k = .bl b2640 ∧ Sep [] H0 G2642 H' [] ∧ Same H0 G2642) (fun R q => ?_) ?_
    ·
      have sE2600 := Same.refl H0
      have h := h2641
      refine rd_andV ?_
      refine rd_op ?_
      refine rd_cb ?_
      refine rd_cons ?_
      refine rd_var rfl ?_
      refine rd_nil ?_
      obtain ⟨_, h2601, _⟩ := tu f2599
      refine rd_tyT (S0.sub _ _ h2601) ?_
      refine rd_c ?_
      refine rd_2ty ?_
      refine ⟨_, rfl, ?_⟩
      rcases cnd h with ⟨c2646, h⟩ | ⟨c2646, h⟩
      ·
        refine iteY c2646 ?_
        refine rd_andV ?_
        refine rd_op ?_
        refine rd_cb ?_
        refine rd_cons ?_
        refine rd_var rfl ?_
        refine rd_nil ?_
        obtain ⟨v2604, v2605, h2608, f2606, f2607⟩ := tu2 f2599
        cases fr_int f2606
        cases fr_str f2607
        refine rd_lenT (S0.sub _ _ h2608) ?_
        refine rd_c ?_
        refine q_eqI ?_
        refine ⟨_, rfl, ?_⟩
        rcases cnd h with ⟨c2647, h⟩ | ⟨c2647, h⟩
        ·
          refine iteY c2647 ?_
          refine rd_andV ?_
          refine rd_call ?_
          refine rd_cons ?_
          refine rd_op ?_
          refine rd_var rfl ?_
          refine rd_c ?_
          obtain ⟨v2609, v2610, h2613, f2611, f2612⟩ := tu2 f2599
          cases fr_int f2611
          cases fr_str f2612
          refine rd_ixT (S0.sub _ _ h2613) rfl ?_
          refine rd_nil ?_
          obtain ⟨y2614, h2615, h⟩ := bnd h
          refine ⟨x_value.1, rfl, y2614, h2615, fun G2616 H2617 R2618 => ?_⟩
          obtain ⟨G2619, S2620, s2621, t2622, l2623⟩ := S0.ret0 R2618
          have f2599 := f2599.same s2621
          have sE2600 := sE2600.trans s2621
          refine ⟨_, rfl, ?_⟩
          rcases cnd h with ⟨c2648, h⟩ | ⟨c2648, h⟩
          ·
            refine iteY c2648 ?_
            refine rd_call ?_
            refine rd_cons ?_
            refine rd_op ?_
            refine rd_var rfl ?_
            refine rd_c ?_
            obtain ⟨v2624, v2625, h2628, f2626, f2627⟩ := tu2 f2599
            cases fr_int f2626
            cases fr_str f2627
            refine rd_ixT (S2620.sub _ _ h2628) rfl ?_
            refine rd_nil ?_
            obtain ⟨y2629, h2630, h⟩ := bnd h
            refine ⟨x_value.2, rfl, y2629, h2630, fun G2631 H2632 R2633 => ?_⟩
            obtain ⟨G2634, S2635, s2636, t2637, l2638⟩ := S2620.ret0 R2633
            have f2599 := f2599.same s2636
            have sE2600 := sE2600.trans s2636
            cases h
            exact q _ _ ⟨G2634, rfl, S2635, sE2600⟩
          ·
            refine iteN c2648 ?_
            cases h
            exact q _ _ ⟨G2619, rfl, S2620, sE2600⟩
        ·
          refine iteN c2647 ?_
          cases h
          exact q _ _ ⟨H0, rfl, S0, sE2600⟩
      ·
        refine iteN c2646 ?_
        cases h
        exact q _ _ ⟨H0, rfl, S0, sE2600⟩
    rintro _ H2643 ⟨G2642, rfl, S2644, s2645⟩
    have f2599 := f2599.same s2645
    cases h
    exact kq _ _ S2644.toRet
end
end K84

namespace K84
open PySem L2 LX LQ
section
variable {P : Program} {w : World} {K : PySem.W.Frag} {mg : Str → Option Value} {base : Heap} {a : Ad}
open LQF
def sp_is_lineup (K : PySem.W.Frag) : Sp := fun vs H Q _ => ∃ (a2649 : Addr) (x_value : (List (Int × Str))), vs = [.ref a2649] ∧ Fr E0h H (.ref a2649) ((eL (eT2 eI eS)) x_value) ∧ ∃ r, F_is_lineup x_value = some r ∧ ∀ (G H' : Hp), Ret [] H G H' → Q (.bl (r)) H'
theorem ok_is_lineup (T : Txt K mg a) : FnOk P w K mg base CX0 3 a.f_is_lineup a.d_is_lineup ["value"] (sp_is_lineup K) := by
  refine T.F_is_lineup.ok sc_is_lineup (fun vs H Q E h => ?_) (fun cdv A outer s H0 vs Q E hr h => ?_)
  · obtain ⟨a2649, x_value, rfl, _⟩ := h
    rfl
  · obtain ⟨a2649, x_value, rfl, f2650, r, h, kq⟩ := h
    have nd := sc_is_lineup.nd
    have hu64 := hr.units
    have hu65 := units65 hr
    refine ⟨_, (pss_cons (ps_if (PW.pt (pw_or (pt_cmpR op_notTyB (pe_typeOf rfl T.b_type (pv 0)) (pe_bltn (v := .ty "list") (by rfl) T.b_list (by decide +kernel) rfl) (nomark _)) (pw_or1 (pt_not (pt_chain op_le op_le pe_int (pe_callB (klen (K := K)) (by rfl) T.b_len (by decide +kernel) (pa_cons (pv 0) pa_nil)) (pe_glob (v := .int 60) rfl T.c_MOST_PEOPLE ⟨_, rfl⟩)))))) (pss_one (ps_ret pe_bl)) pss_nil)
      (pss_cons (ps_for PassesOwn.never rfl (kpi_list (K := K) (pv 0)) (pg_name (i := 1) nd rfl (Or.inl rfl)) (pss_one (ps_if (pt_not (pt_val (pe_call (ok_is_colored_integer T) (hr.mono (by decide)) rfl T.g_is_colored_integer T.k_is_colored_integer T.n_is_colored_integer .nil pass0 (pa_cons (pv 1) pa_nil)))) (pss_one (ps_ret pe_bl)) pss_nil)))
      (pss_one (ps_ret (pe_cmpR (keqD (K := K) hu64) (pe_callB (ksorted (K := K)) (by rfl) T.b_sorted (by decide +kernel) (pa_cons (pe_lc (own := [("person", 2), ("_", 3)]) (g := gTup K 2 (gCons (gName 2) (gCons (gName 3) gNil))) (tt := tYes) rfl nd (kpi_list (K := K) (pv 0)) (blkOk_by (own := [("person", 2), ("_", 3)]) (N := ["value", "item", "person", "_"]) (sc := defScope s_is_lineup) (by decide +kernel)) (fun _ _ _ _ _ => (kpg_tup (K := K) rfl (pgs_cons (pg_name (i := 2) nd rfl (Or.inl rfl)) (pgs_cons (pg_name (i := 3) nd rfl (Or.inl rfl)) pgs_nil)))) (fun _ _ _ _ _ => pts_nil) (fun _ _ _ _ _ => (pv 2))) pa_nil)) (pe_listRg rfl rfl T.b_list (prg_1 rfl T.b_range (pe_callB (klen (K := K)) (by rfl) T.b_len (by decide +kernel) (pa_cons (pv 0) pa_nil)))) (nomark _)))))), ?_⟩
    unfold F_is_lineup at h
    have S0 := Sep.start H0
    refine rd_seq ?_
    refine rd_ifS ?_
    refine rd_ttM (fun k H' => k = ((!(decide ("list" = "list"))) || (!((decide ((1 : Int) ≤ (lenI x_value))) && (decide ((lenI x_value) ≤ (60 : Int)))))) ∧ H0 = H') (fun R q => ?_) ?_
    ·
      refine rd_or ?_
      refine rd_test ?_
      refine rd_op ?_
      refine rd_cb ?_
      refine rd_cons ?_
      refine rd_var rfl ?_
      refine rd_nil ?_
      obtain ⟨w2652, h2653, k2654⟩ := li f2650
      refine rd_tyL (S0.sub _ _ h2653) ?_
      refine rd_c ?_
      refine rd_NT ?_
      refine rd_bl ?_
      refine ite_by (fun c2662 => ?_) (fun c2662 => ?_)
      ·
        exact q _ _ ⟨(orT c2662), rfl⟩
      ·
        refine rd_not ?_
        refine rd_test ?_
        refine rd_teM2 (fun k H' => k = .bl ((decide ((1 : Int) ≤ (lenI x_value))) && (decide ((lenI x_value) ≤ (60 : Int)))) ∧ H0 = H') (fun R q => ?_) ?_
        ·
          refine rd_chain ?_
          refine rd_c ?_
          refine rd_cb ?_
          refine rd_cons ?_
          refine rd_var rfl ?_
          refine rd_nil ?_
          obtain ⟨w2656, h2657, k2658⟩ := li f2650
          refine q_len (S0.sub _ _ h2657) k2658 ?_
          refine rd_I0 ?_
          refine rd_bl ?_
          refine ite_by (fun c2660 => ?_) (fun c2660 => ?_)
          ·
            refine rd_c ?_
            refine rd_I0 ?_
            exact q _ _ ⟨(congrArg V.bl (andT c2660 rfl)), rfl⟩
          ·
            exact q _ _ ⟨(congrArg V.bl (andF c2660)), rfl⟩
        rintro _ _ ⟨rfl, rfl⟩
        refine rd_bl ?_
        exact q _ _ ⟨(orF c2662 rfl), rfl⟩
    rintro _ _ ⟨rfl, rfl⟩
    rcases cnd h with ⟨c2768, h⟩ | ⟨c2768, h⟩
    ·
      refine iteY c2768 ?_
      refine rd_ret ?_
      refine rd_c ?_
      cases h
      exact kq _ _ S0.toRet
    ·
      refine iteN c2768 ?_
      refine rd_next ?_
      refine rd_mk ?_
      refine rd_seq ?_
      refine rd_for ?_
      refine rd_iList ?_
      refine rd_var rfl ?_
      obtain ⟨w2663, h2664, k2665⟩ := li f2650
      refine ⟨_, rfl, ⟨_, SqL.of (S0.sub _ _ h2664)⟩, ?_⟩
      obtain ⟨r2683_, h2684, ho2682⟩ := bnd h
      refine q_forC h2684 (w_li k2665) (fun s2667 σ' H' => ∃ (x2679 : Option V) (G2675 : Hp), σ' = [some (.ref a2649), x2679, none, none] ∧ Sep [] H0 G2675 H' [] ∧ Same H0 G2675) ?_ ?_ ?_ ?_
      · exact ⟨_, H0, rfl, S0, Same.refl _⟩
      · rintro s2667 _ H2676 ⟨x2679, G2675, rfl, S2677, sE2678⟩
        exact (S2677.sub _ _ (sE2678 _ _ h2664))
      · rintro i2668 a2666 s2667 c2674 x2670 _ H2676 H2671 h2672 h ⟨x2679, G2675, rfl, S2677, sE2678⟩ h2673 hq2680 kb2681
        have f2650 := f2650.same sE2678
        obtain ⟨rfl, e2685⟩ := h2673
        have f2686 := (e2685 _ h2672).same sE2678
        obtain ⟨a2687, rfl⟩ := fr_tup f2686
        refine rd_nameS (σ' := [some (.ref a2649), some (.ref a2687), none, none]) rfl ?_
        refine rd_ifS ?_
        refine rd_not ?_
        refine rd_tB ?_
        refine rd_call ?_
        refine rd_cons ?_
        refine rd_var rfl ?_
        refine rd_nil ?_
        obtain ⟨y2688, h2689, h⟩ := bnd h
        refine ⟨a2687, a2666, rfl, (f2686.same S2677.sub), y2688, h2689, fun G2690 H2691 R2692 => ?_⟩
        obtain ⟨G2693, S2694, s2695, t2696, l2697⟩ := S2677.ret0 R2692
        have f2650 := f2650.same s2695
        have f2686 := f2686.same s2695
        have sE2678 := sE2678.trans s2695
        refine rd_bl ?_
        rcases cnd h with ⟨c2699, h⟩ | ⟨c2699, h⟩
        ·
          refine iteY c2699 ?_
          refine rd_ret ?_
          refine rd_c ?_
          cases h
          have e2698 := hq2680 _ rfl
          subst e2698
          cases (show some (false) = some _ from ho2682)
          exact kq _ _ S2694.toRet
        ·
          refine iteN c2699 ?_
          refine rd_next ?_
          cases h
          exact ⟨_, rfl, _, G2693, rfl, S2694, sE2678⟩
      rintro r2683 _ H2701 rfl ⟨x2704, G2700, rfl, S2702, sE2703⟩
      have h := ho2682
      have f2650 := f2650.same sE2703
      refine rd_mk ?_
      refine rd_ret ?_
      refine rd_op ?_
      refine rd_cb ?_
      refine rd_cons ?_
      refine rd_lc ?_
      refine rd_iList ?_
      refine rd_var rfl ?_
      obtain ⟨w2705, h2706, k2707⟩ := li f2650
      refine ⟨_, rfl, ⟨_, SqL.of (S2702.sub _ _ h2706)⟩, ?_⟩
      intro D2708 h2709
      obtain ⟨l2732, h2733, h⟩ := bnd h
      refine q_lcL (enc := eI) (F0 := H0) h2733 (w_li k2707) S2702 h2709 S2702.old ?_ ?_ ?_
      · rintro GD2708 HD2708 accD2708 SD2708 sD2708
        exact (SD2708.sub _ _ (sD2708 _ _ h2706))
      · rintro i2711 x2712 a2710 o2721 G2715 H2713 H2714 acc2720 h2718 h S2716 s2717 h2719 T F hT hF
        have f2650 := f2650.same s2717
        have sT2722 := Same.refl G2715
        obtain ⟨rfl, e2724⟩ := h2719
        have f2725 := (e2724 _ h2718).same s2717
        obtain ⟨a2726, rfl⟩ := fr_tup f2725
        obtain ⟨v2727, v2728, h2731, f2729, f2730⟩ := tu2 f2725
        cases fr_int f2729
        cases fr_str f2730
        refine rd_gtup (S2716.sub _ _ h2731) rfl ?_
        refine rd_gcons ?_
        refine rd_nameS (σ' := [some (.ref a2649), x2704, some (.int a2710.1), none]) rfl ?_
        refine rd_gcons ?_
        refine rd_nameS (σ' := [some (.ref a2649), x2704, some (.int a2710.1), some (.str a2710.2)]) rfl ?_
        refine rd_gnil ?_
        refine ⟨rfl, ?_⟩
        refine rd_tyes ?_
        refine iteY rfl ?_
        refine rd_var rfl ?_
        cases h
        exact hT _ _ _ _ rfl S2716 sT2722 (.int _)
      rintro G2734 H2735 w2736 S2737 s2738 f2739 n2740 n2741
      have f2650 := f2650.same s2738
      obtain ⟨G2742, S2743, s2744, f2745⟩ := S2737.fixF 0 rfl (by simp) f2739 n2741
      have f2650 := f2650.same s2744
      refine rd_nil ?_
      obtain ⟨w2746, h2747, k2748⟩ := li f2745
      refine q_sortI (S2743.sub _ _ h2747) k2748 ?_
      refine q_new (F0 := H0) (ds := (sortI l2732).map eI) S2743 (ints_frl _) S2743.old fun a2749 G2750 H2751 S2752 s2753 f2754 => ?_
      have f2650 := f2650.same s2753
      refine rd_lstRgZ ?_
      refine rd_rg1 ?_
      refine rd_cb ?_
      refine rd_cons ?_
      refine rd_var rfl ?_
      refine rd_nil ?_
      obtain ⟨w2755, h2756, k2757⟩ := li f2650
      refine q_len (S2752.sub _ _ h2756) k2757 ?_
      refine ⟨_, rfl, ?_⟩
      obtain ⟨l2758, h2759, h⟩ := bnd h
      refine q_lrg h2759 ?_
      refine q_new (F0 := H0) (ds := l2758.map eI) S2752 (ints_frl l2758) S2752.old fun a2760 G2761 H2762 S2763 s2764 f2765 => ?_
      have f2650 := f2650.same s2764
      have f2754 := f2754.same s2764
      obtain ⟨b2766, h2767, h⟩ := bnd h
      refine q_eqD (f2754.rp.same S2763.sub) (f2765.rp.same S2763.sub) h2767 ?_
      cases h
      exact kq _ _ S2763.toRet
end
end K84

namespace K84
open PySem L2 LX LQ
section
variable {P : Program} {w : World} {K : PySem.W.Frag} {mg : Str → Option Value} {base : Heap} {a : Ad}
open LQF
def sp_check_lineup (K : PySem.W.Frag) : Sp := fun vs H Q _ => ∃ (a2769 : Addr) (x_value : (List (Int × Str))), vs = [.ref a2769] ∧ Fr E0h H (.ref a2769) ((eL (eT2 eI eS)) x_value) ∧ ∃ r, F_check_lineup x_value = some r ∧ ∀ (G H' : Hp), Ret [] H G H' → Q .non H'
theorem ok_check_lineup (T : Txt K mg a) : FnOk P w K mg base CX0 4 a.f_check_lineup a.d_check_lineup ["value"] (sp_check_lineup K) := by
  refine T.F_check_lineup.ok sc_check_lineup (fun vs H Q E h => ?_) (fun cdv A outer s H0 vs Q E hr h => ?_)
  · obtain ⟨a2769, x_value, rfl, _⟩ := h
    rfl
  · obtain ⟨a2769, x_value, rfl, f2770, r, h, kq⟩ := h
    have nd := sc_check_lineup.nd
    have hu64 := hr.units
    have hu65 := units65 hr
    refine ⟨_, (pss_one (ps_if (pt_not (pt_val (pe_call (ok_is_lineup T) (hr.mono (by decide)) rfl T.g_is_lineup T.k_is_lineup T.n_is_lineup .nil pass0 (pa_cons (pv 0) pa_nil)))) pss_never pss_nil)), ?_⟩
    unfold F_check_lineup at h
    have S0 := Sep.start H0
    refine rd_ifS ?_
    refine rd_not ?_
    refine rd_tB ?_
    refine rd_call ?_
    refine rd_cons ?_
    refine rd_var rfl ?_
    refine rd_nil ?_
    obtain ⟨y2771, h2772, h⟩ := bnd h
    refine ⟨a2769, x_value, rfl, (f2770.same S0.sub), y2771, h2772, fun G2773 H2774 R2775 => ?_⟩
    obtain ⟨G2776, S2777, s2778, t2779, l2780⟩ := S0.ret0 R2775
    have f2770 := f2770.same s2778
    refine rd_bl ?_
    rcases cnd h with ⟨c2781, h⟩ | ⟨c2781, h⟩
    ·
      refine iteY c2781 ?_
      cases h
    ·
      refine iteN c2781 ?_
      refine rd_next ?_
      cases h
      exact kq _ _ S2777.toRet
end
end K84

namespace K84
open PySem L2 LX LQ
section
variable {P : Program} {w : World} {K : PySem.W.Frag} {mg : Str → Option Value} {base : Heap} {a : Ad}
open LQF
def sp_check_people (K : PySem.W.Frag) : Sp := fun vs H Q _ => ∃ (a2782 : Addr) (x_lineup : (List (Int × Str))), vs = [.ref a2782] ∧ Fr E0h H (.ref a2782) ((eL (eT2 eI eS)) x_lineup) ∧ ∃ r, F_check_people x_lineup = some r ∧ ∀ (G H' : Hp), Ret [] H G H' → Q .non H'
theorem ok_check_people (T : Txt K mg a) : FnOk P w K mg base CX0 3 a.f_check_people a.d_check_people ["lineup"] (sp_check_people K) := by
  refine T.F_check_people.ok sc_check_people (fun vs H Q E h => ?_) (fun cdv A outer s H0 vs Q E hr h => ?_)
  · obtain ⟨a2782, x_lineup, rfl, _⟩ := h
    rfl
  · obtain ⟨a2782, x_lineup, rfl, f2783, r, h, kq⟩ := h
    have nd := sc_check_people.nd
    have hu64 := hr.units
    have hu65 := units65 hr
    refine ⟨_, (pss_one (ps_if (pt_cmpR op_gt (pe_callB (klen (K := K)) (by rfl) T.b_len (by decide +kernel) (pa_cons (pv 0) pa_nil)) (pe_glob (v := .int 4) rfl T.c_SMALL ⟨_, rfl⟩) (nomark _)) pss_never pss_nil)), ?_⟩
    unfold F_check_people at h
    have S0 := Sep.start H0
    refine rd_ifS ?_
    refine rd_test ?_
    refine rd_op ?_
    refine rd_cb ?_
    refine rd_cons ?_
    refine rd_var rfl ?_
    refine rd_nil ?_
    obtain ⟨w2784, h2785, k2786⟩ := li f2783
    refine q_len (S0.sub _ _ h2785) k2786 ?_
    refine rd_c ?_
    refine rd_I0 ?_
    refine rd_bl ?_
    rcases cnd h with ⟨c2787, h⟩ | ⟨c2787, h⟩
    ·
      refine iteY c2787 ?_
      cases h
    ·
      refine iteN c2787 ?_
      refine rd_next ?_
      cases h
      exact kq _ _ S0.toRet
end
end K84

namespace K84
open PySem L2 LX LQ
section
variable {P : Program} {w : World} {K : PySem.W.Frag} {mg : Str → Option Value} {base : Heap} {a : Ad}
open LQF
def sp_check_small (K : PySem.W.Frag) : Sp := fun vs H Q _ => ∃ (a2788 : Addr) (x_lineup : (List (Int × Str))), vs = [.ref a2788] ∧ Fr E0h H (.ref a2788) ((eL (eT2 eI eS)) x_lineup) ∧ ∃ r, F_check_small x_lineup = some r ∧ ∀ (G H' : Hp), Ret [] H G H' → Q .non H'
theorem ok_check_small (T : Txt K mg a) : FnOk P w K mg base CX0 5 a.f_check_small a.d_check_small ["lineup"] (sp_check_small K) := by
  refine T.F_check_small.ok sc_check_small (fun vs H Q E h => ?_) (fun cdv A outer s H0 vs Q E hr h => ?_)
  · obtain ⟨a2788, x_lineup, rfl, _⟩ := h
    rfl
  · obtain ⟨a2788, x_lineup, rfl, f2789, r, h, kq⟩ := h
    have nd := sc_check_small.nd
    have hu64 := hr.units
    have hu65 := units65 hr
    refine ⟨_, (pss_cons (ps_expr (pe_call (ok_check_lineup T) (hr.mono (by decide)) rfl T.g_check_lineup T.k_check_lineup T.n_check_lineup .nil pass0 (pa_cons (pv 0) pa_nil)))
      (pss_one (ps_expr (pe_call (ok_check_people T) (hr.mono (by decide)) rfl T.g_check_people T.k_check_people T.n_check_people .nil pass0 (pa_cons (pv 0) pa_nil))))), ?_⟩
    unfold F_check_small at h
    have S0 := Sep.start H0
    refine rd_seq ?_
    refine rd_drop ?_
    refine rd_call ?_
    refine rd_cons ?_
    refine rd_var rfl ?_
    refine rd_nil ?_
    obtain ⟨y2790, h2791, h⟩ := bnd h
    refine ⟨a2788, x_lineup, rfl, (f2789.same S0.sub), y2790, h2791, fun G2792 H2793 R2794 => ?_⟩
    obtain ⟨G2795, S2796, s2797, t2798, l2799⟩ := S0.ret0 R2794
    have f2789 := f2789.same s2797
    refine rd_mk ?_
    refine rd_drop ?_
    refine rd_call ?_
    refine rd_cons ?_
    refine rd_var rfl ?_
    refine rd_nil ?_
    obtain ⟨y2800, h2801, h⟩ := bnd h
    refine ⟨a2788, x_lineup, rfl, (f2789.same S2796.sub), y2800, h2801, fun G2802 H2803 R2804 => ?_⟩
    obtain ⟨G2805, S2806, s2807, t2808, l2809⟩ := S2796.ret0 R2804
    have f2789 := f2789.same s2807
    cases h
    exact kq _ _ S2806.toRet
end
end K84

namespace K84
open PySem L2 LX LQ
section
variable {P : Program} {w : World} {K : PySem.W.Frag} {mg : Str → Option Value} {base : Heap} {a : Ad}
open LQF
def sp_first_other_color (K : PySem.W.Frag) : Sp := fun vs H Q _ => ∃ (a2810 : Addr) (x_lineup : (List (Int × Str))) (x_color : Str), vs = [.ref a2810, (.str x_color)] ∧ Fr E0h H (.ref a2810) ((eVT (eT2 eI eS)) x_lineup) ∧ ∃ r, F_first_other_color x_lineup x_color = some r ∧ ∀ (G H' : Hp), Ret [] H G H' → Q (vO V.str (r)) H'
theorem ok_first_other_color (T : Txt K mg a) : FnOk P w K mg base CX0 1 a.f_first_other_color a.d_first_other_color ["lineup", "color"] (sp_first_other_color K) := by
  refine T.F_first_other_color.ok sc_first_other_color (fun vs H Q E h => ?_) (fun cdv A outer s H0 vs Q E hr h => ?_)
  · obtain ⟨a2810, x_lineup, x_color, rfl, _⟩ := h
    rfl
  · obtain ⟨a2810, x_lineup, x_color, rfl, f2811, r, h, kq⟩ := h
    have nd := sc_first_other_color.nd
    have hu64 := hr.units
    have hu65 := units65 hr
    refine ⟨_, (pss_cons (ps_for PassesOwn.never rfl (kpi_tup (K := K) (pv 0)) (kpg_tup (K := K) rfl (pgs_cons (pg_name (i := 2) nd rfl (Or.inl rfl)) (pgs_cons (pg_name (i := 3) nd rfl (Or.inl rfl)) pgs_nil))) (pss_one (ps_if (pt_cmpR op_ne (pv 3) (pv 1) (nomark _)) (pss_one (ps_ret (pv 3))) pss_nil)))
      (pss_one (ps_ret pe_non))), ?_⟩
    unfold F_first_other_color at h
    have S0 := Sep.start H0
    refine rd_seq ?_
    refine rd_for ?_
    refine rd_iTup ?_
    refine rd_var rfl ?_
    have f2815 : Fr E0h H0 (.ref a2810) (eVT (eT2 eI eS) x_lineup) := f2811
    obtain ⟨w2812, h2813, k2814⟩ := ti f2815
    refine ⟨_, rfl, ⟨_, SqT.of (S0.sub _ _ h2813)⟩, ?_⟩
    obtain ⟨r2834_, h2835, ho2833⟩ := bnd h
    refine q_forC h2835 (w_tu k2814) (fun s2817 σ' H' => ∃ (x2829 : Option V) (x2830 : Option V) (G2825 : Hp), σ' = [some (.ref a2810), some (.str x_color), x2829, x2830] ∧ Sep [] H0 G2825 H' [] ∧ Same H0 G2825) ?_ ?_ ?_ ?_
    · exact ⟨_, _, H0, rfl, S0, Same.refl _⟩
    · rintro s2817 _ H2826 ⟨x2829, x2830, G2825, rfl, S2827, sE2828⟩
      exact (S2827.sub _ _ (sE2828 _ _ h2813))
    · rintro i2818 a2816 s2817 c2824 x2820 _ H2826 H2821 h2822 h ⟨x2829, x2830, G2825, rfl, S2827, sE2828⟩ h2823 hq2831 kb2832
      obtain ⟨rfl, e2836⟩ := h2823
      have f2837 := (e2836 _ h2822).same sE2828
      obtain ⟨a2838, rfl⟩ := fr_tup f2837
      obtain ⟨v2839, v2840, h2843, f2841, f2842⟩ := tu2 f2837
      cases fr_int f2841
      cases fr_str f2842
      refine rd_gtup (S2827.sub _ _ h2843) rfl ?_
      refine rd_gcons ?_
      refine rd_nameS (σ' := [some (.ref a2810), some (.str x_color), some (.int a2816.1), x2830]) rfl ?_
      refine rd_gcons ?_
      refine rd_nameS (σ' := [some (.ref a2810), some (.str x_color), some (.int a2816.1), some (.str a2816.2)]) rfl ?_
      refine rd_gnil ?_
      refine rd_ifS ?_
      refine rd_test ?_
      refine rd_op ?_
      refine rd_var rfl ?_
      refine rd_var rfl ?_
      refine q_neS ?_
      refine rd_bl ?_
      rcases cnd h with ⟨c2845, h⟩ | ⟨c2845, h⟩
      ·
        refine iteY c2845 ?_
        refine rd_ret ?_
        refine rd_var rfl ?_
        cases h
        have e2844 := hq2831 _ rfl
        subst e2844
        cases (show some ((some a2816.2)) = some _ from ho2833)
        exact kq _ _ S2827.toRet
      ·
        refine iteN c2845 ?_
        refine rd_next ?_
        cases h
        exact ⟨_, rfl, _, _, G2825, rfl, S2827, sE2828⟩
    rintro r2834 _ H2847 rfl ⟨x2850, x2851, G2846, rfl, S2848, sE2849⟩
    have h := ho2833
    refine rd_mk ?_
    refine rd_ret ?_
    refine rd_c ?_
    cases h
    exact kq _ _ S2848.toRet
end
end K84

namespace K84
open PySem L2 LX LQ
section
variable {P : Program} {w : World} {K : PySem.W.Frag} {mg : Str → Option Value} {base : Heap} {a : Ad}
open LQF
def sp_colors_by_person (K : PySem.W.Frag) : Sp := fun vs H Q _ => ∃ (a2852 : Addr) (x_lineup : (List (Int × Str))), vs = [.ref a2852] ∧ Fr E0h H (.ref a2852) ((eVT (eT2 eI eS)) x_lineup) ∧ ∃ r, F_colors_by_person x_lineup = some r ∧ ∀ (a : Addr) (G H' : Hp), Ret [] H G H' → Fr H G (.ref a) ((eL eS) (r)) → Q (.ref a) H'
theorem ok_colors_by_person (T : Txt K mg a) : FnOk P w K mg base CX0 1 a.f_colors_by_person a.d_colors_by_person ["lineup"] (sp_colors_by_person K) := by
  refine T.F_colors_by_person.ok sc_colors_by_person (fun vs H Q E h => ?_) (fun cdv A outer s H0 vs Q E hr h => ?_)
  · obtain ⟨a2852, x_lineup, rfl, _⟩ := h
    rfl
  · obtain ⟨a2852, x_lineup, rfl, f2853, r, h, kq⟩ := h
    have nd := sc_colors_by_person.nd
    have hu64 := hr.units
    have hu65 := units65 hr
    refine ⟨_, (pss_cons (ps_set (i := 1) nd rfl (Or.inl rfl) (pe_op op_rep (pe_lst (pa_cons pe_str pa_nil)) (pe_callB (klen (K := K)) (by rfl) T.b_len (by decide +kernel) (pa_cons (pv 0) pa_nil))))
      (pss_cons (ps_for PassesOwn.never rfl (kpi_tup (K := K) (pv 0)) (kpg_tup (K := K) rfl (pgs_cons (pg_name (i := 2) nd rfl (Or.inl rfl)) (pgs_cons (pg_name (i := 3) nd rfl (Or.inl rfl)) pgs_nil))) (pss_one (ps_asg (pv 3) (pg_sub (pv 1) (pv 2) set_list))))
      (pss_one (ps_ret (pv 1))))), ?_⟩
    unfold F_colors_by_person at h
    have S0 := Sep.start H0
    refine rd_seq ?_
    refine rd_asg ?_
    refine rd_op ?_
    refine rd_lstZ ?_
    refine rd_cons ?_
    refine rd_c ?_
    refine rd_nil ?_
    refine q_lst (F0 := H0) (ds := [eS (Str.ofString "")]) S0 (by show 1 ≤ LIM; decide) (.cons (.str _) .nil) S0.old fun a2854 G2855 H2856 S2857 s2858 f2859 => ?_
    have f2853 := f2853.same s2858
    replace f2859 : Fr H0 G2855 (.ref a2854) ((eL eS) [(Str.ofString "")]) := f2859
    refine rd_cb ?_
    refine rd_cons ?_
    refine rd_var rfl ?_
    refine rd_nil ?_
    obtain ⟨w2860, h2861, k2862⟩ := ti f2853
    refine q_lenVT (S2857.sub _ _ h2861) k2862 ?_
    obtain ⟨y2863, h2864, h⟩ := bnd h
    obtain ⟨w2865, h2866, k2867⟩ := li f2859
    refine q_repO S2857 (S2857.sub _ _ h2866) k2867 h2864 fun a2868 w2871 H2869 S2870 n2872 f2873 => ?_
    refine rd_nameS (σ' := [some (.ref a2852), some (.ref a2868), none, none]) rfl ?_
    refine rd_mk ?_
    refine rd_seq ?_
    refine rd_for ?_
    refine rd_iTup ?_
    refine rd_var rfl ?_
    have f2877 : Fr E0h G2855 (.ref a2852) (eVT (eT2 eI eS) x_lineup) := f2853
    obtain ⟨w2874, h2875, k2876⟩ := ti f2877
    refine ⟨_, rfl, ⟨_, SqT.of (S2870.sub _ _ h2875)⟩, ?_⟩
    obtain ⟨r2898, h2899, h⟩ := bnd h
    refine q_forF h2899 (w_tu k2876) (fun s2879 σ' H' => ∃ (x2891 : Option V) (x2892 : Option V) (w2893 : List V) (G2887 : Hp), σ' = [some (.ref a2852), some (.ref a2868), x2891, x2892] ∧ Sep [] H0 G2887 H' [(a2868, .lst w2893)] ∧ Same G2855 G2887 ∧ FrL H0 G2887 w2893 ((s2879).map eS)) ?_ ?_ ?_ ?_
    · exact ⟨_, _, w2871, G2855, rfl, S2870, Same.refl _, f2873⟩
    · rintro s2879 _ H2888 ⟨x2891, x2892, w2893, G2887, rfl, S2889, sE2890, f2894⟩
      exact (S2889.sub _ _ (sE2890 _ _ h2875))
    · rintro i2880 a2878 s2879 s2881 x2882 _ H2888 H2883 h2884 h ⟨x2891, x2892, w2893, G2887, rfl, S2889, sE2890, f2894⟩ h2885
      obtain ⟨rfl, e2900⟩ := h2885
      have f2901 := (e2900 _ h2884).same sE2890
      obtain ⟨a2902, rfl⟩ := fr_tup f2901
      obtain ⟨v2903, v2904, h2907, f2905, f2906⟩ := tu2 f2901
      cases fr_int f2905
      cases fr_str f2906
      refine rd_gtup (S2889.sub _ _ h2907) rfl ?_
      refine rd_gcons ?_
      refine rd_nameS (σ' := [some (.ref a2852), some (.ref a2868), some (.int a2878.1), x2892]) rfl ?_
      refine rd_gcons ?_
      refine rd_nameS (σ' := [some (.ref a2852), some (.ref a2868), some (.int a2878.1), some (.str a2878.2)]) rfl ?_
      refine rd_gnil ?_
      refine rd_asg ?_
      refine rd_var rfl ?_
      refine rd_sub ?_
      refine rd_var rfl ?_
      refine rd_var rfl ?_
      obtain ⟨l2908, h2909, h⟩ := bnd h
      refine q_setL S2889 0 rfl f2894 (.str _) h2909 fun w2910 H2911 S2912 f2913 => ?_
      have S2912 : Sep [] H0 G2887 H2911 [(a2868, .lst w2910)] := S2912
      cases h
      exact ⟨_, _, w2910, G2887, rfl, S2912, sE2890, f2913⟩
    rintro _ H2915 ⟨x2918, x2919, w2920, G2914, rfl, S2916, sE2917, f2921⟩
    refine rd_mk ?_
    refine rd_ret ?_
    refine rd_var rfl ?_
    obtain ⟨G2922, S2923, s2924, f2925⟩ := S2916.fixL 0 rfl (by simp) f2921 n2872
    cases h
    exact kq a2868 _ _ S2923.toRet f2925
end
end K84

namespace K84
open PySem L2 LX LQ
section
variable {P : Program} {w : World} {K : PySem.W.Frag} {mg : Str → Option Value} {base : Heap} {a : Ad}
open LQF
def sp_apply_call (K : PySem.W.Frag) : Sp := fun vs H Q _ => ∃ (a2926 : Addr) (x_lineup : (List (Int × Str))) (x_person : Int), vs = [.ref a2926, (.int x_person)] ∧ Fr E0h H (.ref a2926) ((eVT (eT2 eI eS)) x_lineup) ∧ ∃ r, F_apply_call x_lineup x_person = some r ∧ ∀ (a : Addr) (G H' : Hp), Ret [] H G H' → Fr H G (.ref a) ((eT2 (eL (eT2 eI eS)) (eO eS)) (r)) → Q (.ref a) H'
theorem ok_apply_call (T : Txt K mg a) : FnOk P w K mg base CX0 2 a.f_apply_call a.d_apply_call ["lineup", "person"] (sp_apply_call K) := by
  refine T.F_apply_call.ok sc_apply_call (fun vs H Q E h => ?_) (fun cdv A outer s H0 vs Q E hr h => ?_)
  · obtain ⟨a2926, x_lineup, x_person, rfl, _⟩ := h
    rfl
  · obtain ⟨a2926, x_lineup, x_person, rfl, f2927, r, h, kq⟩ := h
    have nd := sc_apply_call.nd
    have hu64 := hr.units
    have hu65 := units65 hr
    refine ⟨_, (pss_cons (ps_set (i := 2) nd rfl (Or.inl rfl) (pe_ix (kix_list (K := K)) (pe_call (ok_colors_by_person T) (hr.mono (by decide)) rfl T.g_colors_by_person T.k_colors_by_person T.n_colors_by_person .nil pass0 (pa_cons (pv 0) pa_nil)) (pv 1) (fun _ _ => rfl)))
      (pss_cons (ps_set (i := 3) nd rfl (Or.inl rfl) (pe_call (ok_first_other_color T) (hr.mono (by decide)) rfl T.g_first_other_color T.k_first_other_color T.n_first_other_color .nil pass0 (pa_cons (pv 0) (pa_cons (pv 2) pa_nil))))
      (pss_cons (ps_setLc (i := 4) (own := [("pair", 5)]) (g := gName 5) rfl nd rfl rfl (sw_true rfl rfl rfl (by decide +kernel)) (kpi_tup (K := K) (pv 0)) (blkOk_by (own := [("pair", 5)]) (N := ["lineup", "person", "color", "taken", "others", "pair"]) (sc := defScope s_apply_call) (by decide +kernel)) (fun _ _ _ _ _ => (pg_name (i := 5) nd rfl (Or.inl rfl))) (fun _ _ _ _ _ => pts_one (pt_cmpR op_ne (pe_ix (kix_tup (K := K)) (pv 5) pe_int (fun _ _ => rfl)) (pv 1) (nomark _))) (fun _ _ _ _ _ => (pv 5)))
      (pss_one (ps_ret (pe_tup (pa_cons (pe_op op_cat (pe_lst (pa_cons (pe_tup (pa_cons (pv 1) (pa_cons (pe_ifExp (pt_cmpR kisN (pv 3) pe_non (nomark _)) (pv 2) (pv 3)) pa_nil))) pa_nil)) (pv 4)) (pa_cons (pv 3) pa_nil)))))))), ?_⟩
    unfold F_apply_call at h
    have S0 := Sep.start H0
    refine rd_seq ?_
    refine rd_asg ?_
    refine rd_op ?_
    refine rd_call ?_
    refine rd_cons ?_
    refine rd_var rfl ?_
    refine rd_nil ?_
    obtain ⟨y2928, h2929, h⟩ := bnd h
    refine ⟨a2926, x_lineup, rfl, (f2927.same S0.sub), y2928, h2929, fun a2933 G2930 H2931 R2932 f2934 => ?_⟩
    obtain ⟨G2935, S2936, s2937, t2938, l2939⟩ := S0.ret0 R2932
    have f2927 := f2927.same s2937
    have f2934 := t2938 _ _ f2934
    refine rd_var rfl ?_
    obtain ⟨y2940, h2941, h⟩ := bnd h
    obtain ⟨w2942, h2943, k2944⟩ := li f2934
    refine q_ixL (F0 := H0) (S2936.sub _ _ h2943) k2944 h2941 fun v2945 f2946 => ?_
    cases fr_str f2946
    refine rd_nameS (σ' := [some (.ref a2926), some (.int x_person), some (.str y2940), none, none, none]) rfl ?_
    refine rd_mk ?_
    refine rd_seq ?_
    refine rd_asg ?_
    refine rd_call ?_
    refine rd_cons ?_
    refine rd_var rfl ?_
    refine rd_cons ?_
    refine rd_var rfl ?_
    refine rd_nil ?_
    obtain ⟨y2947, h2948, h⟩ := bnd h
    refine ⟨a2926, x_lineup, y2940, rfl, (f2927.same S2936.sub), y2947, h2948, fun G2949 H2950 R2951 => ?_⟩
    obtain ⟨G2952, S2953, s2954, t2955, l2956⟩ := S2936.ret0 R2951
    have f2927 := f2927.same s2954
    refine rd_nameS (σ' := [some (.ref a2926), some (.int x_person), some (.str y2940), some (vO V.str y2947), none, none]) rfl ?_
    refine rd_mk ?_
    refine rd_seq ?_
    refine rd_asg ?_
    refine rd_lc ?_
    refine rd_iTup ?_
    refine rd_var rfl ?_
    have f2960 : Fr E0h G2952 (.ref a2926) (eVT (eT2 eI eS) x_lineup) := f2927
    obtain ⟨w2957, h2958, k2959⟩ := ti f2960
    refine ⟨_, rfl, ⟨_, SqT.of (S2953.sub _ _ h2958)⟩, ?_⟩
    intro D2961 h2962
    obtain ⟨l2985, h2986, h⟩ := bnd h
    refine q_lcL (enc := (eT2 eI eS)) (F0 := H0) h2986 (w_tu k2959) S2953 h2962 S2953.old ?_ ?_ ?_
    · rintro GD2961 HD2961 accD2961 SD2961 sD2961
      exact (SD2961.sub _ _ (sD2961 _ _ h2958))
    · rintro i2964 x2965 a2963 o2974 G2968 H2966 H2967 acc2973 h2971 h S2969 s2970 h2972 T F hT hF
      have f2927 := f2927.same s2970
      have sT2975 := Same.refl G2968
      obtain ⟨rfl, e2977⟩ := h2972
      have f2978 := (e2977 _ h2971).same s2970
      obtain ⟨a2979, rfl⟩ := fr_tup f2978
      refine rd_nameS (σ' := [some (.ref a2926), some (.int x_person), some (.str y2940), some (vO V.str y2947), none, some (.ref a2979)]) rfl ?_
      refine ⟨rfl, ?_⟩
      refine rd_test ?_
      refine rd_op ?_
      refine rd_op ?_
      refine rd_var rfl ?_
      refine rd_c ?_
      obtain ⟨v2980, v2981, h2984, f2982, f2983⟩ := tu2 f2978
      cases fr_int f2982
      cases fr_str f2983
      refine rd_ixT (S2969.sub _ _ h2984) rfl ?_
      refine rd_var rfl ?_
      refine q_neI ?_
      refine rd_bl ?_
      rcases cnd h with ⟨c2987, h⟩ | ⟨c2987, h⟩
      ·
        refine iteY c2987 ?_
        refine rd_var rfl ?_
        cases h
        exact hT _ _ _ _ rfl S2969 sT2975 (f2978.imm ((flT2 flI flS) _))
      ·
        refine iteN c2987 ?_
        cases h
        exact hF _ _ rfl S2969 sT2975
    rintro G2988 H2989 w2990 S2991 s2992 f2993 n2994 n2995
    have f2927 := f2927.same s2992
    obtain ⟨G2996, S2997, s2998, f2999⟩ := S2991.fixF 0 rfl (by simp) f2993 n2995
    have f2927 := f2927.same s2998
    refine rd_nameS (σ' := [some (.ref a2926), some (.int x_person), some (.str y2940), some (vO V.str y2947), some (.ref D2961), none]) rfl ?_
    refine rd_mk ?_
    refine rd_ret ?_
    refine rd_tupZ ?_
    refine rd_cons ?_
    refine rd_op ?_
    refine rd_lstZ ?_
    refine rd_cons ?_
    refine rd_tupZ ?_
    refine rd_cons ?_
    refine rd_var rfl ?_
    refine rd_cons ?_
    obtain ⟨y3007, h3008, h⟩ := bnd h
    refine rd_teM2 (fun k H' => ∃  (G3009 : Hp), k = (.str y3007) ∧ Sep [] H0 G3009 H' [] ∧ Same G2996 G3009) (fun R q => ?_) ?_
    ·
      have sE3000 := Same.refl G2996
      have h := h3008
      refine rd_ifE ?_
      refine rd_test ?_
      refine rd_op ?_
      refine rd_var rfl ?_
      refine rd_c ?_
      refine q_isNS ?_
      refine rd_bl ?_
      rcases cnd h with ⟨c3013, h⟩ | ⟨c3013, h⟩
      ·
        refine iteY c3013 ?_
        refine rd_var rfl ?_
        cases h
        exact q _ _ ⟨G2996, rfl, S2997, sE3000⟩
      ·
        refine iteN c3013 ?_
        obtain ⟨o3004, h3005, h⟩ := bnd h
        have e3006 : (vO V.str y2947) = (.str o3004) := by rw [h3005]; rfl
        refine rd_varE rfl e3006 ?_
        cases h
        exact q _ _ ⟨G2996, rfl, S2997, sE3000⟩
    rintro _ H3010 ⟨G3009, rfl, S3011, s3012⟩
    have f2999 := f2999.same s3012
    refine rd_nil ?_
    refine q_tup (F0 := H0) (ds := [eI x_person, eS y3007]) S3011 (by show 2 ≤ LIM; decide) (.cons (.int _) (.cons (.str _) .nil)) fun a3014 G3015 H3016 S3017 s3018 f3019 => ?_
    have f2999 := f2999.same s3018
    replace f3019 : Fr H0 G3015 (.ref a3014) ((eT2 eI eS) (x_person, y3007)) := f3019
    refine rd_nil ?_
    refine q_lst (F0 := H0) (ds := [(eT2 eI eS) (x_person, y3007)]) S3017 (by show 1 ≤ LIM; decide) (.cons f3019 .nil) S3017.old fun a3020 G3021 H3022 S3023 s3024 f3025 => ?_
    have f2999 := f2999.same s3024
    replace f3025 : Fr H0 G3021 (.ref a3020) ((eL (eT2 eI eS)) [(x_person, y3007)]) := f3025
    refine rd_var rfl ?_
    obtain ⟨y3026, h3027, h⟩ := bnd h
    obtain ⟨w3028, h3029, k3030⟩ := li f3025
    obtain ⟨w3031, h3032, k3033⟩ := li f2999
    refine q_cat S3023 (S3023.sub _ _ h3029) k3030 (S3023.sub _ _ h3032) k3033 h3027 S3023.old fun a3034 G3037 H3035 S3036 s3038 f3039 => ?_
    have f2999 := f2999.same s3038
    refine rd_cons ?_
    refine rd_var rfl ?_
    refine rd_nil ?_
    refine q_tup (F0 := H0) (ds := [(eL (eT2 eI eS)) y3026, (eO eS) y2947]) S3036 (by show 2 ≤ LIM; decide) (.cons f3039 (.cons (oS_fr y2947) .nil)) fun a3040 G3041 H3042 S3043 s3044 f3045 => ?_
    have f2999 := f2999.same s3044
    replace f3045 : Fr H0 G3041 (.ref a3040) ((eT2 (eL (eT2 eI eS)) (eO eS)) (y3026, y2947)) := f3045
    cases h
    exact kq a3040 _ _ S3043.toRet f3045
end
end K84

namespace K84
open PySem L2 LX LQ
section
variable {P : Program} {w : World} {K : PySem.W.Frag} {mg : Str → Option Value} {base : Heap} {a : Ad}
open LQF
def sp_shortest_calls_to_all (P : Program) (w : World) (K : PySem.W.Frag) : Sp := fun vs H Q _ => ∃ (a3046 : Addr) (x_lineup : (List (Int × Str))), vs = [.ref a3046] ∧ Fr E0h H (.ref a3046) ((eL (eT2 eI eS)) x_lineup) ∧ ∃ r, F_shortest_calls_to_all x_lineup = some r ∧ ∀ (a : Addr) (G H' : Hp), Ret [] H G H' → FrD P w kRow (eL eI) H G a (r) → Q (.ref a) H'
theorem ok_shortest_calls_to_all (T : Txt K mg a) : FnOk P w K mg base CX0 3 a.f_shortest_calls_to_all a.d_shortest_calls_to_all ["lineup"] (sp_shortest_calls_to_all P w K) := by
  refine T.F_shortest_calls_to_all.ok sc_shortest_calls_to_all (fun vs H Q E h => ?_) (fun cdv A outer s H0 vs Q E hr h => ?_)
  · obtain ⟨a3046, x_lineup, rfl, _⟩ := h
    rfl
  · obtain ⟨a3046, x_lineup, rfl, f3047, r, h, kq⟩ := h
    have nd := sc_shortest_calls_to_all.nd
    have hu64 := hr.units
    have hu65 := units65 hr
    refine ⟨_, (pss_cons (ps_set (i := 1) nd rfl (Or.inl rfl) (pe_tupleOf rfl T.b_tuple (pv 0)))
      (pss_cons (ps_set (i := 2) nd rfl (Or.inl rfl) (pe_disp1N (by exact hu64) (pv 1) (pe_lst pa_nil)))
      (pss_cons (ps_set (i := 3) nd rfl (Or.inl rfl) (pe_lst (pa_cons (pv 1) pa_nil)))
      (pss_cons (ps_while PassesOwn.never (kpt_truth (K := K) (pv 3) (by intro _; rfl)) (pss_cons (ps_set (i := 4) nd rfl (Or.inl rfl) (pe_lst pa_nil))
      (pss_cons (ps_for PassesOwn.never rfl (kpi_list (K := K) (pv 3)) (pg_name (i := 5) nd rfl (Or.inl rfl)) (pss_one (ps_for PassesOwn.never rfl (pi_range1 rfl T.b_range (pa_cons (pe_callB (klen (K := K)) (by rfl) T.b_len (by decide +kernel) (pa_cons (pv 0) pa_nil)) pa_nil)) (pg_name (i := 6) nd rfl (Or.inl rfl)) (pss_cons (ps_set (i := 7) nd rfl (Or.inl rfl) (pe_tupleOf rfl T.b_tuple (pe_ix (kix_tup (K := K)) (pe_call (ok_apply_call T) (hr.mono (by decide)) rfl T.g_apply_call T.k_apply_call T.n_apply_call .nil pass0 (pa_cons (pv 5) (pa_cons (pv 6) pa_nil))) pe_int (fun _ _ => rfl))))
      (pss_one (ps_if (pt_cmp (pc_dnotinP (P := P) (w := w) (by exact hu64) (pv 7) (pv 2)) rfl) (pss_cons (ps_dputN (by exact hu64) (pv 2) (pv 7) (pe_op op_cat (pe_dgetP (P := P) (w := w) (by exact hu64) (pv 2) (pv 5) (fun _ _ => rfl)) (pe_lst (pa_cons (pv 6) pa_nil))) rfl)
      (pss_one (ps_expr (kbm (K := K) PySem.F.plainAttrs_list PySem.F.slot_list_append PySem.F.type_list_append mt_append (pv 4) (pa_cons (pv 7) pa_nil))))) pss_nil))))))
      (pss_one (ps_set (i := 3) nd rfl (Or.inl rfl) (pv 4))))))
      (pss_one (ps_ret (pv 2))))))), ?_⟩
    unfold F_shortest_calls_to_all at h
    have S0 := Sep.start H0
    refine rd_seq ?_
    refine rd_asg ?_
    refine rd_tupZ2 ?_
    refine rd_var rfl ?_
    obtain ⟨w3048, h3049, k3050⟩ := li f3047
    refine q_tuple S0 (S0.sub _ _ h3049) k3050 fun a3051 G3052 H3053 S3054 s3055 f3056 => ?_
    have f3047 := f3047.same s3055
    refine rd_nameS (σ' := [some (.ref a3046), some (.ref a3051), none, none, none, none, none, none]) rfl ?_
    refine rd_mk ?_
    refine rd_seq ?_
    refine rd_asg ?_
    refine rd_disp1 fun a3057 h3058 => ?_
    obtain ⟨S3059, n3060⟩ := q_disp0 (P := P) (w := w) S3054 h3058
    have f3062 : FrN kRow (eL eI) H0 G3052 [] (([] : (List ((List (Int × Str)) × (List Int))))) := .nil
    refine rd_var rfl ?_
    refine rd_lstZ ?_
    refine rd_nil ?_
    refine q_lst (F0 := H0) (ds := []) S3059 (by show 0 ≤ LIM; decide) .nil S3059.old fun a3063 G3064 H3065 S3066 s3067 f3068 => ?_
    have f3047 := f3047.same s3067
    have f3056 := f3056.same s3067
    have f3062 := f3062.same s3067
    replace f3068 : Fr H0 G3064 (.ref a3063) ((eL eI) ([] : (List Int))) := f3068
    refine q_disp1 (F0 := H0) kkRow S3066 f3056.rp f3068 fun w3069 H3070 S3071 f3072 => ?_
    have S3071 : Sep [] H0 G3064 H3070 [(a3057, DN P w a3057 w3069)] := S3071
    refine rd_nameS (σ' := [some (.ref a3046), some (.ref a3051), some (.ref a3057), none, none, none, none, none]) rfl ?_
    refine rd_mk ?_
    refine rd_seq ?_
    refine rd_asg ?_
    refine rd_lstZ ?_
    refine rd_cons ?_
    refine rd_var rfl ?_
    refine rd_nil ?_
    refine q_lst (F0 := H0) (ds := [(eVT (eT2 eI eS)) x_lineup]) S3071 (by show 1 ≤ LIM; decide) (.cons (f3056.imm ((flVT (flT2 flI flS)) _)) .nil) S3071.old fun a3073 G3074 H3075 S3076 s3077 f3078 => ?_
    have f3047 := f3047.same s3077
    have f3056 := f3056.same s3077
    have f3072 := f3072.same s3077
    replace f3078 : Fr H0 G3074 (.ref a3073) ((eL (eVT (eT2 eI eS))) [x_lineup]) := f3078
    refine rd_nameS (σ' := [some (.ref a3046), some (.ref a3051), some (.ref a3057), some (.ref a3073), none, none, none, none]) rfl ?_
    refine rd_mk ?_
    refine rd_seq ?_
    obtain ⟨r3099, h3100, h⟩ := bnd h
    refine q_whileF h3100 (fun s3079 σ' H' => ∃ (x3088 : Option V) (x3089 : Option V) (x3090 : Option V) (x3091 : Option V) (a3092 : Addr) (w3094 : NKv) (G3084 : Hp), σ' = [some (.ref a3046), some (.ref a3051), some (.ref a3057), some (.ref a3092), x3088, x3089, x3090, x3091] ∧ Sep [] H0 G3084 H' [(a3057, DN P w a3057 w3094)] ∧ Same G3074 G3084 ∧ Fr H0 G3084 (.ref a3092) ((eL (eVT (eT2 eI eS))) s3079.1) ∧ FrN kRow (eL eI) H0 G3084 w3094 (s3079.2)) ?_ ?_ ?_ ?_
    · exact ⟨_, _, _, _, a3073, w3069, G3074, rfl, S3076, Same.refl _, f3078, f3072⟩
    · rintro s3079 t3081 _ H3085 h ⟨x3088, x3089, x3090, x3091, a3092, w3094, G3084, rfl, S3086, sE3087, f3093, f3095⟩ Q Q3083
      have f3047 := f3047.same sE3087
      refine rd_qtru ?_
      refine rd_var rfl ?_
      obtain ⟨w3102, h3103, k3104⟩ := li f3093
      refine q_truL (S3086.sub _ _ h3103) k3104 ?_
      cases h
      exact Q3083 _ ⟨_, _, _, _, a3092, w3094, G3084, rfl, S3086, sE3087, f3093, f3095⟩
    · rintro s3079 s3080 _ H3085 h h3101 ⟨x3088, x3089, x3090, x3091, a3092, w3094, G3084, rfl, S3086, sE3087, f3093, f3095⟩
      have f3047 := f3047.same sE3087
      refine rd_seq ?_
      refine rd_asg ?_
      refine rd_lstZ ?_
      refine rd_nil ?_
      refine q_lstO S3086 (by show 0 ≤ LIM; decide) fun a3105 H3106 S3107 n3108 => ?_
      have f3109 : FrL H0 G3084 [] (([] : (List (List (Int × Str)))).map (eVT (eT2 eI eS))) := .nil
      refine rd_nameS (σ' := [some (.ref a3046), some (.ref a3051), some (.ref a3057), some (.ref a3092), some (.ref a3105), x3089, x3090, x3091]) rfl ?_
      refine rd_mk ?_
      refine rd_seq ?_
      refine rd_for ?_
      refine rd_iList ?_
      refine rd_var rfl ?_
      obtain ⟨w3110, h3111, k3112⟩ := li f3093
      refine ⟨_, rfl, ⟨_, SqL.of (S3107.sub _ _ h3111)⟩, ?_⟩
      obtain ⟨r3136, h3137, h⟩ := bnd h
      refine q_forF h3137 (w_li k3112) (fun s3114 σ' H' => ∃ (x3126 : Option V) (x3127 : Option V) (x3128 : Option V) (w3129 : List V) (w3131 : NKv) (G3122 : Hp), σ' = [some (.ref a3046), some (.ref a3051), some (.ref a3057), some (.ref a3092), some (.ref a3105), x3126, x3127, x3128] ∧ Sep [] H0 G3122 H' [(a3105, .lst w3129), (a3057, DN P w a3057 w3131)] ∧ Same G3084 G3122 ∧ FrL H0 G3122 w3129 ((s3114.1).map (eVT (eT2 eI eS))) ∧ FrN kRow (eL eI) H0 G3122 w3131 (s3114.2)) ?_ ?_ ?_ ?_
      · exact ⟨_, _, _, [], w3094, G3084, rfl, S3107, Same.refl _, f3109, f3095⟩
      · rintro s3114 _ H3123 ⟨x3126, x3127, x3128, w3129, w3131, G3122, rfl, S3124, sE3125, f3130, f3132⟩
        exact (S3124.sub _ _ (sE3125 _ _ h3111))
      · rintro i3115 a3113 s3114 s3116 x3117 _ H3123 H3118 h3119 h ⟨x3126, x3127, x3128, w3129, w3131, G3122, rfl, S3124, sE3125, f3130, f3132⟩ h3120
        have f3047 := f3047.same sE3125
        obtain ⟨rfl, e3138⟩ := h3120
        have f3139 := (e3138 _ h3119).same sE3125
        obtain ⟨a3140, rfl⟩ := fr_tup f3139
        refine rd_nameS (σ' := [some (.ref a3046), some (.ref a3051), some (.ref a3057), some (.ref a3092), some (.ref a3105), some (.ref a3140), x3127, x3128]) rfl ?_
        refine rd_for ?_
        refine rd_iR1 ?_
        refine rd_cons ?_
        refine rd_cb ?_
        refine rd_cons ?_
        refine rd_var rfl ?_
        refine rd_nil ?_
        obtain ⟨w3141, h3142, k3143⟩ := li f3047
        refine q_len (S3124.sub _ _ h3142) k3143 ?_
        refine rd_nil ?_
        obtain ⟨l3144, h3145, h⟩ := bnd h
        refine q_rng1 h3145 ?_
        obtain ⟨r3168, h3169, h⟩ := bnd h
        refine q_forF h3169 (w_rng1 h3145) (fun s3147 σ' H' => ∃ (x3159 : Option V) (x3160 : Option V) (w3161 : List V) (w3163 : NKv) (G3155 : Hp), σ' = [some (.ref a3046), some (.ref a3051), some (.ref a3057), some (.ref a3092), some (.ref a3105), some (.ref a3140), x3159, x3160] ∧ Sep [] H0 G3155 H' [(a3105, .lst w3161), (a3057, DN P w a3057 w3163)] ∧ Same G3122 G3155 ∧ FrL H0 G3155 w3161 ((s3147.1).map (eVT (eT2 eI eS))) ∧ FrN kRow (eL eI) H0 G3155 w3163 (s3147.2)) ?_ ?_ ?_ ?_
        · exact ⟨_, _, w3129, w3131, G3122, rfl, S3124, Same.refl _, f3130, f3132⟩
        · rintro s3147 _ H3156 ⟨x3159, x3160, w3161, w3163, G3155, rfl, S3157, sE3158, f3162, f3164⟩
          exact trivial
        · rintro i3148 a3146 s3147 s3149 x3150 _ H3156 H3151 h3152 h ⟨x3159, x3160, w3161, w3163, G3155, rfl, S3157, sE3158, f3162, f3164⟩ h3153
          have f3047 := f3047.same sE3158
          have f3139 := f3139.same sE3158
          obtain ⟨rfl, e3170⟩ := h3153
          cases e3170 _ h3152
          refine rd_nameS (σ' := [some (.ref a3046), some (.ref a3051), some (.ref a3057), some (.ref a3092), some (.ref a3105), some (.ref a3140), some (.int a3146), x3160]) rfl ?_
          refine rd_seq ?_
          refine rd_asg ?_
          refine rd_tupZ2 ?_
          refine rd_op ?_
          refine rd_call ?_
          refine rd_cons ?_
          refine rd_var rfl ?_
          refine rd_cons ?_
          refine rd_var rfl ?_
          refine rd_nil ?_
          obtain ⟨y3171, h3172, h⟩ := bnd h
          refine ⟨a3140, a3113, a3146, rfl, (f3139.rp.same S3157.sub), y3171, h3172, fun a3176 G3173 H3174 R3175 f3177 => ?_⟩
          obtain ⟨G3178, S3179, s3180, t3181, l3182⟩ := S3157.ret0 R3175
          have f3047 := f3047.same s3180
          have f3139 := f3139.same s3180
          have f3162 := f3162.same s3180
          have f3164 := f3164.same s3180
          have sE3158 := sE3158.trans s3180
          have f3177 := t3181 _ _ f3177
          refine rd_c ?_
          obtain ⟨v3183, v3184, h3187, f3185, f3186⟩ := tu2 f3177
          obtain ⟨a3188, rfl⟩ := fr_lst f3185
          cases fr_oS f3186
          refine rd_ixT (S3179.sub _ _ h3187) rfl ?_
          obtain ⟨w3189, h3190, k3191⟩ := li f3185
          refine q_tuple S3179 (S3179.sub _ _ h3190) k3191 fun a3192 G3193 H3194 S3195 s3196 f3197 => ?_
          have f3047 := f3047.same s3196
          have f3139 := f3139.same s3196
          have f3162 := f3162.same s3196
          have f3164 := f3164.same s3196
          have sE3158 := sE3158.trans s3196
          refine rd_nameS (σ' := [some (.ref a3046), some (.ref a3051), some (.ref a3057), some (.ref a3092), some (.ref a3105), some (.ref a3140), some (.int a3146), some (.ref a3192)]) rfl ?_
          refine rd_mk ?_
          refine rd_ifS ?_
          refine rd_test ?_
          refine rd_dniN ?_
          refine rd_var rfl ?_
          refine rd_var rfl ?_
          refine q_dniN kkRow S3195 1 rfl f3164 (f3197.rp.same S3195.sub) ?_
          refine rd_bl ?_
          rcases cnd h with ⟨c3235, h⟩ | ⟨c3235, h⟩
          ·
            refine iteY c3235 ?_
            refine rd_seq ?_
            refine rd_dputN ?_
            refine rd_op ?_
            refine rd_dgetN ?_
            refine rd_var rfl ?_
            refine rd_var rfl ?_
            obtain ⟨y3198, h3199, h⟩ := bnd h
            refine q_dgetX kkRow (Or.inl (S3195.get 1 rfl)) f3164 S3195.sub (f3139.rp.same S3195.sub) h3199 fun v3200 f3201 => ?_
            obtain ⟨a3202, rfl⟩ := fr_lst f3201
            refine rd_lstZ ?_
            refine rd_cons ?_
            refine rd_var rfl ?_
            refine rd_nil ?_
            refine q_lst (F0 := H0) (ds := [eI a3146]) S3195 (by show 1 ≤ LIM; decide) (.cons (.int _) .nil) S3195.old fun a3203 G3204 H3205 S3206 s3207 f3208 => ?_
            have f3047 := f3047.same s3207
            have f3139 := f3139.same s3207
            have f3197 := f3197.same s3207
            have f3201 := f3201.same s3207
            have f3162 := f3162.same s3207
            have f3164 := f3164.same s3207
            have sE3158 := sE3158.trans s3207
            replace f3208 : Fr H0 G3204 (.ref a3203) ((eL eI) [a3146]) := f3208
            obtain ⟨y3209, h3210, h⟩ := bnd h
            obtain ⟨w3211, h3212, k3213⟩ := li f3201
            obtain ⟨w3214, h3215, k3216⟩ := li f3208
            refine q_cat S3206 (S3206.sub _ _ h3212) k3213 (S3206.sub _ _ h3215) k3216 h3210 S3206.old fun a3217 G3220 H3218 S3219 s3221 f3222 => ?_
            have f3047 := f3047.same s3221
            have f3139 := f3139.same s3221
            have f3197 := f3197.same s3221
            have f3162 := f3162.same s3221
            have f3164 := f3164.same s3221
            have sE3158 := sE3158.trans s3221
            refine rd_var rfl ?_
            refine rd_var rfl ?_
            obtain ⟨l3223, h3224, h⟩ := bnd h
            refine q_dputN kkRow S3219 1 rfl f3164 f3197.rp f3222 h3224 fun w3225 H3226 S3227 f3228 => ?_
            have S3227 : Sep [] H0 G3220 H3226 [(a3105, .lst w3161), (a3057, DN P w a3057 w3225)] := S3227
            refine rd_mk ?_
            refine rd_drop ?_
            refine rd_bm ?_
            refine rd_var rfl ?_
            refine ⟨Or.inl ⟨rfl, _, SqL.of (S3227.get 0 rfl)⟩, ?_⟩
            refine rd_cons ?_
            refine rd_var rfl ?_
            refine rd_nil ?_
            obtain ⟨l3229, h3230, h⟩ := bnd h
            refine q_app S3227 0 rfl f3162 f3197 h3230 fun w3231 H3232 S3233 f3234 => ?_
            have S3233 : Sep [] H0 G3220 H3232 [(a3105, .lst w3231), (a3057, DN P w a3057 w3225)] := S3233
            cases h
            exact ⟨_, _, w3231, w3225, G3220, rfl, S3233, sE3158, f3234, f3228⟩
          ·
            refine iteN c3235 ?_
            refine rd_next ?_
            cases h
            exact ⟨_, _, w3161, w3163, G3193, rfl, S3195, sE3158, f3162, f3164⟩
        rintro _ H3237 ⟨x3240, x3241, w3242, w3244, G3236, rfl, S3238, sE3239, f3243, f3245⟩
        have f3047 := f3047.same sE3239
        have f3139 := f3139.same sE3239
        have sE3125 := sE3125.trans sE3239
        cases h
        exact ⟨_, _, _, w3242, w3244, G3236, rfl, S3238, sE3125, f3243, f3245⟩
      rintro _ H3247 ⟨x3250, x3251, x3252, w3253, w3255, G3246, rfl, S3248, sE3249, f3254, f3256⟩
      have f3047 := f3047.same sE3249
      have sE3087 := sE3087.trans sE3249
      refine rd_mk ?_
      refine rd_asg ?_
      refine rd_var rfl ?_
      obtain ⟨G3257, S3258, s3259, f3260⟩ := S3248.fixL 0 rfl (by simp) f3254 n3108
      have f3047 := f3047.same s3259
      have f3256 := f3256.same s3259
      have sE3087 := sE3087.trans s3259
      refine rd_nameS (σ' := [some (.ref a3046), some (.ref a3051), some (.ref a3057), some (.ref a3105), some (.ref a3105), x3250, x3251, x3252]) rfl ?_
      cases h
      exact ⟨_, _, _, _, a3105, w3255, G3257, rfl, S3258, sE3087, f3260, f3256⟩
    rintro _ H3262 ⟨x3265, x3266, x3267, x3268, a3269, w3271, G3261, rfl, S3263, sE3264, f3270, f3272⟩
    have f3047 := f3047.same sE3264
    refine rd_mk ?_
    refine rd_ret ?_
    refine rd_var rfl ?_
    obtain ⟨G3273, S3274, s3275, f3276⟩ := S3263.fixN 0 rfl (by simp) f3272 n3060
    cases h
    exact kq a3057 _ _ S3274.toRet f3276
end
end K84

namespace K84
open PySem L2 LX LQ
section
variable {P : Program} {w : World} {K : PySem.W.Frag} {mg : Str → Option Value} {base : Heap} {a : Ad}
open LQF
def sp_farthest_reachable (K : PySem.W.Frag) : Sp := fun vs H Q _ => ∃ (a3277 : Addr) (x_lineup : (List (Int × Str))), vs = [.ref a3277] ∧ Fr E0h H (.ref a3277) ((eL (eT2 eI eS)) x_lineup) ∧ ∃ r, F_farthest_reachable x_lineup = some r ∧ ∀ (a : Addr) (G H' : Hp), Ret [] H G H' → Fr H G (.ref a) ((eT2 eI eI) (r)) → Q (.ref a) H'
theorem ok_farthest_reachable (T : Txt K mg a) : FnOk P w K mg base CX0 6 a.f_farthest_reachable a.d_farthest_reachable ["lineup"] (sp_farthest_reachable K) := by
  refine T.F_farthest_reachable.ok sc_farthest_reachable (fun vs H Q E h => ?_) (fun cdv A outer s H0 vs Q E hr h => ?_)
  · obtain ⟨a3277, x_lineup, rfl, _⟩ := h
    rfl
  · obtain ⟨a3277, x_lineup, rfl, f3278, r, h, kq⟩ := h
    have nd := sc_farthest_reachable.nd
    have hu64 := hr.units
    have hu65 := units65 hr
    refine ⟨_, (pss_cons (ps_expr (pe_call (ok_check_small T) (hr.mono (by decide)) rfl T.g_check_small T.k_check_small T.n_check_small .nil pass0 (pa_cons (pv 0) pa_nil)))
      (pss_cons (ps_set (i := 1) nd rfl (Or.inr rfl) (pe_call (ok_shortest_calls_to_all T) (hr.mono (by decide)) rfl T.g_shortest_calls_to_all T.k_shortest_calls_to_all T.n_shortest_calls_to_all .nil pass0 (pa_cons (pv 0) pa_nil)))
      (pss_cons (ps_lockM (ps_setLc (i := 2) (own := [("target", 3)]) (g := gName 3) (tt := tYes) rfl nd rfl rfl (sw_true rfl rfl rfl (by decide +kernel)) (pi_keysP (P := P) (w := w) (pv 1)) (blkOk_by (own := [("target", 3)]) (N := ["lineup", "ways", "lengths", "target"]) (sc := defScope s_farthest_reachable) (by decide +kernel)) (fun _ _ _ _ _ => (pg_name (i := 3) nd rfl (Or.inl rfl))) (fun _ _ _ _ _ => pts_nil) (fun _ _ _ _ _ => (pe_callB (klen (K := K)) (by rfl) T.b_len (by decide +kernel) (pa_cons (pe_dgetP (P := P) (w := w) (by exact hu64) (pv 1) (pv 3) (fun _ _ => rfl)) pa_nil)))))
      (pss_one (ps_ret (pe_tup (pa_cons (pe_callB (kmax1 (K := K) rfl) (by rfl) T.b_max (by decide +kernel) (pa_cons (pv 2) pa_nil)) (pa_cons (kbm (K := K) PySem.F.plainAttrs_list PySem.F.slot_list_count PySem.F.type_list_count (klcount (K := K)) (pv 2) (pa_cons (pe_callB (kmax1 (K := K) rfl) (by rfl) T.b_max (by decide +kernel) (pa_cons (pv 2) pa_nil)) pa_nil)) pa_nil)))))))), ?_⟩
    unfold F_farthest_reachable at h
    have S0 := Sep.start H0
    refine rd_seq ?_
    refine rd_drop ?_
    refine rd_call ?_
    refine rd_cons ?_
    refine rd_var rfl ?_
    refine rd_nil ?_
    obtain ⟨y3279, h3280, h⟩ := bnd h
    refine ⟨a3277, x_lineup, rfl, (f3278.same S0.sub), y3279, h3280, fun G3281 H3282 R3283 => ?_⟩
    obtain ⟨G3284, S3285, s3286, t3287, l3288⟩ := S0.ret0 R3283
    have f3278 := f3278.same s3286
    refine rd_mk ?_
    refine rd_seq ?_
    refine rd_asg ?_
    refine rd_call ?_
    refine rd_cons ?_
    refine rd_var rfl ?_
    refine rd_nil ?_
    obtain ⟨y3289, h3290, h⟩ := bnd h
    refine ⟨a3277, x_lineup, rfl, (f3278.same S3285.sub), y3289, h3290, fun a3294 G3291 H3292 R3293 f3295 => ?_⟩
    obtain ⟨G3296, S3297, s3298, t3299, l3300, b3301⟩ := S3285.ret0D R3293
    have f3278 := f3278.same s3298
    have f3295 := f3295.back b3301 t3299
    refine rd_nameS (σ' := [some (.ref a3277), some (.ref a3294), none, none]) rfl ?_
    refine rd_mk ?_
    refine rd_seq ?_
    obtain ⟨w3302, h3303, n3304, k3305⟩ := id f3295
    refine q_lockMS S3297 h3303 isDN fun Hr3316 od3307 G3308 H3309 Q3310 e3306 d3311 S3312 g3313 hQ3314 => ?_
    have f3295 := (f3295.lk isDN d3311).h0 e3306
    have k3305 := (k3305.lk isDN d3311).h0 e3306
    have sE3315 := Same.refl G3308
    refine rd_asg ?_
    refine rd_lc ?_
    refine rd_iKeysN ?_
    refine rd_var rfl ?_
    refine q_keysN (S3312.sub _ _ g3313) ?_
    intro D3317 h3318
    obtain ⟨l3348, h3349, h⟩ := bnd h
    refine q_lcL (enc := eI) (F0 := Hr3316) h3349 (w_keysN kkRow k3305) S3312 h3318 S3312.old ?_ ?_ ?_
    · rintro GD3317 HD3317 accD3317 SD3317 sD3317
      exact (SD3317.sub _ _ (sD3317 _ _ g3313))
    · rintro i3320 x3321 a3319 o3330 G3324 H3322 H3323 acc3329 h3327 h S3325 s3326 h3328 T F hT hF
      have f3295 := f3295.same s3326
      have sT3331 := Same.refl G3324
      obtain ⟨rfl, e3333⟩ := h3328
      have f3334 := (e3333 _ h3327).same s3326
      obtain ⟨a3335, rfl⟩ := fr_tup f3334
      refine rd_nameS (σ' := [some (.ref a3277), some (.ref a3294), none, some (.ref a3335)]) rfl ?_
      refine ⟨rfl, ?_⟩
      refine rd_tyes ?_
      refine iteY rfl ?_
      refine rd_cb ?_
      refine rd_cons ?_
      refine rd_dgetN ?_
      refine rd_var rfl ?_
      refine rd_var rfl ?_
      obtain ⟨y3336, h3337, h⟩ := bnd h
      obtain ⟨w3338, h3339, n3340, k3341⟩ := id f3295
      refine q_dgetX kkRow (rd_same h3339 S3325.sub) k3341 S3325.sub (f3334.same S3325.sub) h3337 fun v3342 f3343 => ?_
      obtain ⟨a3344, rfl⟩ := fr_lst f3343
      refine rd_nil ?_
      obtain ⟨w3345, h3346, k3347⟩ := li f3343
      refine q_len (S3325.sub _ _ h3346) k3347 ?_
      cases h
      exact hT _ _ _ _ rfl S3325 sT3331 (.int _)
    rintro G3350 H3351 w3352 S3353 s3354 f3355 n3356 n3357
    have f3295 := f3295.same s3354
    have sE3315 := sE3315.trans s3354
    obtain ⟨G3358, S3359, s3360, f3361⟩ := S3353.fixF 0 rfl (by simp) f3355 n3357
    have f3295 := f3295.same s3360
    have sE3315 := sE3315.trans s3360
    refine rd_nameS (σ' := [some (.ref a3277), some (.ref a3294), some (.ref D3317), none]) rfl ?_
    refine hQ3314 _ _ _ _ S3359 sE3315 fun G3362 H3363 S3364 u3365 s3366 => ?_
    have f3295 := (f3295.un isDN u3365).h0 fun b => (e3306 b).symm
    have f3361 := (f3361.un isDN u3365).h0 fun b => (e3306 b).symm
    have S3364 : Sep [] H0 G3362 H3363 [] := S3364
    refine rd_mk ?_
    refine rd_ret ?_
    refine rd_tupZ ?_
    refine rd_cons ?_
    refine rd_cb ?_
    refine rd_cons ?_
    refine rd_var rfl ?_
    refine rd_nil ?_
    obtain ⟨y3367, h3368, h⟩ := bnd h
    obtain ⟨w3369, h3370, k3371⟩ := li f3361
    refine q_max1 (S3364.sub _ _ h3370) k3371 h3368 ?_
    refine rd_cons ?_
    refine rd_bm ?_
    refine rd_var rfl ?_
    obtain ⟨w3372, h3373, k3374⟩ := li f3361
    refine ⟨Or.inl ⟨rfl, _, SqL.of (S3364.sub _ _ h3373)⟩, ?_⟩
    refine rd_cons ?_
    refine rd_cb ?_
    refine rd_cons ?_
    refine rd_var rfl ?_
    refine rd_nil ?_
    obtain ⟨y3375, h3376, h⟩ := bnd h
    obtain ⟨w3377, h3378, k3379⟩ := li f3361
    refine q_max1 (S3364.sub _ _ h3378) k3379 h3376 ?_
    refine rd_nil ?_
    obtain ⟨w3380, h3381, k3382⟩ := li f3361
    refine q_countI (S3364.sub _ _ h3381) k3382 ?_
    refine rd_nil ?_
    refine q_tup (F0 := H0) (ds := [eI y3367, eI ((l3348.count y3375 : Nat) : Int)]) S3364 (by show 2 ≤ LIM; decide) (.cons (.int _) (.cons (.int _) .nil)) fun a3383 G3384 H3385 S3386 s3387 f3388 => ?_
    have f3361 := f3361.same s3387
    replace f3388 : Fr H0 G3384 (.ref a3383) ((eT2 eI eI) (y3367, ((l3348.count y3375 : Nat) : Int))) := f3388
    cases h
    exact kq a3383 _ _ S3386.toRet f3388
end
end K84

namespace K84
open PySem L2 LX LQ
section
variable {P : Program} {w : World} {K : PySem.W.Frag} {mg : Str → Option Value} {base : Heap} {a : Ad}
open LQF
def sp_law0 (K : PySem.W.Frag) : Sp := fun vs H Q _ => ∃ (a3389 : Addr) (x_script : (List Int)), vs = [.ref a3389] ∧ Scr K H a3389 x_script ∧ ∃ r, F_law x_script = some r ∧ ∀ (G H' : Hp), Ret [] H G H' → Q (.bl (r)) H'
theorem ok_law0 (T : Txt K mg a) : FnG P w K mg base 7 a.f_law a.d_law ["script"] (sp_law0 K) := by
  refine fnG T.F_law sc_law (fun vs H Q E h => ?_) (fun cdv A outer s H0 vs Q E hr quiet h => ?_)
  · obtain ⟨a3389, x_script, rfl, _⟩ := h
    rfl
  · obtain ⟨a3389, x_script, rfl, f3390, r, h, kq⟩ := h
    have nd := sc_law.nd
    have hu64 := hr.units
    have hu65 := units65 hr
    refine ⟨_, (pss_cons (ps_for PassesOwn.never rfl (pi_range1 rfl T.b_range (pa_cons (pe_callB (kmax2 rfl) (by rfl) T.b_max (by decide +kernel) (pa_cons pe_int (pa_cons (pe_callB (kmin2 rfl) (by rfl) T.b_min (by decide +kernel) (pa_cons pe_int (pa_cons (pe_callB (klen (K := K)) (by rfl) T.b_len (by decide +kernel) (pa_cons (pv 0) pa_nil)) pa_nil))) pa_nil))) pa_nil)) (pg_name (i := 1) nd rfl (Or.inl rfl)) (pss_cons (ps_set (i := 2) nd rfl (Or.inl rfl) (pe_call (ok__law_pool T) (hr.mono (by decide)) rfl T.g__law_pool T.k__law_pool T.n__law_pool .nil pass0 (pa_cons (pe_call (ok__law_cell_at T) (hr.mono (by decide)) rfl T.g__law_cell_at T.k__law_cell_at T.n__law_cell_at .nil pass0 (pa_cons (pv 0) (pa_cons (pv 1) pa_nil))) (pa_cons (pv 1) pa_nil))))
      (pss_cons (ps_set (i := 3) nd rfl (Or.inl rfl) (pe_call (ok__law_lineup T) (hr.mono (by decide)) rfl T.g__law_lineup T.k__law_lineup T.n__law_lineup .nil pass0 (pa_cons (pv 2) (pa_cons (pe_call (ok__law_many T) (hr.mono (by decide)) rfl T.g__law_many T.k__law_many T.n__law_many .nil pass0 (pa_cons (pv 2) (pa_cons (pv 0) pa_nil))) pa_nil))))
      (pss_cons (ps_set (i := 4) nd rfl (Or.inr rfl) (pe_callG (ok__law_reachable T) (hr.mono (by decide)) quiet rfl T.g__law_reachable T.k__law_reachable T.n__law_reachable (pa_cons (pv 3) pa_nil)))
      (pss_cons (ps_lockM (ps_setLc (i := 5) (own := [("mark", 8)]) (g := gName 8) (tt := tYes) rfl nd rfl rfl (sw_true rfl rfl rfl (by decide +kernel)) (pi_keys (pv 4)) (blkOk_by (own := [("mark", 8)]) (N := ["script", "k", "pool", "start", "known", "lengths", "due", "kept", "mark"]) (sc := defScope s_law) (by decide +kernel)) (fun _ _ _ _ _ => (pg_name (i := 8) nd rfl (Or.inl rfl))) (fun _ _ _ _ _ => pts_nil) (fun _ _ _ _ _ => (pe_callB (klen (K := K)) (by rfl) T.b_len (by decide +kernel) (pa_cons (pe_ix (kix_tup (K := K)) (pe_dget (u1_of hu64) (pv 4) (pv 8) (fun _ _ => rfl)) pe_int (fun _ _ => rfl)) pa_nil)))))
      (pss_cons (ps_set (i := 6) nd rfl (Or.inl rfl) (pe_tup (pa_cons (pe_callB (kmax1 (K := K) rfl) (by rfl) T.b_max (by decide +kernel) (pa_cons (pv 5) pa_nil)) (pa_cons (kbm (K := K) PySem.F.plainAttrs_list PySem.F.slot_list_count PySem.F.type_list_count (klcount (K := K)) (pv 5) (pa_cons (pe_callB (kmax1 (K := K) rfl) (by rfl) T.b_max (by decide +kernel) (pa_cons (pv 5) pa_nil)) pa_nil)) pa_nil))))
      (pss_cons (ps_set (i := 7) nd rfl (Or.inl rfl) (pe_callB (krepr (K := K) quiet hu64) (by rfl) T.b_repr (by decide +kernel) (pa_cons (pv 3) pa_nil)))
      (pss_one (ps_if (PW.pt (pw_or (pt_cmpR op_ne (pe_callB (krepr (K := K) quiet hu64) (by rfl) T.b_repr (by decide +kernel) (pa_cons (pe_call (ok_farthest_reachable T) (hr.mono (by decide)) rfl T.g_farthest_reachable T.k_farthest_reachable T.n_farthest_reachable .nil pass0 (pa_cons (pv 3) pa_nil)) pa_nil)) (pe_callB (krepr (K := K) quiet hu64) (by rfl) T.b_repr (by decide +kernel) (pa_cons (pv 6) pa_nil)) (nomark _)) (pw_or1 (pt_cmpR op_ne (pe_callB (krepr (K := K) quiet hu64) (by rfl) T.b_repr (by decide +kernel) (pa_cons (pv 3) pa_nil)) (pv 7) (nomark _))))) (pss_one (ps_ret pe_bl)) pss_nil)))))))))
      (pss_one (ps_ret pe_bl))), ?_⟩
    unfold F_law at h
    have S0 := Sep.start H0
    refine rd_seq ?_
    refine rd_for ?_
    refine rd_iR1 ?_
    refine rd_cons ?_
    refine rd_cb ?_
    refine rd_cons ?_
    refine rd_c ?_
    refine rd_cons ?_
    refine rd_cb ?_
    refine rd_cons ?_
    refine rd_c ?_
    refine rd_cons ?_
    refine rd_cb ?_
    refine rd_cons ?_
    refine rd_var rfl ?_
    refine rd_nil ?_
    refine q_lenScr S0 f3390 ?_
    refine rd_nil ?_
    refine q_min2 ?_
    refine rd_nil ?_
    refine q_max2 ?_
    refine rd_nil ?_
    obtain ⟨l3391, h3392, h⟩ := bnd h
    refine q_rng1 h3392 ?_
    obtain ⟨r3416_, h3417, ho3415⟩ := bnd h
    refine q_forC h3417 (w_rng1 h3392) (fun s3394 σ' H' => ∃ (x3406 : Option V) (x3407 : Option V) (x3408 : Option V) (x3409 : Option V) (x3410 : Option V) (x3411 : Option V) (x3412 : Option V) (G3402 : Hp), σ' = [some (.ref a3389), x3406, x3407, x3408, x3409, x3410, x3411, x3412, none] ∧ Sep [] H0 G3402 H' [] ∧ Same H0 G3402) ?_ ?_ ?_ ?_
    · exact ⟨_, _, _, _, _, _, _, H0, rfl, S0, Same.refl _⟩
    · rintro s3394 _ H3403 ⟨x3406, x3407, x3408, x3409, x3410, x3411, x3412, G3402, rfl, S3404, sE3405⟩
      exact trivial
    · rintro i3395 a3393 s3394 c3401 x3397 _ H3403 H3398 h3399 h ⟨x3406, x3407, x3408, x3409, x3410, x3411, x3412, G3402, rfl, S3404, sE3405⟩ h3400 hq3413 kb3414
      have f3390 := f3390.same sE3405
      obtain ⟨rfl, e3418⟩ := h3400
      cases e3418 _ h3399
      refine rd_nameS (σ' := [some (.ref a3389), some (.int a3393), x3407, x3408, x3409, x3410, x3411, x3412, none]) rfl ?_
      refine rd_seq ?_
      refine rd_asg ?_
      refine rd_call ?_
      refine rd_cons ?_
      refine rd_call ?_
      refine rd_cons ?_
      refine rd_var rfl ?_
      refine rd_cons ?_
      refine rd_var rfl ?_
      refine rd_nil ?_
      obtain ⟨y3419, h3420, h⟩ := bnd h
      refine ⟨a3389, x_script, a3393, rfl, (f3390.same S3404.sub), y3419, h3420, fun G3421 H3422 R3423 => ?_⟩
      obtain ⟨G3424, S3425, s3426, t3427, l3428⟩ := S3404.ret0 R3423
      have f3390 := f3390.same s3426
      have sE3405 := sE3405.trans s3426
      refine rd_cons ?_
      refine rd_var rfl ?_
      refine rd_nil ?_
      obtain ⟨y3429, h3430, h⟩ := bnd h
      refine ⟨y3419, a3393, rfl, y3429, h3430, fun a3434 G3431 H3432 R3433 f3435 => ?_⟩
      obtain ⟨G3436, w3441, S3437, s3438, n3442, f3443⟩ := S3425.ret0O R3433 f3435
      have f3390 := f3390.same s3438
      have sE3405 := sE3405.trans s3438
      refine rd_nameS (σ' := [some (.ref a3389), some (.int a3393), some (.ref a3434), x3408, x3409, x3410, x3411, x3412, none]) rfl ?_
      refine rd_mk ?_
      refine rd_seq ?_
      refine rd_asg ?_
      refine rd_call ?_
      refine rd_cons ?_
      refine rd_var rfl ?_
      refine rd_cons ?_
      refine rd_call ?_
      refine rd_cons ?_
      refine rd_var rfl ?_
      refine rd_cons ?_
      refine rd_var rfl ?_
      refine rd_nil ?_
      obtain ⟨y3444, h3445, h⟩ := bnd h
      refine ⟨a3434, w3441, y3429, a3389, x_script, rfl, (S3437.get 0 rfl), (f3443.rp.same (S3437.hid1 0 rfl)), (f3390.same (S3437.hid1 0 rfl)), y3444, h3445, fun w3449 G3446 H3447 R3448 h3450 k3451 => ?_⟩
      obtain ⟨G3452, S3453, s3454, t3455, l3456⟩ := S3437.ret1 0 rfl R3448 h3450 lst_tup
      have k3451 := l3456 _ _ (k3451.imm (flat_map flI _))
      have f3390 := f3390.same s3454
      have f3443 := f3443.same s3454
      have sE3405 := sE3405.trans s3454
      have S3453 : Sep [] H0 G3452 H3447 [(a3434, .lst w3449)] := S3453
      refine rd_nil ?_
      obtain ⟨y3457, h3458, h⟩ := bnd h
      refine ⟨a3434, w3449, y3444.2, y3444.1, rfl, (S3453.get 0 rfl), (k3451.rp.same (S3453.hid1 0 rfl)), y3457, h3458, fun a3462 w3463 G3459 H3460 R3461 h3464 k3465 f3466 => ?_⟩
      obtain ⟨G3467, S3468, s3469, t3470, l3471⟩ := S3453.ret1 0 rfl R3461 h3464 lst_tup
      have k3465 := l3471 _ _ (k3465.imm (flat_map flI _))
      have f3390 := f3390.same s3469
      have k3451 := k3451.same s3469
      have sE3405 := sE3405.trans s3469
      have S3468 : Sep [] H0 G3467 H3460 [(a3434, .lst w3463)] := S3468
      have f3466 := t3470 _ _ f3466
      refine rd_nameS (σ' := [some (.ref a3389), some (.int a3393), some (.ref a3434), some (.ref a3462), x3409, x3410, x3411, x3412, none]) rfl ?_
      refine rd_mk ?_
      refine rd_seq ?_
      refine rd_asg ?_
      refine rd_call ?_
      refine rd_cons ?_
      refine rd_var rfl ?_
      refine rd_nil ?_
      obtain ⟨y3472, h3473, h⟩ := bnd h
      refine ⟨ownF H3460 [(a3434, .lst w3463)], a3462, y3457.1, rfl, (fun _ n => ownF_non n), (f3466.own S3468), y3472, h3473, fun a3477 G3474 H3475 R3476 f3478 => ?_⟩
      obtain ⟨G3479, S3480, s3481, t3482, l3483, b3484⟩ := S3468.ret0A R3476
      have f3390 := f3390.same s3481
      have f3466 := f3466.same s3481
      have k3465 := k3465.same s3481
      have sE3405 := sE3405.trans s3481
      have f3478 := b3484 _ _ f3478
      refine rd_nameS (σ' := [some (.ref a3389), some (.int a3393), some (.ref a3434), some (.ref a3462), some (.ref a3477), x3410, x3411, x3412, none]) rfl ?_
      refine rd_mk ?_
      refine rd_seq ?_
      obtain ⟨w3485, h3486, k3487⟩ := di f3478
      refine q_lockMS S3480 h3486 isDK fun Hr3498 od3489 G3490 H3491 Q3492 e3488 d3493 S3494 g3495 hQ3496 => ?_
      have f3390 := f3390.lk isDK d3493
      have f3466 := (f3466.lk isDK d3493).h0 e3488
      have f3478 := f3478.lk isDK d3493
      have k3465 := (k3465.lk isDK d3493).h0 e3488
      have n3442 := (e3488 _).mpr n3442
      have k3487 := k3487.lk isDK d3493
      have sE3497 := Same.refl G3490
      refine rd_asg ?_
      refine rd_lc ?_
      refine rd_iKeys ?_
      refine rd_var rfl ?_
      refine q_keys (S3494.sub _ _ g3495) ?_
      intro D3499 h3500
      obtain ⟨l3534, h3535, h⟩ := bnd h
      refine q_lcL (enc := eI) (F0 := Hr3498) h3535 (w_keys k3487) S3494 h3500 S3494.old ?_ ?_ ?_
      · rintro GD3499 HD3499 accD3499 SD3499 sD3499
        exact (SD3499.sub _ _ (sD3499 _ _ g3495))
      · rintro i3502 x3503 a3501 o3512 G3506 H3504 H3505 acc3511 h3509 h S3507 s3508 h3510 T F hT hF
        have f3390 := f3390.same s3508
        have f3466 := f3466.same s3508
        have f3478 := f3478.same s3508
        have k3465 := k3465.same s3508
        have sT3513 := Same.refl G3506
        obtain ⟨rfl, e3515⟩ := h3510
        cases e3515 _ h3509
        refine rd_nameS (σ' := [some (.ref a3389), some (.int a3393), some (.ref a3434), some (.ref a3462), some (.ref a3477), x3410, x3411, x3412, some (.str a3501)]) rfl ?_
        refine ⟨rfl, ?_⟩
        refine rd_tyes ?_
        refine iteY rfl ?_
        refine rd_cb ?_
        refine rd_cons ?_
        refine rd_op ?_
        refine rd_dget ?_
        refine rd_var rfl ?_
        refine rd_var rfl ?_
        obtain ⟨y3516, h3517, h⟩ := bnd h
        obtain ⟨w3518, h3519, k3520⟩ := di f3478
        refine q_dget (kk := kS) kS_inj (rd_same h3519 S3507.sub) k3520 (kV_S _).symm h3517 fun v3521 f3522 => ?_
        obtain ⟨a3523, rfl⟩ := fr_tup f3522
        refine rd_c ?_
        obtain ⟨v3524, v3525, h3528, f3526, f3527⟩ := tu2 f3522
        obtain ⟨a3529, rfl⟩ := fr_lst f3526
        obtain ⟨a3530, rfl⟩ := fr_lst f3527
        refine rd_ixT (S3507.sub _ _ h3528) rfl ?_
        refine rd_nil ?_
        obtain ⟨w3531, h3532, k3533⟩ := li f3527
        refine q_len (S3507.sub _ _ h3532) k3533 ?_
        cases h
        exact hT _ _ _ _ rfl S3507 sT3513 (.int _)
      rintro G3536 H3537 w3538 S3539 s3540 f3541 n3542 n3543
      have f3390 := f3390.same s3540
      have f3466 := f3466.same s3540
      have f3478 := f3478.same s3540
      have k3465 := k3465.same s3540
      have sE3497 := sE3497.trans s3540
      obtain ⟨G3544, S3545, s3546, f3547⟩ := S3539.fixF 0 rfl (by simp) f3541 n3543
      have f3390 := f3390.same s3546
      have f3466 := f3466.same s3546
      have f3478 := f3478.same s3546
      have k3465 := k3465.same s3546
      have sE3497 := sE3497.trans s3546
      refine rd_nameS (σ' := [some (.ref a3389), some (.int a3393), some (.ref a3434), some (.ref a3462), some (.ref a3477), some (.ref D3499), x3411, x3412, none]) rfl ?_
      refine hQ3496 _ _ _ _ S3545 sE3497 fun G3548 H3549 S3550 u3551 s3552 => ?_
      have f3390 := f3390.un isDK u3551
      have f3466 := (f3466.un isDK u3551).h0 fun b => (e3488 b).symm
      have f3478 := f3478.un isDK u3551
      have f3547 := (f3547.un isDK u3551).h0 fun b => (e3488 b).symm
      have k3465 := (k3465.un isDK u3551).h0 fun b => (e3488 b).symm
      have n3442 := (e3488 _).mp n3442
      have sE3405 := sE3405.trans s3552
      have S3550 : Sep [] H0 G3548 H3549 [(a3434, .lst w3463)] := S3550
      refine rd_mk ?_
      refine rd_seq ?_
      refine rd_asg ?_
      refine rd_tupZ ?_
      refine rd_cons ?_
      refine rd_cb ?_
      refine rd_cons ?_
      refine rd_var rfl ?_
      refine rd_nil ?_
      obtain ⟨y3553, h3554, h⟩ := bnd h
      obtain ⟨w3555, h3556, k3557⟩ := li f3547
      refine q_max1 (S3550.sub _ _ h3556) k3557 h3554 ?_
      refine rd_cons ?_
      refine rd_bm ?_
      refine rd_var rfl ?_
      obtain ⟨w3558, h3559, k3560⟩ := li f3547
      refine ⟨Or.inl ⟨rfl, _, SqL.of (S3550.sub _ _ h3559)⟩, ?_⟩
      refine rd_cons ?_
      refine rd_cb ?_
      refine rd_cons ?_
      refine rd_var rfl ?_
      refine rd_nil ?_
      obtain ⟨y3561, h3562, h⟩ := bnd h
      obtain ⟨w3563, h3564, k3565⟩ := li f3547
      refine q_max1 (S3550.sub _ _ h3564) k3565 h3562 ?_
      refine rd_nil ?_
      obtain ⟨w3566, h3567, k3568⟩ := li f3547
      refine q_countI (S3550.sub _ _ h3567) k3568 ?_
      refine rd_nil ?_
      refine q_tup (F0 := H0) (ds := [eI y3553, eI ((l3534.count y3561 : Nat) : Int)]) S3550 (by show 2 ≤ LIM; decide) (.cons (.int _) (.cons (.int _) .nil)) fun a3569 G3570 H3571 S3572 s3573 f3574 => ?_
      have f3390 := f3390.same s3573
      have f3466 := f3466.same s3573
      have f3547 := f3547.same s3573
      have k3465 := k3465.same s3573
      have sE3405 := sE3405.trans s3573
      replace f3574 : Fr H0 G3570 (.ref a3569) ((eT2 eI eI) (y3553, ((l3534.count y3561 : Nat) : Int))) := f3574
      refine rd_nameS (σ' := [some (.ref a3389), some (.int a3393), some (.ref a3434), some (.ref a3462), some (.ref a3477), some (.ref D3499), some (.ref a3569), x3412, none]) rfl ?_
      refine rd_mk ?_
      refine rd_seq ?_
      refine rd_asg ?_
      refine rd_cb ?_
      refine rd_cons ?_
      refine rd_var rfl ?_
      refine rd_nil ?_
      obtain ⟨y3575, h3576, h⟩ := bnd h
      refine q_repr (f3466.rp.same S3572.sub) h3576 ?_
      refine rd_nameS (σ' := [some (.ref a3389), some (.int a3393), some (.ref a3434), some (.ref a3462), some (.ref a3477), some (.ref D3499), some (.ref a3569), some (.str y3575), none]) rfl ?_
      refine rd_mk ?_
      refine rd_ifS ?_
      obtain ⟨b3597, h3598, h⟩ := bnd h
      refine rd_ttM (fun k H' => ∃  (G3599 : Hp), k = b3597 ∧ Sep [] H0 G3599 H' [(a3434, .lst w3463)] ∧ Same G3570 G3599) (fun R q => ?_) ?_
      ·
        have sE3577 := Same.refl G3570
        have h := h3598
        refine rd_or ?_
        refine rd_test ?_
        refine rd_op ?_
        refine rd_cb ?_
        refine rd_cons ?_
        refine rd_call ?_
        refine rd_cons ?_
        refine rd_var rfl ?_
        refine rd_nil ?_
        obtain ⟨y3578, h3579, h⟩ := bnd h
        refine ⟨a3462, y3457.1, rfl, (f3466.rp.same S3572.sub), y3578, h3579, fun a3583 G3580 H3581 R3582 f3584 => ?_⟩
        obtain ⟨G3585, S3586, s3587, t3588, l3589⟩ := S3572.ret0 R3582
        have f3390 := f3390.same s3587
        have f3466 := f3466.same s3587
        have f3574 := f3574.same s3587
        have k3465 := k3465.same s3587
        have sE3577 := sE3577.trans s3587
        have f3584 := t3588 _ _ f3584
        refine rd_nil ?_
        obtain ⟨y3590, h3591, h⟩ := bnd h
        refine q_repr (f3584.rp.same S3586.sub) h3591 ?_
        refine rd_cb ?_
        refine rd_cons ?_
        refine rd_var rfl ?_
        refine rd_nil ?_
        obtain ⟨y3592, h3593, h⟩ := bnd h
        refine q_repr (f3574.rp.same S3586.sub) h3593 ?_
        refine q_neS ?_
        refine rd_bl ?_
        rcases cnd h with ⟨c3603, h⟩ | ⟨c3603, h⟩
        ·
          refine iteY c3603 ?_
          cases h
          exact q _ _ ⟨G3585, rfl, S3586, sE3577⟩
        ·
          refine iteN c3603 ?_
          refine rd_test ?_
          refine rd_op ?_
          refine rd_cb ?_
          refine rd_cons ?_
          refine rd_var rfl ?_
          refine rd_nil ?_
          obtain ⟨y3594, h3595, h⟩ := bnd h
          refine q_repr (f3466.rp.same S3586.sub) h3595 ?_
          refine rd_var rfl ?_
          refine q_neS ?_
          refine rd_bl ?_
          cases h
          exact q _ _ ⟨G3585, rfl, S3586, sE3577⟩
      rintro _ H3600 ⟨G3599, rfl, S3601, s3602⟩
      have f3390 := f3390.same s3602
      have f3466 := f3466.same s3602
      have f3574 := f3574.same s3602
      have k3465 := k3465.same s3602
      have sE3405 := sE3405.trans s3602
      rcases cnd h with ⟨c3606, h⟩ | ⟨c3606, h⟩
      ·
        refine iteY c3606 ?_
        refine rd_ret ?_
        refine rd_c ?_
        cases h
        have e3604 := hq3413 _ rfl
        subst e3604
        cases (show some (false) = some _ from ho3415)
        exact kq _ _ S3601.toRet
      ·
        refine iteN c3606 ?_
        refine rd_next ?_
        have S3605 := S3601.drop 0 rfl n3442
        have S3605 : Sep [] H0 G3599 H3600 [] := S3605
        cases h
        exact ⟨_, rfl, _, _, _, _, _, _, _, G3599, rfl, S3605, sE3405⟩
    rintro r3416 _ H3608 rfl ⟨x3611, x3612, x3613, x3614, x3615, x3616, x3617, G3607, rfl, S3609, sE3610⟩
    have h := ho3415
    have f3390 := f3390.same sE3610
    refine rd_mk ?_
    refine rd_ret ?_
    refine rd_c ?_
    cases h
    exact kq _ _ S3609.toRet
end
end K84

namespace LQF
open PySem L2 LX LQ
theorem m_is_integer (v : Int) : F_is_integer v = some true := rfl
theorem m_is_color {c : Nat} (h : 97 ≤ c ∧ c ≤ 122) : F_is_color (lt c) = some true := by
  have e := lt_col h
  unfold F_is_color
  show Option.bind (cond (decide ((1 : Int) = 1)) (some ((!ltS (lt c) (Str.ofString "a")) && (!ltS (Str.ofString "z") (lt c)))) (some false)) _ = _
  rw [e]
  rfl
theorem m_is_colored_integer {e : Nat × Nat} (h : 97 ≤ e.2 ∧ e.2 ≤ 122) : F_is_colored_integer (eRow e) = some true := by
  unfold F_is_colored_integer
  rw [m_is_integer, show F_is_color (eRow e).2 = some true from m_is_color h]
  rfl
theorem lenI_enc (r : Row) : lenI (enc r) = (r.length : Int) := by unfold lenI; rw [enc_len]
theorem loopC_nx {α R S : Type} {f : α → S → Option (Ctl R S)} {s : S} : ∀ {l : List α}, (∀ x ∈ l, f x s = some (.nx s)) → loopC f l s = some (.nx s)
  | [], _ => rfl
  | x :: l, h => by
    show (f x s).bind _ = _
    rw [h x List.mem_cons_self]
    exact loopC_nx fun y hy => h y (List.mem_cons_of_mem _ hy)
theorem loopF_nx {α S : Type} {f : α → S → Option S} {s : S} : ∀ {l : List α}, (∀ x ∈ l, f x s = some s) → loopF f l s = some s
  | [], _ => rfl
  | x :: l, h => by
    show (f x s).bind _ = _
    rw [h x List.mem_cons_self]
    exact loopF_nx fun y hy => h y (List.mem_cons_of_mem _ hy)
theorem sort_nI {ns : List Int} {n : Nat} (p : ns.Perm (nI (List.range n))) : sortI ns = nI (List.range n) := by
  unfold sortI
  refine List.Perm.eq_of_pairwise (le := fun a b : Int => decide (a ≤ b) = true) (fun a b _ _ x y => by rw [decide_eq_true_iff] at *; omega) ?_ ?_ ((List.mergeSort_perm _ _).trans p)
  · exact List.pairwise_mergeSort (fun a b c x y => by rw [decide_eq_true_iff] at *; omega) (fun a b => by simp; omega) ns
  · rw [nI, List.pairwise_map]
    exact List.pairwise_lt_range.imp fun h => by rw [decide_eq_true_iff]; omega
theorem ev_eq {o : Option Bool} (h : o = some true) : (o.bind fun b => some b) = some true := by rw [h]; rfl
theorem m_is_lineup {r : Row} (V : Vr r) : F_is_lineup (enc r) = some true := by
  have n1 := V.n1
  have n2 := V.n2
  unfold F_is_lineup
  rw [lenI_enc, decide_eq_true (show (1 : Int) ≤ r.length by omega), decide_eq_true (show (r.length : Int) ≤ 60 by omega)]
  show Option.bind (loopC _ (enc r) ()) _ = _
  rw [loopC_nx (fun x hx => by
    obtain ⟨e, he, rfl⟩ := List.mem_map.mp hx
    rw [m_is_colored_integer (V.col e he)]
    rfl)]
  show Option.bind (compL _ _) _ = _
  refine be (compL_map (g := fun a : Int × Str => a.1) (by rw [enc_len]; unfold LIM; omega) (fun _ _ => rfl)) ?_
  refine be (lrgF_ok (by decide) (by decide) (by omega) (by omega) (by unfold LIM; omega)) ?_
  rw [rgI_nat]
  have e : (enc r).map (fun a : Int × Str => a.1) = nI (r.map (·.1)) := by
    show List.map _ (List.map _ r) = List.map _ (List.map _ r)
    rw [List.map_map, List.map_map]
    rfl
  rw [e, sort_nI (V.perm.map _)]
  have q := (EqE.list EqE.int).run (by decide) (x := nI (List.range r.length)) (y := nI (List.range r.length)) (fun _ _ => trivial) (fun _ _ => trivial)
  rw [decide_eq_true rfl] at q
  exact ev_eq q
theorem m_check_lineup {r : Row} (V : Vr r) : F_check_lineup (enc r) = some () := by
  unfold F_check_lineup
  rw [m_is_lineup V]
  rfl
end LQF

namespace LQF
open PySem L2 LX LQ
theorem m_fo {r : Row} (c : Nat) : F_first_other_color (enc r) (lt c) = some ((fo r c).map lt) := by
  unfold F_first_other_color
  have e : ∀ r : Row, loopC (R := Option Str) (fun (a : (Int × Str)) (s : Unit) => cond (!(decide (a.2 = lt c))) (some (.ret (some a.2))) (some (.nx ()))) (enc r) () = some (match fo r c with | none => .nx () | some d => .ret (some (lt d))) := by
    intro r
    induction r with
    | nil => rfl
    | cons e r ih =>
      show Option.bind (cond (!(decide (lt e.2 = lt c))) _ _) _ = _
      rw [lt_dec]
      by_cases h : e.2 = c
      · rw [decide_eq_true h, fo_no h]
        exact ih
      · rw [decide_eq_false h, fo_yes h]
        rfl
  rw [e]
  cases fo r c <;> rfl
theorem m_byPerson {r : Row} (V : Vr r) : F_colors_by_person (enc r) = some ((List.range r.length).map fun q => lt (colOf r q)) := by
  have n2 := V.n2
  unfold F_colors_by_person
  rw [lenI_enc, repF_ok (by omega) (by omega) (by unfold LIM; simp; omega), LX.flat_rep, Int.toNat_natCast]
  show Option.bind (loopF _ _ _) _ = _
  have key : ∀ (s : Row) (l : List Str), (∀ e ∈ s, e.1 < l.length) → loopF (fun (a2055 : (Int × Str)) (s2056 : (List Str)) => (setF s2056 a2055.1 a2055.2).bind fun l2085 => some l2085) (enc s) l = some (s.foldl (fun l e => l.set e.1 (lt e.2)) l) := by
    intro s
    induction s with
    | nil => intro l _; rfl
    | cons e s ih =>
      intro l h
      show Option.bind (Option.bind (setF l (e.1 : Int) (lt e.2)) _) _ = _
      rw [setF_nat (h e List.mem_cons_self)]
      exact ih _ fun x hx => by rw [List.length_set]; exact h x (List.mem_cons_of_mem _ hx)
  rw [key r _ fun e he => by rw [List.length_replicate]; exact V.lt he]
  show some _ = some _
  congr 1
  have fl : ∀ (s : Row) (l : List Str), (s.foldl (fun l e => l.set e.1 (lt e.2)) l).length = l.length := by
    intro s
    induction s with
    | nil => intro l; rfl
    | cons e s ih => intro l; rw [List.foldl_cons, ih, List.length_set]
  have fno : ∀ (q : Nat) (s : Row) (l : List Str), (∀ e ∈ s, e.1 ≠ q) → (s.foldl (fun l e => l.set e.1 (lt e.2)) l)[q]? = l[q]? := by
    intro q s
    induction s with
    | nil => intro l _; rfl
    | cons e s ih =>
      intro l h
      rw [List.foldl_cons, ih _ fun x hx => h x (List.mem_cons_of_mem _ hx), List.getElem?_set_ne (h e List.mem_cons_self)]
  have fat : ∀ (q : Nat) (s : Row) (l : List Str), (s.map (·.1)).Nodup → q < l.length → (∃ e ∈ s, e.1 = q) → (s.foldl (fun l e => l.set e.1 (lt e.2)) l)[q]? = some (lt (colOf s q)) := by
    intro q s
    induction s with
    | nil => intro l _ _ ⟨e, he, _⟩; cases he
    | cons e s ih =>
      intro l nd hl h
      have nd' := List.nodup_cons.mp (show (e.1 :: s.map (·.1)).Nodup from nd)
      rw [List.foldl_cons]
      by_cases c : e.1 = q
      · rw [fno q s _ fun x hx z => nd'.1 (by rw [c, ← z]; exact List.mem_map_of_mem (f := (·.1)) hx), c, List.getElem?_set_self hl]
        unfold colOf
        rw [List.find?_cons_of_pos (by simpa using c)]
        rfl
      · rw [ih _ nd'.2 (by rw [List.length_set]; exact hl) ?_]
        · unfold colOf
          rw [List.find?_cons_of_neg (by simpa using c)]
        · obtain ⟨x, hx, hq⟩ := h
          rcases List.mem_cons.mp hx with z | z
          · exact absurd (z ▸ hq) c
          · exact ⟨x, z, hq⟩
  apply List.ext_getElem?
  intro q
  rw [List.getElem?_map]
  by_cases c : q < r.length
  · rw [fat q r _ V.nodup (by rw [List.length_replicate]; exact c) (V.has c), List.getElem?_range c]
    rfl
  · rw [List.getElem?_eq_none (by rw [fl, List.length_replicate]; omega), List.getElem?_eq_none (by rw [List.length_range]; omega)]
    rfl
theorem ix_colors {r : Row} {p : Nat} (h : p < r.length) : ix ((List.range r.length).map fun q => lt (colOf r q)) (p : Int) = some (lt (colOf r p)) :=
  ix_nat (by rw [List.getElem?_map, List.getElem?_range h]; rfl)
theorem m_apply {r : Row} (V : Vr r) {p : Nat} (h : p < r.length) : F_apply_call (enc r) (p : Int) = some (enc (app r p), (fo r (colOf r p)).map lt) := by
  have n2 := V.n2
  unfold F_apply_call
  rw [m_byPerson V]
  show Option.bind (ix _ _) _ = _
  rw [ix_colors h]
  show Option.bind (F_first_other_color _ _) _ = _
  rw [m_fo]
  show Option.bind (compL _ _) _ = _
  refine be (compL_filt (q := fun a : Int × Str => !decide (a.1 = (p : Int))) (g := fun a => a) (by rw [enc_len]; unfold LIM; omega) (fun x _ => by cases c : decide (x.1 = (p : Int)) <;> simp)) ?_
  rw [List.map_id']
  have ef : (enc r).filter (fun a : Int × Str => !decide (a.1 = (p : Int))) = enc (r.filter fun e => e.1 != p) := by
    show (List.map _ r).filter _ = List.map _ (r.filter _)
    rw [List.filter_map]
    congr 1
    apply List.filter_congr
    intro e _
    show (!decide ((e.1 : Int) = (p : Int))) = (e.1 != p)
    have : decide ((e.1 : Int) = (p : Int)) = (e.1 == p) := Bool.eq_iff_iff.mpr ⟨fun h => by simp at h ⊢; omega, fun h => by simp at h ⊢; omega⟩
    rw [this]
    rfl
  rw [ef]
  show Option.bind (cond (Option.isNone _) _ _) _ = _
  have key : (cond ((fo r (colOf r p)).map lt).isNone (some (lt (colOf r p))) (((fo r (colOf r p)).map lt).bind fun o => some o)) = some (lt ((fo r (colOf r p)).getD (colOf r p))) := by
    cases fo r (colOf r p) <;> rfl
  rw [key]
  show Option.bind (catF _ _) _ = _
  rw [catF_ok (by
    have : (r.filter fun e => e.1 != p).length ≤ r.length := List.length_filter_le _ _
    rw [enc_len]
    show 1 + _ ≤ LIM
    unfold LIM
    omega)]
  rfl
end LQF

namespace LQF
open PySem L2 LX LQ
theorem sh_enc {r : Row} (V : Vr r) : Sh 13 2 (60 * 83) (eRows (enc r)) := by
  have e : eRows (enc r) = dR r := by
    show PyData.list _ = PyData.list _
    rw [List.map_map]
    rfl
  rw [e]
  exact sh_row V
theorem sh_txt {cs : List Nat} (h : ∀ c ∈ cs, c ≤ 122) : Sh 13 0 cs.length (.str (txt cs)) := ⟨by simp only [PyData.showable], by simp only [PyData.hasDict], by simp only [PyData.depth]; omega, by
  simp only [PyData.leavesShort]
  show cs.toArray.toList.all (fun c => decide (c < 16 ^ 8)) = true
  rw [List.toList_toArray, List.all_eq_true]
  intro c hc
  have := h c hc
  exact decide_eq_true (Nat.lt_of_le_of_lt this (by decide)), by simp only [PyData.weight]; show cs.toArray.size ≤ _; rw [List.size_toArray]; exact Nat.le_refl _⟩
theorem sh_nI {cs : List Nat} (h : ∀ c ∈ cs, c < 10 ^ 12) {n : Nat} (z : cs.length ≤ n) : Sh 13 1 (n * 41) (eL eI (nI cs)) := by
  have := Sh.list (B := 13) (n := 0) (m := 40) (xs := (nI cs).map eI) fun x hx => by
    obtain ⟨s, hs, rfl⟩ := List.mem_map.mp hx
    obtain ⟨c, hc, rfl⟩ := List.mem_map.mp hs
    exact Sh.int (by show Int.natAbs (c : Int) < _; rw [Int.natAbs_natCast]; exact h c hc)
  rw [List.length_map, List.length_map] at this
  exact this.mono (Nat.le_refl _) (Nat.mul_le_mul_right _ z)
theorem m_repr {d : PyData} {n m : Nat} (h : Sh 13 n m d) (hn : n ≤ 20) (hm : m ≤ 2 ^ 20) : reprF d = some d.shown := by
  unfold reprF
  rw [h.sh, h.nd, decide_eq_true (Nat.le_trans h.dp hn), decide_eq_true (h.fits hm)]
  rfl
/-- a row and numbers are shown -/
theorem m_kept {r : Row} {cs : List Nat} (V : Vr r) (h : ∀ c ∈ cs, c < 10 ^ 12) (z : cs.length ≤ 1000) : ∃ s, reprF (.list [eRows (enc r), eL eI (nI cs)]) = some s := by
  refine ⟨_, m_repr (n := 3) (m := 2 * (41000 + 1)) ?_ (by decide) (by decide)⟩
  have := Sh.list (B := 13) (n := 2) (m := 41000) (xs := [eRows (enc r), eL eI (nI cs)]) fun x hx => by
    rcases List.mem_cons.mp hx with e | hx
    · rw [e]; exact (sh_enc V).mono (by decide) (by decide)
    · rw [List.mem_singleton.mp hx]; exact (sh_nI h z).mono (by decide) (by decide)
  exact this
end LQF

namespace LQF
open PySem L2 LX LQ
def cl (s : Str) : List Nat := s.cps.toList
theorem cl_app (a b : Str) : cl (a ++ b) = cl a ++ cl b := by
  show (a.cps ++ b.cps).toList = _
  rw [Array.toList_append]
  rfl
theorem cl_inj {a b : Str} (h : cl a = cl b) : a = b := str_ext h
def wordE (e : Nat × Nat) : List Nat := [40, 48 + e.1, 44, 32, 39, e.2, 39, 41]
theorem shown_e : ∀ p < 10, ∀ c < 123, 97 ≤ c → cl (PyData.shown (eT2 eI eS (eRow (p, c)))) = wordE (p, c) := by decide +kernel
theorem cl_textFrom : ∀ (ts : List Str) (k : Nat) (acc : Str), cl (textFrom k acc ts) = cl acc ++ (ts.zipIdx k).flatMap fun x => (if x.2 > 0 then [44, 32] else []) ++ cl x.1
  | [], k, acc => by
    show cl acc = _
    simp
  | t :: ts, k, acc => by
    show cl (textFrom (k + 1) (acc ++ _ ++ t) ts) = _
    rw [cl_textFrom ts (k + 1), cl_app, cl_app, List.zipIdx_cons, List.flatMap_cons]
    have e : cl (Str.ofString (if k > 0 then ", " else "")) = if k > 0 then [44, 32] else [] := by
      by_cases h : k > 0
      · rw [if_pos h, if_pos h]; decide +kernel
      · rw [if_neg h, if_neg h]; decide +kernel
    rw [e]
    simp only [List.append_assoc]
theorem shownAll_map : ∀ xs : List PyData, PyData.shownAll xs = xs.map PyData.shown
  | [] => by simp only [PyData.shownAll, List.map_nil]
  | x :: xs => by simp only [PyData.shownAll, List.map_cons, shownAll_map xs]
def wordsE (k : Nat) (r : Row) : List Nat := (r.zipIdx k).flatMap fun x => (if x.2 > 0 then [44, 32] else []) ++ wordE x.1
theorem shown_row {r : Row} (h : ∀ e ∈ r, e.1 < 10 ∧ 97 ≤ e.2 ∧ e.2 ≤ 122) : cl (PyData.shown (eL (eT2 eI eS) (enc r))) = [91] ++ wordsE 0 r ++ [93] := by
  show cl (PyData.shown (.list _)) = _
  simp only [PyData.shown]
  rw [shownAll_map]
  show cl (textFrom 0 (Str.ofString "[") _ ++ Str.ofString "]") = _
  rw [cl_app, cl_textFrom]
  have e1 : cl (Str.ofString "[") = [91] := by decide +kernel
  have e2 : cl (Str.ofString "]") = [93] := by decide +kernel
  rw [e1, e2]
  congr 2
  unfold wordsE
  have key : ∀ (r : Row) (k : Nat), (∀ e ∈ r, e.1 < 10 ∧ 97 ≤ e.2 ∧ e.2 ≤ 122) → ((((enc r).map (eT2 eI eS)).map PyData.shown).zipIdx k).flatMap (fun x => (if x.2 > 0 then [44, 32] else []) ++ cl x.1) = (r.zipIdx k).flatMap fun x => (if x.2 > 0 then [44, 32] else []) ++ wordE x.1 := by
    intro r
    induction r with
    | nil => intro k _; rfl
    | cons e r ih =>
      intro k h
      rw [show enc (e :: r) = eRow e :: enc r from rfl, List.map_cons, List.map_cons, List.zipIdx_cons, List.flatMap_cons, List.zipIdx_cons, List.flatMap_cons, ih (k + 1) fun x hx => h x (List.mem_cons_of_mem _ hx)]
      obtain ⟨h1, h2, h3⟩ := h e List.mem_cons_self
      rw [shown_e e.1 h1 e.2 (by omega) h2]
  exact key r 0 h
theorem words_inj : ∀ (r s : Row) (k : Nat), wordsE k r = wordsE k s → r = s
  | [], [], k, _ => rfl
  | [], f :: s, k, h => by
    have := congrArg List.length h
    simp [wordsE, List.zipIdx_cons, wordE] at this
  | e :: r, [], k, h => by
    have := congrArg List.length h
    simp [wordsE, List.zipIdx_cons, wordE] at this
  | e :: r, f :: s, k, h => by
    unfold wordsE at h
    rw [List.zipIdx_cons, List.zipIdx_cons, List.flatMap_cons, List.flatMap_cons, List.append_assoc, List.append_assoc] at h
    have h1 := List.append_cancel_left h
    obtain ⟨h2, h3⟩ := List.append_inj h1 (by simp [wordE])
    unfold wordE at h2
    simp only [List.cons.injEq, and_true, true_and] at h2
    obtain ⟨a, b⟩ := h2
    have ee : e = f := Prod.ext (by omega) b
    rw [ee, words_inj r s (k + 1) h3]
theorem shown_inj {r s : Row} (h : ∀ e ∈ r, e.1 < 10 ∧ 97 ≤ e.2 ∧ e.2 ≤ 122) (k : ∀ e ∈ s, e.1 < 10 ∧ 97 ≤ e.2 ∧ e.2 ≤ 122) (e : PyData.shown (eL (eT2 eI eS) (enc r)) = PyData.shown (eL (eT2 eI eS) (enc s))) : r = s := by
  have q := congrArg cl e
  rw [shown_row h, shown_row k] at q
  have q1 := List.append_cancel_right q
  exact words_inj r s 0 (List.append_cancel_left q1)
end LQF

namespace LQF
open PySem L2 LX LQ
def Bg (k : Nat) (l : List Int) : Prop := ∃ a b c : Int, l = [a, b, c] ∧ 0 ≤ b ∧ b < 2 ^ 40 ∧ 0 ≤ c ∧ c ≤ k
theorem Bg.up {k m : Nat} {l : List Int} (h : Bg k l) (z : k ≤ m) : Bg m l := by
  obtain ⟨a, b, c, e, h1, h2, h3, h4⟩ := h
  exact ⟨a, b, c, e, h1, h2, h3, by omega⟩
theorem big1 {i : Int} (h0 : 0 ≤ i) (h : i < 2 ^ 220) : i.natAbs < 2 ^ 1000 := Nat.lt_of_lt_of_le (show i.natAbs < 2 ^ 220 by omega) (Nat.pow_le_pow_right (by decide) (by decide))
theorem big2 {i : Int} (h0 : 0 ≤ i) (h : i < 2 ^ 220) : i.natAbs < 2 ^ 100000 := Nat.lt_of_lt_of_le (show i.natAbs < 2 ^ 220 by omega) (Nat.pow_le_pow_right (by decide) (by decide))
theorem m_pool (c : Int) (k : Int) : Ev (F__law_pool c k) (Bg 0) := by
  unfold F__law_pool
  have a0 := Int.emod_nonneg ((c % 2147483629) + 40009 * k) (show (2147483629 : Int) ≠ 0 by decide)
  have a1 := Int.emod_lt_of_pos ((c % 2147483629) + 40009 * k) (show (0 : Int) < 2147483629 by decide)
  exact ev_s ⟨_, _, _, rfl, a0, by omega, by omega, by omega⟩
theorem m_cell (ns : List Int) (k : Nat) : Ev (F__law_cell_at ns (k : Int)) fun _ => True := by
  unfold F__law_cell_at
  refine ev_c (fun h => ?_) fun _ => ev_s trivial
  have := of_decide_eq_true h
  exact ev_b (ev_ix (P := fun _ => True) (by omega) this fun _ _ => trivial) fun _ _ => ev_s trivial
theorem m_draw {k : Nat} {l : List Int} {n : Int} (h : Bg k l) (hn : 0 < n) (hm : n < 2 ^ 190) (hk : k < 2 ^ 60) : Ev (F__law_draw l n) fun r => 0 ≤ r.1 ∧ r.1 < n ∧ Bg (k + 1) r.2 := by
  obtain ⟨a, b, c, rfl, h1, h2, h3, h4⟩ := h
  unfold F__law_draw
  refine ev_be (x := c) rfl ?_
  refine ev_be (x := [a, b, c + 1]) rfl ?_
  refine ev_be (x := b) rfl ?_
  refine ev_be (x := c + 1) rfl ?_
  refine ev_be (x := c + 1) rfl ?_
  have p0 : 0 ≤ (7 * (c + 1)) * (c + 1) := Int.mul_nonneg (by omega) (by omega)
  have p1 : (7 * (c + 1)) * (c + 1) ≤ (7 * 2 ^ 61) * 2 ^ 61 := Int.mul_le_mul (by omega) (by omega) (by omega) (by omega)
  refine ev_be (mulF_ok (big2 (by omega) (by omega)) (big2 (by omega) (by omega))) ?_
  generalize (7 * (c + 1)) * (c + 1) = p at p0 p1
  refine ev_be (powF_ok (by decide) (by decide) (big1 (by omega) (by omega))) ?_
  generalize (b + p + 1) ^ (2 : Int).toNat = y
  refine ev_be (x := c + 1) rfl ?_
  have y0 := Int.emod_nonneg (((y % 2147483587) * 69621) + 40692 * (c + 1)) (show (2147483629 : Int) ≠ 0 by decide)
  have y1 := Int.emod_lt_of_pos (((y % 2147483587) * 69621) + 40692 * (c + 1)) (show (0 : Int) < 2147483629 by decide)
  generalize (((y % 2147483587) * 69621) + 40692 * (c + 1)) % 2147483629 = z at y0 y1
  refine ev_be (x := [a, z, c + 1]) rfl ?_
  refine ev_be (x := z) rfl ?_
  refine ev_be (divF_ok (by decide) (by decide)) ?_
  refine ev_be (modF_ok hn) ?_
  refine ev_b (P := fun r : Int × List Int => 0 ≤ r.1 ∧ r.1 < n ∧ Bg (k + 1) r.2) ?_ fun r hr => ev_s hr
  refine ev_be (x := a) rfl ?_
  refine ev_c (fun ha => ?_) fun _ => ev_s ⟨Int.emod_nonneg _ (by omega), Int.emod_lt_of_pos _ hn, _, _, _, rfl, y0, by omega, by omega, by omega⟩
  have ha := of_decide_eq_true ha
  refine ev_be (x := a) rfl ?_
  refine ev_be (modF_ok hn) ?_
  refine ev_be (x := a) rfl ?_
  refine ev_be (divF_ok hn (big1 (by omega) (by omega))) ?_
  refine ev_be (x := [a / n, z, c + 1]) rfl ?_
  exact ev_s ⟨Int.emod_nonneg _ (by omega), Int.emod_lt_of_pos _ hn, _, _, _, rfl, y0, by omega, by omega, by omega⟩
theorem m_many {k : Nat} {l ns : List Int} (B : Bg k l) (hk : k < 2 ^ 59) : Ev (F__law_many l ns) fun r => ∃ n : Nat, r.1 = (n : Int) ∧ 1 ≤ n ∧ n ≤ 4 ∧ Bg (k + 1) r.2 := by
  unfold F__law_many
  have q := (EqE.list EqE.int).run (by decide) (x := ns) (y := ([] : List Int)) (fun _ _ => trivial) (fun _ _ => trivial)
  refine ev_b (P := fun r : Int × List Int => ∃ n : Nat, r.1 = (n : Int) ∧ 1 ≤ n ∧ n ≤ 4 ∧ Bg (k + 1) r.2) (ev_be q (ev_c (fun _ => ev_s ⟨2, rfl, by omega, by omega, B.up (by omega)⟩) fun _ => ?_)) fun r hr => ev_s hr
  refine ev_b (m_draw B (by decide) (by decide) (by omega)) fun y ⟨a0, a1, B1⟩ => ev_s ⟨(1 + y.1).toNat, ?_, by omega, by omega, B1⟩
  show 1 + y.1 = _
  omega
theorem abcG_ok : ∀ c ∈ (Str.ofString "abcdefghijklmnopqrstuvwxyz").cps.toList, 97 ≤ c ∧ c ≤ 122 := by decide +kernel
theorem abcG_len : (Str.ofString "abcdefghijklmnopqrstuvwxyz").cps.toList.length = 26 := by decide +kernel
theorem abcG_ix {j : Nat} (h : j < 26) : ∃ c, (97 ≤ c ∧ c ≤ 122) ∧ ixS (Str.ofString "abcdefghijklmnopqrstuvwxyz") (j : Int) = some (lt c) := by
  have l := abcG_len
  have jl : j < (Str.ofString "abcdefghijklmnopqrstuvwxyz").cps.toList.length := by omega
  refine ⟨_, abcG_ok _ (List.getElem_mem jl), ?_⟩
  unfold ixS
  rw [decide_eq_true (show (Str.ofString "abcdefghijklmnopqrstuvwxyz").length ≤ LIM by
    show (Str.ofString "abcdefghijklmnopqrstuvwxyz").cps.size ≤ LIM
    rw [Array.length_toList] at l
    unfold LIM
    omega)]
  show Option.bind (ix _ (j : Int)) _ = _
  rw [ix_nat (List.getElem?_eq_getElem jl)]
  rfl
/-- some are drawn out of a list -/
theorem m_pops {α : Type} : ∀ (is : List Int) {k : Nat} {l : List α} {bg : List Int}, is.length ≤ l.length → Bg k bg → l.length ≤ 1000 → k + is.length < 2 ^ 59 →
    Ev (compS (fun (_ : Int) (s : (List α) × (List Int)) => (F__law_draw s.2 (lenI s.1)).bind fun y => (popAtF s.1 y.1).bind fun z => some (some z.1, (z.2, y.2))) is (l, bg)) fun r => r.1.length = is.length ∧ (r.1 ++ r.2.1).Perm l ∧ Bg (k + is.length) r.2.2
  | [], k, l, bg, _, B, _, _ => ⟨_, rfl, rfl, List.Perm.refl _, B⟩
  | i :: is, k, l, bg, hl, B, z, hk => by
    rw [List.length_cons] at hl hk
    have ll : lenI l = (l.length : Int) := rfl
    show Ev (Option.bind (Option.bind (F__law_draw bg (lenI l)) _) _) _
    obtain ⟨y, ey, a0, a1, B1⟩ := m_draw (n := lenI l) B (by omega) (by omega) (by omega)
    rw [ey]
    obtain ⟨j, hj⟩ : ∃ j : Nat, y.1 = (j : Int) := ⟨y.1.toNat, by omega⟩
    have jl : j < l.length := by omega
    show Ev (Option.bind (Option.bind (popAtF l y.1) _) _) _
    rw [hj, popAt_nat (List.getElem?_eq_getElem jl) (by unfold LIM; omega)]
    have el : (l.eraseIdx j).length = l.length - 1 := List.length_eraseIdx_of_lt jl
    obtain ⟨r, er, lr, pr, Br⟩ := m_pops is (k := k + 1) (l := l.eraseIdx j) (bg := y.2) (by rw [el]; omega) B1 (by omega) (by omega)
    show Ev (Option.bind (compS _ is (l.eraseIdx j, y.2)) _) _
    rw [er]
    refine ⟨_, rfl, ?_, ?_, Br.up (by rw [List.length_cons]; omega)⟩
    · show (l[j] :: r.1).length = _
      rw [List.length_cons, lr, List.length_cons]
    · show (l[j] :: (r.1 ++ r.2.1)).Perm l
      have pm : ∀ (l : List α) (j : Nat) (h : j < l.length), (l[j] :: l.eraseIdx j).Perm l := by
        intro l
        induction l with
        | nil => intro j h; exact absurd h (Nat.not_lt_zero _)
        | cons x l ih =>
          intro j h
          cases j with
          | zero => exact List.Perm.refl _
          | succ j => exact (List.Perm.swap _ _ _).trans ((ih j (Nat.lt_of_succ_lt_succ h)).cons x)
      exact (pr.cons _).trans (pm l j jl)
/-- letters are drawn -/
theorem m_lets : ∀ (is : List Int) {k : Nat} {bg : List Int}, Bg k bg → k + is.length < 2 ^ 59 →
    Ev (compS (fun (_ : Int) (s : List Int) => (F__law_draw s (26 : Int)).bind fun y => (ixS (Str.ofString "abcdefghijklmnopqrstuvwxyz") y.1).bind fun z => some (some z, y.2)) is bg) fun r => ∃ cs : List Nat, r.1 = cs.map lt ∧ cs.length = is.length ∧ (∀ c ∈ cs, 97 ≤ c ∧ c ≤ 122) ∧ Bg (k + is.length) r.2
  | [], k, bg, B, _ => ⟨_, rfl, [], rfl, rfl, (fun c hc => nomatch hc), B⟩
  | i :: is, k, bg, B, hk => by
    rw [List.length_cons] at hk
    show Ev (Option.bind (Option.bind (F__law_draw bg 26) _) _) _
    obtain ⟨y, ey, a0, a1, B1⟩ := m_draw (n := 26) B (by decide) (by decide) (by omega)
    rw [ey]
    obtain ⟨j, hj⟩ : ∃ j : Nat, y.1 = (j : Int) := ⟨y.1.toNat, by omega⟩
    obtain ⟨c, hc, ec⟩ := abcG_ix (j := j) (by omega)
    show Ev (Option.bind (Option.bind (ixS _ y.1) _) _) _
    rw [hj, ec]
    obtain ⟨r, er, cs, e1, e2, e3, Br⟩ := m_lets is (k := k + 1) (bg := y.2) B1 (by omega)
    show Ev (Option.bind (compS _ is y.2) _) _
    rw [er]
    refine ⟨_, rfl, c :: cs, ?_, by rw [List.length_cons, List.length_cons, e2], fun d hd => ?_, Br.up (by rw [List.length_cons]; omega)⟩
    · show lt c :: r.1 = _
      rw [e1]
      rfl
    · rcases List.mem_cons.mp hd with z | z
      · rw [z]; exact hc
      · exact e3 d z
/-- people with letters -/
theorem m_wear : ∀ (os : List Nat) {k : Nat} {bg : List Int} {cs : List Nat}, Bg k bg → 0 < cs.length → cs.length ≤ 1000 → k + os.length < 2 ^ 59 →
    Ev (compS (fun (a : Int) (s : List Int) => (F__law_draw s (lenI (cs.map lt))).bind fun y => (ix (cs.map lt) y.1).bind fun z => some (some (a, z), y.2)) (nI os) bg) fun r => ∃ row : Row, r.1 = enc row ∧ row.map (·.1) = os ∧ (∀ e ∈ row, e.2 ∈ cs) ∧ Bg (k + os.length) r.2
  | [], k, bg, cs, B, _, _, _ => ⟨_, rfl, [], rfl, rfl, (fun c hc => nomatch hc), B⟩
  | o :: os, k, bg, cs, B, h0, hc, hk => by
    rw [List.length_cons] at hk
    have ll : lenI (cs.map lt) = (cs.length : Int) := by unfold lenI; rw [List.length_map]
    show Ev (Option.bind (Option.bind (F__law_draw bg (lenI (cs.map lt))) _) _) _
    obtain ⟨y, ey, a0, a1, B1⟩ := m_draw (n := lenI (cs.map lt)) B (by omega) (by omega) (by omega)
    rw [ey]
    obtain ⟨j, hj⟩ : ∃ j : Nat, y.1 = (j : Int) := ⟨y.1.toNat, by omega⟩
    have jl : j < cs.length := by omega
    show Ev (Option.bind (Option.bind (ix (cs.map lt) y.1) _) _) _
    rw [hj, ix_nat (x := lt cs[j]) (by rw [List.getElem?_map, List.getElem?_eq_getElem jl]; rfl)]
    obtain ⟨r, er, row, e1, e2, e3, Br⟩ := m_wear os (k := k + 1) (bg := y.2) (cs := cs) B1 h0 hc (by omega)
    show Ev (Option.bind (compS _ (nI os) y.2) _) _
    rw [er]
    refine ⟨_, rfl, (o, cs[j]) :: row, ?_, by rw [List.map_cons, e2], fun d hd => ?_, Br.up (by rw [List.length_cons]; omega)⟩
    · show ((o : Int), lt cs[j]) :: r.1 = _
      rw [e1]
      rfl
    · rcases List.mem_cons.mp hd with z | z
      · rw [z]; exact List.getElem_mem jl
      · exact e3 d z
/-- the persons in some order -/
theorem m_order {k n : Nat} {bg : List Int} (B : Bg k bg) (n2 : n ≤ 60) (hk : k < 2 ^ 58) :
    Ev (compLS (fun (_ : Int) (s : (List Int) × (List Int)) => (F__law_draw s.2 (lenI s.1)).bind fun y => (popAtF s.1 y.1).bind fun z => some (some z.1, (z.2, y.2))) (rgI 0 (n : Int)) (rgI 0 (n : Int), bg)) fun r => ∃ os : List Nat, r.1 = nI os ∧ os.Perm (List.range n) ∧ Bg (k + n) r.2.2 := by
  have rl : (rgI 0 (n : Int)).length = n := by rw [rgI_len]; omega
  unfold compLS
  rw [decide_eq_true (by rw [rl]; unfold LIM; omega)]
  refine (m_pops (rgI 0 (n : Int)) (Nat.le_refl _) B (by rw [rl]; omega) (by rw [rl]; omega)).imp fun r ⟨h1, h2, h3⟩ => ?_
  have r2 : r.2.1 = [] := by
    have := h2.length_eq
    rw [List.length_append, h1] at this
    exact List.length_eq_zero_iff.mp (by omega)
  rw [r2, List.append_nil, rgI_nat] at h2
  obtain ⟨os, eo⟩ := ex_nI (l := r.1) fun x hx => by
    obtain ⟨p, _, e⟩ := List.mem_map.mp (h2.mem_iff.mp hx)
    exact ⟨p, e.symm⟩
  refine ⟨os, eo, ?_, h3.up (by rw [rl]; omega)⟩
  rw [eo] at h2
  have := h2.map Int.toNat
  rw [nI, List.map_map, List.map_map] at this
  have e : (Int.toNat ∘ fun n : Nat => (n : Int)) = id := rfl
  rw [e, List.map_id, List.map_id] at this
  exact this
theorem m_people {k : Nat} {bg : List Int} {n : Nat} (B : Bg k bg) (n1 : 1 ≤ n) (n2 : n ≤ 60) (hk : k < 2 ^ 57) :
    Ev (F__law_lineup bg (n : Int)) fun r => ∃ row : Row, Vr row ∧ r.1 = enc row ∧ row.length = n ∧ Bg (k + 200) r.2 := by
  unfold F__law_lineup
  refine ev_be (lrgF_ok (by decide) (by decide) (by omega) (by omega) (by unfold LIM; omega)) ?_
  refine ev_be (rngF_ok (by decide) (by decide) (by omega) (by omega)) ?_
  refine ev_b (m_order B n2 (by omega)) fun l1 ⟨os, e1, pm, B1⟩ => ?_
  refine ev_b (m_draw B1 (by omega) (by omega) (by omega)) fun y ⟨a0, a1, B2⟩ => ?_
  refine ev_be (rngF_ok (by decide) (by decide) (by omega) (by omega)) ?_
  have rl : (rgI 0 (1 + y.1)).length = (1 + y.1).toNat := by rw [rgI_len]; omega
  have ol := pm.length_eq
  rw [List.length_range] at ol
  refine ev_b (P := fun r => ∃ cs : List Nat, r.1 = cs.map lt ∧ cs.length = (1 + y.1).toNat ∧ (∀ c ∈ cs, 97 ≤ c ∧ c ≤ 122) ∧ Bg (k + n + 1 + (1 + y.1).toNat) r.2) ?_ fun l2 ⟨cs, e2, cl, cc, B3⟩ => ?_
  · unfold compLS
    rw [decide_eq_true (by rw [rl]; unfold LIM; omega)]
    have := m_lets (rgI 0 (1 + y.1)) B2 (by rw [rl]; omega)
    rw [rl] at this
    exact this
  rw [e1, e2]
  refine ev_b (P := fun r => ∃ row : Row, r.1 = enc row ∧ row.map (·.1) = os ∧ (∀ e ∈ row, e.2 ∈ cs) ∧ Bg (k + 200) r.2) ?_ fun l3 ⟨row, e3, p3, c3, B4⟩ => ?_
  · unfold compLS
    have nl : (nI os).length = n := by rw [nI, List.length_map, ol]
    rw [decide_eq_true (by rw [nl]; unfold LIM; omega)]
    refine (m_wear os B3 (by omega) (by omega) (by omega)).imp fun r ⟨row, h1, h2, h3, h4⟩ => ⟨row, h1, h2, h3, h4.up (by omega)⟩
  have rw_ : row.length = n := by
    have := congrArg List.length p3
    rw [List.length_map] at this
    omega
  exact ev_s ⟨row, ⟨by omega, by omega, fun e he => cc _ (c3 e he), by rw [p3, rw_]; exact pm⟩, e3, rw_, B4⟩
end LQF

namespace LQF
open PySem L2 LX LQ
/-! the search by layers, on rows -/
abbrev Pt := Row × List Nat
abbrev St2 := List Pt × List Pt
def hasR (f : List Pt) (r : Row) : Bool := f.any fun x => decide (x.1 = r)
def badd (s : St2) (x : Pt) : St2 := if hasR s.2 x.1 = true then s else (s.1 ++ [x], s.2 ++ [x])
def cands (n : Nat) (L : List Pt) : List Pt := L.flatMap fun x => (List.range n).map fun p => (app x.1 p, x.2 ++ [p])
def blayer (n : Nat) (s : St2) : St2 := (cands n s.1).foldl badd ([], s.2)
def biter (n : Nat) : Nat → St2 → St2
  | 0, s => s
  | k + 1, s => biter n k (blayer n s)
theorem blayer_nil {n : Nat} {f : List Pt} : blayer n ([], f) = ([], f) := rfl
theorem biter_nil {n : Nat} {f : List Pt} : ∀ k, biter n k ([], f) = ([], f)
  | 0 => rfl
  | k + 1 => by
    show biter n k (blayer n ([], f)) = _
    rw [blayer_nil]
    exact biter_nil k
theorem biter_add {n : Nat} : ∀ (k m : Nat) (s : St2), biter n (k + m) s = biter n m (biter n k s)
  | 0, m, s => by rw [Nat.zero_add]; rfl
  | k + 1, m, s => by
    rw [Nat.succ_add]
    exact biter_add k m (blayer n s)
theorem hasR_iff {f : List Pt} {r : Row} : hasR f r = true ↔ ∃ x ∈ f, x.1 = r := by
  unfold hasR
  rw [List.any_eq_true]
  exact ⟨fun ⟨x, h, e⟩ => ⟨x, h, of_decide_eq_true e⟩, fun ⟨x, h, e⟩ => ⟨x, h, decide_eq_true e⟩⟩
theorem hasR_mono {f g : List Pt} {r : Row} (h : hasR f r = true) : hasR (f ++ g) r = true := by
  obtain ⟨x, hx, e⟩ := hasR_iff.mp h
  exact hasR_iff.mpr ⟨x, List.mem_append_left _ hx, e⟩
theorem fold_badd : ∀ (cs l f : List Pt), ∃ new, cs.foldl badd (l, f) = (l ++ new, f ++ new) ∧ (∀ x ∈ new, x ∈ cs ∧ hasR f x.1 = false) ∧ (new.map (·.1)).Nodup ∧ ∀ x ∈ cs, hasR (f ++ new) x.1 = true
  | [], l, f => ⟨[], by rw [List.append_nil, List.append_nil]; rfl, (fun x hx => nomatch hx), List.nodup_nil, fun x hx => nomatch hx⟩
  | c :: cs, l, f => by
    rw [List.foldl_cons]
    by_cases h : hasR f c.1 = true
    · obtain ⟨new, h1, h2, h3, h4⟩ := fold_badd cs l f
      refine ⟨new, by rw [show badd (l, f) c = (l, f) by unfold badd; rw [if_pos h]]; exact h1, fun x hx => ⟨List.mem_cons_of_mem _ (h2 x hx).1, (h2 x hx).2⟩, h3, fun x hx => ?_⟩
      rcases List.mem_cons.mp hx with z | z
      · rw [z]; exact hasR_mono h
      · exact h4 x z
    · obtain ⟨new, h1, h2, h3, h4⟩ := fold_badd cs (l ++ [c]) (f ++ [c])
      refine ⟨c :: new, ?_, fun x hx => ?_, ?_, fun x hx => ?_⟩
      · rw [show badd (l, f) c = (l ++ [c], f ++ [c]) by unfold badd; rw [if_neg h], h1]
        simp
      · rcases List.mem_cons.mp hx with z | z
        · rw [z]; exact ⟨List.mem_cons_self, Bool.eq_false_iff.mpr h⟩
        · refine ⟨List.mem_cons_of_mem _ (h2 x z).1, Bool.eq_false_iff.mpr fun q => ?_⟩
          have := (h2 x z).2
          rw [hasR_mono q] at this
          cases this
      · rw [List.map_cons]
        refine List.nodup_cons.mpr ⟨fun z => ?_, h3⟩
        obtain ⟨x, hx, e⟩ := List.mem_map.mp z
        have := (h2 x hx).2
        rw [hasR_iff.mpr ⟨c, List.mem_append_right _ List.mem_cons_self, e.symm⟩] at this
        cases this
      · have q : f ++ c :: new = (f ++ [c]) ++ new := by simp
        rw [q]
        rcases List.mem_cons.mp hx with z | z
        · rw [z]; exact hasR_mono (hasR_iff.mpr ⟨c, List.mem_append_right _ List.mem_cons_self, rfl⟩)
        · exact h4 x z
theorem layer_is (n : Nat) (s : St2) : ∃ new, blayer n s = (new, s.2 ++ new) ∧ (∀ x ∈ new, (∃ y ∈ s.1, ∃ p, p < n ∧ x = (app y.1 p, y.2 ++ [p])) ∧ hasR s.2 x.1 = false) ∧ (new.map (·.1)).Nodup ∧ ∀ y ∈ s.1, ∀ p, p < n → hasR (s.2 ++ new) (app y.1 p) = true := by
  obtain ⟨new, h1, h2, h3, h4⟩ := fold_badd (cands n s.1) [] s.2
  refine ⟨new, h1, fun x hx => ⟨?_, (h2 x hx).2⟩, h3, fun y hy p hp => h4 (app y.1 p, y.2 ++ [p]) (List.mem_flatMap.mpr ⟨y, hy, List.mem_map.mpr ⟨p, List.mem_range.mpr hp, rfl⟩⟩)⟩
  obtain ⟨y, hy, hz⟩ := List.mem_flatMap.mp (h2 x hx).1
  obtain ⟨p, hp, e⟩ := List.mem_map.mp hz
  exact ⟨y, hy, p, List.mem_range.mp hp, e.symm⟩
/-- rows of n people with letters of cs -/
structure Rw (n : Nat) (cs : List Nat) (r : Row) : Prop where
  v : Vr r
  len : r.length = n
  col : ∀ e ∈ r, e.2 ∈ cs
theorem colOf_mem {r : Row} (V : Vr r) {p : Nat} (h : p < r.length) : (p, colOf r p) ∈ r := by
  obtain ⟨e, he, hp⟩ := V.has h
  unfold colOf
  obtain ⟨x, hx⟩ : ∃ x, (r.find? fun e => e.1 == p) = some x := by
    cases q : r.find? fun e => e.1 == p with
    | some x => exact ⟨x, rfl⟩
    | none => exact absurd (by simpa using hp) (by simpa using List.find?_eq_none.mp q e he)
  rw [hx]
  have h1 := List.mem_of_find?_eq_some hx
  have h2 : x.1 = p := by simpa using List.find?_some hx
  show (p, x.2) ∈ r
  rw [← h2]
  exact h1
theorem fo_mem {r : Row} {c d : Nat} (h : fo r c = some d) : ∃ e ∈ r, e.2 = d := by
  unfold fo at h
  obtain ⟨e, he, rfl⟩ := Option.map_eq_some_iff.mp h
  exact ⟨e, List.mem_of_find?_eq_some he, rfl⟩
theorem Rw.app {n : Nat} {cs : List Nat} {r : Row} (R : Rw n cs r) {p : Nat} (h : p < n) : Rw n cs (LX.app r p) := by
  have hp : p < r.length := by rw [R.len]; exact h
  refine ⟨R.v.app hp, by rw [app_len R.v hp, R.len], fun e he => ?_⟩
  unfold LX.app at he
  rcases List.mem_cons.mp he with z | z
  · rw [z]
    show (fo r (colOf r p)).getD (colOf r p) ∈ cs
    cases q : fo r (colOf r p) with
    | none => exact R.col _ (colOf_mem R.v hp)
    | some d =>
      obtain ⟨e', h1, h2⟩ := fo_mem q
      show d ∈ cs
      rw [← h2]
      exact R.col e' h1
  · exact R.col e (List.mem_filter.mp z).1
theorem Rw.apps {n : Nat} {cs : List Nat} : ∀ {w : List Nat} {r : Row}, Rw n cs r → (∀ p ∈ w, p < n) → Rw n cs (LX.apps r w)
  | [], r, R, _ => R
  | p :: w, r, R, h => Rw.apps (w := w) (R.app (h p List.mem_cons_self)) fun q hq => h q (List.mem_cons_of_mem _ hq)
/-- what the search from r keeps, k layers on -/
structure BI (n : Nat) (cs : List Nat) (r : Row) (k : Nat) (s : St2) : Prop where
  sub : ∀ x ∈ s.1, x ∈ s.2
  row : ∀ x ∈ s.2, Rw n cs x.1
  nd : (s.2.map (·.1)).Nodup
  cal : ∀ x ∈ s.2, x.2.length ≤ k ∧ (∀ p ∈ x.2, p < n) ∧ apps r x.2 = x.1
  new : ∀ x ∈ s.1, x.2.length = k
  old : ∀ x ∈ s.2, x ∈ s.1 ∨ ∀ p, p < n → hasR s.2 (app x.1 p) = true
  far : ∀ w, w.length ≤ k → (∀ p ∈ w, p < n) → hasR s.2 (apps r w) = true
theorem BI.start {n : Nat} {cs : List Nat} {r : Row} (R : Rw n cs r) : BI n cs r 0 ([(r, [])], [(r, [])]) where
  sub := fun x hx => hx
  row := fun x hx => by rw [List.mem_singleton.mp hx]; exact R
  nd := List.nodup_cons.mpr ⟨List.not_mem_nil, List.nodup_nil⟩
  cal := fun x hx => by rw [List.mem_singleton.mp hx]; exact ⟨Nat.le_refl _, (fun p hp => nomatch hp), rfl⟩
  new := fun x hx => by rw [List.mem_singleton.mp hx]; rfl
  old := fun x hx => Or.inl hx
  far := fun w hw _ => by
    have : w = [] := List.length_eq_zero_iff.mp (by omega)
    rw [this]
    exact hasR_iff.mpr ⟨_, List.mem_cons_self, rfl⟩
theorem BI.step {n : Nat} {cs : List Nat} {r : Row} {k : Nat} {s : St2} (B : BI n cs r k s) : BI n cs r (k + 1) (blayer n s) ∧ ∀ x ∈ (blayer n s).1, hasR s.2 x.1 = false := by
  obtain ⟨new, e, h1, h2, h3⟩ := layer_is n s
  rw [e]
  have hn : ∀ x ∈ new, Rw n cs x.1 ∧ x.2.length = k + 1 ∧ (∀ p ∈ x.2, p < n) ∧ apps r x.2 = x.1 := fun x hx => by
    obtain ⟨⟨y, hy, p, hp, ex⟩, _⟩ := h1 x hx
    obtain ⟨c1, c2, c3⟩ := B.cal y (B.sub y hy)
    rw [ex]
    refine ⟨(B.row y (B.sub y hy)).app hp, by show (y.2 ++ [p]).length = _; rw [List.length_append, B.new y hy]; rfl, fun q hq => ?_, by show apps r (y.2 ++ [p]) = app y.1 p; rw [apps_snoc, c3]⟩
    rcases List.mem_append.mp hq with z | z
    · exact c2 q z
    · rw [List.mem_singleton.mp z]; exact hp
  refine ⟨⟨fun x hx => List.mem_append_right _ hx, fun x hx => ?_, ?_, fun x hx => ?_, fun x hx => (hn x hx).2.1, fun x hx => ?_, fun w hw hp => ?_⟩, fun x hx => (h1 x hx).2⟩
  · rcases List.mem_append.mp hx with z | z
    · exact B.row x z
    · exact (hn x z).1
  · rw [List.map_append]
    refine List.nodup_append.mpr ⟨B.nd, h2, fun a ha b hb z => ?_⟩
    obtain ⟨x, hx, ex⟩ := List.mem_map.mp ha
    obtain ⟨y, hy, ey⟩ := List.mem_map.mp hb
    have := (h1 y hy).2
    rw [hasR_iff.mpr ⟨x, hx, by rw [ex, z, ey]⟩] at this
    cases this
  · rcases List.mem_append.mp hx with z | z
    · obtain ⟨c1, c2, c3⟩ := B.cal x z
      exact ⟨by omega, c2, c3⟩
    · obtain ⟨_, c1, c2, c3⟩ := hn x z
      exact ⟨by omega, c2, c3⟩
  · rcases List.mem_append.mp hx with z | z
    · refine Or.inr fun p hp => ?_
      rcases B.old x z with q | q
      · exact h3 x q p hp
      · exact hasR_mono (q p hp)
    · exact Or.inl z
  · by_cases c : w.length ≤ k
    · exact hasR_mono (B.far w c hp)
    · obtain ⟨w', p, rfl⟩ : ∃ w' p, w = w' ++ [p] := by
        rcases List.eq_nil_or_concat w with z | ⟨w', p, z⟩
        · rw [z] at c
          exact absurd (Nat.zero_le _) c
        · exact ⟨w', p, by rw [z, List.concat_eq_append]⟩
      rw [List.length_append] at hw
      obtain ⟨y, hy, ey⟩ := hasR_iff.mp (B.far w' (by simp at hw; omega) fun q hq => hp q (List.mem_append_left _ hq))
      have pn := hp p (List.mem_append_right _ List.mem_cons_self)
      rw [apps_snoc, ← ey]
      rcases B.old y hy with q | q
      · exact h3 y q p pn
      · exact hasR_mono (q p pn)
theorem BI.iter {n : Nat} {cs : List Nat} {r : Row} : ∀ (m : Nat) {k : Nat} {s : St2}, BI n cs r k s → BI n cs r (k + m) (biter n m s)
  | 0, k, s, B => B
  | m + 1, k, s, B => by
    have := BI.iter m B.step.1
    rw [Nat.succ_add_eq_add_succ] at this
    exact this
/-- the search from r -/
def srch (n : Nat) (r : Row) (k : Nat) : St2 := biter n k ([(r, [])], [(r, [])])
theorem srch_ok {n : Nat} {cs : List Nat} {r : Row} (R : Rw n cs r) (k : Nat) : BI n cs r k (srch n r k) := by
  have := (BI.start R).iter k
  rw [Nat.zero_add] at this
  exact this
/-- eleven calls lead everywhere -/
def Ten (n : Nat) (r : Row) : Prop := ∀ w : List Nat, (∀ p ∈ w, p < n) → ∃ w' : List Nat, w'.length ≤ 11 ∧ (∀ p ∈ w', p < n) ∧ apps r w' = apps r w
theorem srch_end {n : Nat} {cs : List Nat} {r : Row} (R : Rw n cs r) (T : Ten n r) : (srch n r 12).1 = [] := by
  have e : srch n r 12 = blayer n (srch n r 11) := biter_add 11 1 _
  have B := srch_ok R 11
  obtain ⟨B1, fr⟩ := B.step
  rw [e]
  cases h : (blayer n (srch n r 11)).1 with
  | nil => rfl
  | cons x l =>
    have hx : x ∈ (blayer n (srch n r 11)).1 := by rw [h]; exact List.mem_cons_self
    obtain ⟨_, c2, c3⟩ := B1.cal x (B1.sub x hx)
    obtain ⟨w', h1, h2, h3⟩ := T x.2 c2
    have := fr x hx
    rw [← c3, ← h3, B.far w' h1 h2] at this
    cases this
theorem srch_stay {n : Nat} {r : Row} {k m : Nat} (h : (srch n r k).1 = []) (z : k ≤ m) : srch n r m = srch n r k := by
  obtain ⟨d, rfl⟩ := Nat.exists_eq_add_of_le z
  unfold srch at h ⊢
  rw [biter_add]
  generalize biter n k ([(r, [])], [(r, [])]) = s at h
  obtain ⟨a, b⟩ := s
  dsimp only at h
  subst h
  exact biter_nil d
/-! ### how many rows there are -/
def tuples {α : Type} (A : List α) : Nat → List (List α)
  | 0 => [[]]
  | n + 1 => A.flatMap fun a => (tuples A n).map (a :: ·)
theorem tuples_len {α : Type} (A : List α) : ∀ n, (tuples A n).length = A.length ^ n
  | 0 => rfl
  | n + 1 => by
    show (A.flatMap fun a => (tuples A n).map (a :: ·)).length = _
    rw [List.length_flatMap]
    have : (A.map fun a => ((tuples A n).map (a :: ·)).length) = A.map fun _ => A.length ^ n := List.map_congr_left fun a _ => by rw [List.length_map, tuples_len A n]
    rw [this, List.map_const', List.sum_replicate_nat, Nat.pow_succ, Nat.mul_comm]
theorem tuples_mem {α : Type} {A : List α} : ∀ {l : List α}, (∀ x ∈ l, x ∈ A) → l ∈ tuples A l.length
  | [], _ => List.mem_singleton.mpr rfl
  | x :: l, h => List.mem_flatMap.mpr ⟨x, h x List.mem_cons_self, List.mem_map.mpr ⟨l, tuples_mem fun y hy => h y (List.mem_cons_of_mem _ hy), rfl⟩⟩
theorem nodup_le {α : Type} [DecidableEq α] : ∀ {l m : List α}, l.Nodup → (∀ x ∈ l, x ∈ m) → l.length ≤ m.length
  | [], m, _, _ => Nat.zero_le _
  | x :: l, m, nd, h => by
    have nd' := List.nodup_cons.mp nd
    have hx := h x List.mem_cons_self
    have := nodup_le (m := m.erase x) nd'.2 fun y hy => (List.mem_erase_of_ne (fun (z : y = x) => nd'.1 (z ▸ hy))).mpr (h y (List.mem_cons_of_mem _ hy))
    rw [List.length_erase_of_mem hx] at this
    have : 0 < m.length := List.length_pos_of_mem hx
    rw [List.length_cons]
    omega
theorem rows_le {n : Nat} {cs : List Nat} {f : List Pt} (hn : n ≤ 4) (hc : cs.length ≤ 4) (h : ∀ x ∈ f, Rw n cs x.1) (nd : (f.map (·.1)).Nodup) : f.length ≤ 65536 := by
  have := nodup_le (m := tuples ((List.range n).flatMap fun p => cs.map fun c => (p, c)) n) nd fun r hr => by
    obtain ⟨x, hx, rfl⟩ := List.mem_map.mp hr
    have R := h x hx
    have q := tuples_mem (A := (List.range n).flatMap fun p => cs.map fun c => (p, c)) (l := x.1) fun e he => by
      have l1 := R.v.lt he
      rw [R.len] at l1
      exact List.mem_flatMap.mpr ⟨e.1, List.mem_range.mpr l1, List.mem_map.mpr ⟨e.2, R.col e he, rfl⟩⟩
    rw [R.len] at q
    exact q
  rw [List.length_map, tuples_len] at this
  refine Nat.le_trans this ?_
  have el : ((List.range n).flatMap fun p => cs.map fun c => (p, c)).length = n * cs.length := by
    rw [List.length_flatMap]
    have : ((List.range n).map fun p => (cs.map fun c => (p, c)).length) = (List.range n).map fun _ => cs.length := List.map_congr_left fun a _ => by rw [List.length_map]
    rw [this, List.map_const', List.sum_replicate_nat, List.length_range]
  rw [el]
  calc (n * cs.length) ^ n ≤ 16 ^ n := Nat.pow_le_pow_left (Nat.le_trans (Nat.mul_le_mul hn hc) (by decide)) n
    _ ≤ 16 ^ 4 := Nat.pow_le_pow_right (by decide) hn
    _ = 65536 := by decide
end LQF

namespace LQF
open PySem L2 LX LQ
/-! rows as numbers: the search from a row of at most four people ends -/
def ccol : Nat → Nat → Nat → Nat
  | 0, _, _ => 0
  | n + 1, s, p => cond (Nat.beq (s % 16 / 4) p) (s % 4) (ccol n (s / 16) p)
def coth : Nat → Nat → Nat → Nat
  | 0, _, c => c
  | n + 1, s, c => cond (Nat.beq (s % 4) c) (coth n (s / 16) c) (s % 4)
def crem : Nat → Nat → Nat → Nat
  | 0, _, _ => 0
  | n + 1, s, p => cond (Nat.beq (s % 16 / 4) p) (s / 16) (s % 16 + 16 * crem n (s / 16) p)
def cApp (n s p : Nat) : Nat := (p * 4 + coth n s (ccol n s p)) + 16 * crem n s p
def cadd (a : List Nat × Nat) (t : Nat) : List Nat × Nat := cond (Nat.testBit a.2 t) a (t :: a.1, a.2 ||| (1 <<< t))
def clay (n : Nat) (a : List Nat × Nat) : List Nat × Nat := a.1.reverse.foldl (fun a s => (List.range n).foldl (fun a p => cadd a (cApp n s p)) a) ([], a.2)
def citer (n : Nat) : Nat → List Nat × Nat → List Nat × Nat
  | 0, a => a
  | k + 1, a => citer n k (clay n a)
def codeP : List Nat → Nat → Nat
  | [], _ => 0
  | c :: cs, i => (i * 4 + c) + 16 * codeP cs (i + 1)
def good (cs : List Nat) : Bool := (citer cs.length 11 ([codeP cs 0], 1 <<< codeP cs 0)).1.isEmpty
def pats : List (List Nat) := [[0], [0, 0], [0, 1], [0, 0, 0], [0, 0, 1], [0, 1, 0], [0, 1, 1], [0, 1, 2], [0, 0, 0, 0], [0, 0, 0, 1], [0, 0, 1, 0], [0, 0, 1, 1], [0, 0, 1, 2], [0, 1, 0, 0], [0, 1, 0, 1], [0, 1, 0, 2], [0, 1, 1, 0], [0, 1, 1, 1], [0, 1, 1, 2], [0, 1, 2, 0], [0, 1, 2, 1], [0, 1, 2, 2], [0, 1, 2, 3]]
theorem pats_good : ∀ cs ∈ pats, good cs = true := by decide +kernel
/-- small: persons below 4, letters a to d -/
def Sm (e : Nat × Nat) : Prop := e.1 < 4 ∧ 97 ≤ e.2 ∧ e.2 < 101
def dg (e : Nat × Nat) : Nat := e.1 * 4 + (e.2 - 97)
def code (r : Row) : Nat := r.foldr (fun e a => dg e + 16 * a) 0
theorem code_cons (e : Nat × Nat) (r : Row) : code (e :: r) = dg e + 16 * code r := rfl
theorem dg_lt {e : Nat × Nat} (h : Sm e) : dg e < 16 := by unfold dg; obtain ⟨a, b, c⟩ := h; omega
theorem dg_per {e : Nat × Nat} (h : Sm e) : dg e / 4 = e.1 := by unfold dg; obtain ⟨a, b, c⟩ := h; omega
theorem dg_col {e : Nat × Nat} (h : Sm e) : dg e % 4 = e.2 - 97 := by unfold dg; obtain ⟨a, b, c⟩ := h; omega
theorem beq_dec (a b : Nat) : Nat.beq a b = decide (a = b) := by
  by_cases h : a = b
  · rw [decide_eq_true h, h]; exact Nat.beq_refl b
  · rw [decide_eq_false h]; exact Bool.eq_false_iff.mpr fun z => h (Nat.eq_of_beq_eq_true z)
section
variable {r : Row} {e : Nat × Nat}
theorem code_mod (h : Sm e) : code (e :: r) % 16 = dg e := by have := dg_lt h; rw [code_cons]; omega
theorem code_div (h : Sm e) : code (e :: r) / 16 = code r := by have := dg_lt h; rw [code_cons]; omega
theorem code_mod4 (h : Sm e) : code (e :: r) % 4 = e.2 - 97 := by have := dg_col h; have := dg_lt h; rw [code_cons]; omega
end
theorem ccol_is {p : Nat} : ∀ {r : Row}, (∀ e ∈ r, Sm e) → (∃ e ∈ r, e.1 = p) → ccol r.length (code r) p = colOf r p - 97
  | [], _, h => by obtain ⟨e, he, _⟩ := h; cases he
  | e :: r, hs, h => by
    have s0 := hs e List.mem_cons_self
    show cond (Nat.beq (code (e :: r) % 16 / 4) p) _ _ = _
    rw [code_mod s0, dg_per s0, beq_dec]
    unfold colOf
    by_cases c : e.1 = p
    · rw [decide_eq_true c, List.find?_cons_of_pos (by simpa using c)]
      exact code_mod4 s0
    · rw [decide_eq_false c, List.find?_cons_of_neg (by simpa using c), code_div s0]
      refine ccol_is (fun x hx => hs x (List.mem_cons_of_mem _ hx)) ?_
      obtain ⟨x, hx, q⟩ := h
      rcases List.mem_cons.mp hx with z | z
      · exact absurd (z ▸ q) c
      · exact ⟨x, z, q⟩
theorem coth_is {c : Nat} (hc : 97 ≤ c) : ∀ {r : Row}, (∀ e ∈ r, Sm e) → coth r.length (code r) (c - 97) = (fo r c).getD c - 97
  | [], _ => rfl
  | e :: r, hs => by
    have s0 := hs e List.mem_cons_self
    show cond (Nat.beq (code (e :: r) % 4) (c - 97)) _ _ = _
    rw [code_mod4 s0, beq_dec]
    by_cases k : e.2 = c
    · rw [decide_eq_true (by rw [k]), fo_no k, code_div s0]
      exact coth_is hc fun x hx => hs x (List.mem_cons_of_mem _ hx)
    · rw [decide_eq_false (by have := s0.2.1; omega), fo_yes k]
      rfl
theorem crem_is {p : Nat} : ∀ {r : Row}, (∀ e ∈ r, Sm e) → (r.map (·.1)).Nodup → crem r.length (code r) p = code (r.filter fun e => e.1 != p)
  | [], _, _ => rfl
  | e :: r, hs, nd => by
    have s0 := hs e List.mem_cons_self
    have nd' := List.nodup_cons.mp (show (e.1 :: r.map (·.1)).Nodup from nd)
    show cond (Nat.beq (code (e :: r) % 16 / 4) p) _ _ = _
    rw [code_mod s0, dg_per s0, beq_dec, code_div s0]
    by_cases c : e.1 = p
    · rw [decide_eq_true c, List.filter_cons_of_neg (by simpa using c)]
      show code r = _
      rw [List.filter_eq_self.mpr fun x hx => by
        have : x.1 ≠ p := fun z => nd'.1 (by rw [c, ← z]; exact List.mem_map_of_mem hx)
        simpa using this]
    · rw [decide_eq_false c, List.filter_cons_of_pos (by simpa using c), code_cons, ← crem_is (fun x hx => hs x (List.mem_cons_of_mem _ hx)) nd'.2]
      rfl
theorem code_inj : ∀ {r s : Row}, r.length = s.length → (∀ e ∈ r, Sm e) → (∀ e ∈ s, Sm e) → code r = code s → r = s
  | [], [], _, _, _, _ => rfl
  | [], _ :: _, h, _, _, _ => by simp at h
  | _ :: _, [], h, _, _, _ => by simp at h
  | e :: r, f :: s, h, h1, h2, q => by
    have a := h1 e List.mem_cons_self
    have b := h2 f List.mem_cons_self
    have q1 : dg e = dg f := by rw [← code_mod (r := r) a, ← code_mod (r := s) b, q]
    have q2 : code r = code s := by rw [← code_div (r := r) a, ← code_div (r := s) b, q]
    have e1 : e.1 = f.1 := by rw [← dg_per a, ← dg_per b, q1]
    have e2 : e.2 = f.2 := by
      have := dg_col a
      have := dg_col b
      obtain ⟨_, a1, a2⟩ := a
      obtain ⟨_, b1, b2⟩ := b
      rw [q1] at *
      omega
    rw [Prod.ext e1 e2, code_inj (by simpa using h) (fun x hx => h1 x (List.mem_cons_of_mem _ hx)) (fun x hx => h2 x (List.mem_cons_of_mem _ hx)) q2]
/-- small rows -/
structure Sr (n : Nat) (r : Row) : Prop where
  R : Rw n [97, 98, 99, 100] r
  n4 : n ≤ 4
theorem Sr.sm {n : Nat} {r : Row} (S : Sr n r) : ∀ e ∈ r, Sm e := fun e he => by
  have a := S.R.v.lt he
  have b := S.R.col e he
  have c := S.R.len
  have d := S.n4
  simp only [List.mem_cons, List.not_mem_nil, or_false] at b
  exact ⟨by omega, by omega, by omega⟩
theorem Sr.app {n : Nat} {r : Row} (S : Sr n r) {p : Nat} (h : p < n) : Sr n (LX.app r p) := ⟨S.R.app h, S.n4⟩
theorem code_app {n : Nat} {r : Row} (S : Sr n r) {p : Nat} (h : p < n) : code (LX.app r p) = cApp n (code r) p := by
  have hp : p < r.length := by rw [S.R.len]; exact h
  unfold cApp LX.app
  rw [code_cons, ← S.R.len, ccol_is S.sm (S.R.v.has hp), coth_is (S.R.v.colOf hp).1 S.sm, crem_is S.sm S.R.v.nodup]
  rfl
/-- the two searches go alike -/
structure Sim (n : Nat) (s : St2) (a : List Nat × Nat) : Prop where
  lay : a.1.reverse = s.1.map fun x => code x.1
  bit : ∀ t, Nat.testBit a.2 t = true ↔ ∃ x ∈ s.2, code x.1 = t
  ok : ∀ x ∈ s.2, Sr n x.1
theorem bit_or (m t u : Nat) : Nat.testBit (m ||| (1 <<< t)) u = (Nat.testBit m u || decide (u = t)) := by
  rw [Nat.testBit_or, Nat.one_shiftLeft, Nat.testBit_two_pow]
  congr 1
  rw [decide_eq_decide]
  exact eq_comm
theorem sim_add {n : Nat} {s : St2} {a : List Nat × Nat} (S : Sim n s a) {x : Pt} (hx : Sr n x.1) : Sim n (badd s x) (cadd a (code x.1)) := by
  have e : Nat.testBit a.2 (code x.1) = hasR s.2 x.1 := by
    rw [Bool.eq_iff_iff, S.bit, hasR_iff]
    constructor
    · rintro ⟨y, hy, q⟩
      exact ⟨y, hy, code_inj (by rw [(S.ok y hy).R.len, hx.R.len]) (S.ok y hy).sm hx.sm q⟩
    · rintro ⟨y, hy, q⟩
      exact ⟨y, hy, by rw [q]⟩
  unfold badd cadd
  rw [e]
  cases h : hasR s.2 x.1 with
  | true => exact S
  | false =>
    refine ⟨?_, fun t => ?_, fun y hy => ?_⟩
    · show (code x.1 :: a.1).reverse = (s.1 ++ [x]).map _
      rw [List.reverse_cons, S.lay, List.map_append]
      rfl
    · show Nat.testBit (a.2 ||| (1 <<< code x.1)) t = true ↔ ∃ y ∈ s.2 ++ [x], code y.1 = t
      rw [bit_or, Bool.or_eq_true, S.bit, decide_eq_true_iff]
      constructor
      · rintro (⟨y, hy, q⟩ | q)
        · exact ⟨y, List.mem_append_left _ hy, q⟩
        · exact ⟨x, List.mem_append_right _ List.mem_cons_self, q.symm⟩
      · rintro ⟨y, hy, q⟩
        rcases List.mem_append.mp hy with z | z
        · exact Or.inl ⟨y, z, q⟩
        · rw [List.mem_singleton.mp z] at q
          exact Or.inr q.symm
    · rcases List.mem_append.mp hy with z | z
      · exact S.ok y z
      · rw [List.mem_singleton.mp z]; exact hx
theorem sim_fold {n : Nat} : ∀ (cs : List Pt) {s : St2} {a : List Nat × Nat}, Sim n s a → (∀ x ∈ cs, Sr n x.1) → Sim n (cs.foldl badd s) ((cs.map fun x => code x.1).foldl cadd a)
  | [], s, a, S, _ => S
  | c :: cs, s, a, S, h => sim_fold cs (sim_add S (h c List.mem_cons_self)) fun x hx => h x (List.mem_cons_of_mem _ hx)
theorem sim_lay {n : Nat} {s : St2} {a : List Nat × Nat} (S : Sim n s a) (hs : ∀ x ∈ s.1, x ∈ s.2) : Sim n (blayer n s) (clay n a) := by
  have z : clay n a = ((cands n s.1).map fun x => code x.1).foldl cadd ([], a.2) := by
    unfold clay cands
    rw [S.lay]
    have key : ∀ (L : List Pt) (a : List Nat × Nat), (∀ x ∈ L, x ∈ s.2) → (L.map fun x => code x.1).foldl (fun a s => (List.range n).foldl (fun a p => cadd a (cApp n s p)) a) a = ((L.flatMap fun x => (List.range n).map fun p => (LX.app x.1 p, x.2 ++ [p])).map fun x => code x.1).foldl cadd a := by
      intro L
      induction L with
      | nil => intro a _; rfl
      | cons x L ih =>
        intro a h
        rw [List.map_cons, List.foldl_cons, List.flatMap_cons, List.map_append, List.foldl_append, ih _ fun y hy => h y (List.mem_cons_of_mem _ hy)]
        congr 1
        have S1 := S.ok x (h x List.mem_cons_self)
        rw [List.map_map, List.foldl_map]
        have : ∀ (ps : List Nat) (a : List Nat × Nat), (∀ p ∈ ps, p < n) → ps.foldl (fun a p => cadd a (cApp n (code x.1) p)) a = ps.foldl (fun a p => cadd a (((fun x : Pt => code x.1) ∘ fun p => (LX.app x.1 p, x.2 ++ [p])) p)) a := by
          intro ps
          induction ps with
          | nil => intro a _; rfl
          | cons p ps ih =>
            intro a hp
            rw [List.foldl_cons, List.foldl_cons, ih _ fun q hq => hp q (List.mem_cons_of_mem _ hq)]
            congr 2
            exact (code_app S1 (hp p List.mem_cons_self)).symm
        exact this _ _ fun p hp => List.mem_range.mp hp
    exact key s.1 _ hs
  rw [z]
  refine sim_fold _ ⟨rfl, S.bit, S.ok⟩ fun x hx => ?_
  obtain ⟨y, hy, hz⟩ := List.mem_flatMap.mp hx
  obtain ⟨p, hp, e⟩ := List.mem_map.mp hz
  rw [← e]
  exact (S.ok y (hs y hy)).app (List.mem_range.mp hp)
theorem sim_iter {n : Nat} {cs : List Nat} {r : Row} : ∀ (m k : Nat) {s : St2} {a : List Nat × Nat}, BI n cs r k s → Sim n s a → Sim n (biter n m s) (citer n m a)
  | 0, _, _, _, _, S => S
  | m + 1, k, s, a, B, S => sim_iter m (k + 1) B.step.1 (sim_lay S B.sub)
/-- the row of a pattern -/
def rowP : List Nat → Nat → Row
  | [], _ => []
  | c :: cs, i => (i, 97 + c) :: rowP cs (i + 1)
theorem code_rowP : ∀ (cs : List Nat) (i : Nat), code (rowP cs i) = codeP cs i
  | [], _ => rfl
  | c :: cs, i => by
    show dg (i, 97 + c) + 16 * code (rowP cs (i + 1)) = _
    rw [code_rowP cs (i + 1)]
    show i * 4 + (97 + c - 97) + _ = _
    rw [Nat.add_sub_cancel_left]
    rfl
theorem rowP_len : ∀ (cs : List Nat) (i : Nat), (rowP cs i).length = cs.length
  | [], _ => rfl
  | c :: cs, i => by rw [rowP, List.length_cons, List.length_cons, rowP_len cs (i + 1)]
theorem rowP_per : ∀ (cs : List Nat) (i : Nat), (rowP cs i).map (·.1) = List.range' i cs.length
  | [], _ => rfl
  | c :: cs, i => by rw [rowP, List.map_cons, rowP_per cs (i + 1), List.length_cons, List.range'_succ]
theorem rowP_col : ∀ (cs : List Nat) (i : Nat) (e : Nat × Nat), e ∈ rowP cs i → ∃ c ∈ cs, e.2 = 97 + c
  | [], _, e, h => by cases h
  | c :: cs, i, e, h => by
    rw [rowP] at h
    rcases List.mem_cons.mp h with z | z
    · exact ⟨c, List.mem_cons_self, by rw [z]⟩
    · obtain ⟨d, hd, q⟩ := rowP_col cs (i + 1) e z
      exact ⟨d, List.mem_cons_of_mem _ hd, q⟩
theorem rowP_ok {cs : List Nat} (h1 : 1 ≤ cs.length) (h2 : cs.length ≤ 4) (hc : ∀ c ∈ cs, c < 4) : Sr cs.length (rowP cs 0) := by
  have hl := rowP_len cs 0
  refine ⟨⟨⟨by omega, by omega, fun e he => ?_, ?_⟩, hl, fun e he => ?_⟩, h2⟩
  · obtain ⟨c, k, q⟩ := rowP_col cs 0 e he
    have := hc c k
    omega
  · rw [rowP_per, hl, List.range_eq_range']
  · obtain ⟨c, k, q⟩ := rowP_col cs 0 e he
    have := hc c k
    rw [q]
    simp only [List.mem_cons, List.not_mem_nil, or_false]
    omega
theorem pats_sm : ∀ cs ∈ pats, 1 ≤ cs.length ∧ cs.length ≤ 4 ∧ ∀ c ∈ cs, c < 4 := by decide +kernel
theorem pat_end {cs : List Nat} (h : cs ∈ pats) : (srch cs.length (rowP cs 0) 11).1 = [] := by
  obtain ⟨h1, h2, h3⟩ := pats_sm cs h
  have S := rowP_ok h1 h2 h3
  have g := pats_good cs h
  unfold good at g
  rw [← code_rowP] at g
  have sim := sim_iter 11 0 (a := ([code (rowP cs 0)], 1 <<< code (rowP cs 0))) (BI.start S.R) ⟨rfl, fun t => ?_, fun x hx => by rw [List.mem_singleton.mp hx]; exact S⟩
  · have e := List.isEmpty_iff.mp g
    have l := sim.lay
    rw [e] at l
    exact List.map_eq_nil_iff.mp l.symm
  · have := bit_or 0 (code (rowP cs 0)) t
    rw [Nat.zero_or, Nat.zero_testBit, Bool.false_or] at this
    show Nat.testBit (1 <<< code (rowP cs 0)) t = true ↔ _
    rw [this, decide_eq_true_iff]
    constructor
    · rintro rfl
      exact ⟨_, List.mem_cons_self, rfl⟩
    · rintro ⟨x, hx, q⟩
      rw [List.mem_singleton.mp hx] at q
      exact q.symm
end LQF

namespace LQF
open PySem L2 LX LQ
section
variable {f g : Nat → Nat} {n : Nat}
def ren (f g : Nat → Nat) (r : Row) : Row := r.map fun e => (f e.1, g e.2)
def Inj1 (f : Nat → Nat) (n : Nat) : Prop := ∀ a b, a < n → b < n → f a = f b → a = b
def InjC (g : Nat → Nat) : Prop := ∀ c d, 97 ≤ c ∧ c ≤ 122 → 97 ≤ d ∧ d ≤ 122 → g c = g d → c = d
theorem fo_ren (hg : InjC g) {c : Nat} (hc : 97 ≤ c ∧ c ≤ 122) : ∀ {r : Row}, Cok r → fo (ren f g r) (g c) = (fo r c).map g
  | [], _ => rfl
  | e :: r, h => by
    have ih := fo_ren hg hc (r := r) fun x hx => h x (List.mem_cons_of_mem _ hx)
    show fo ((f e.1, g e.2) :: ren f g r) (g c) = _
    by_cases k : e.2 = c
    · rw [fo_no k, fo_no (e := (f e.1, g e.2)) (by show g e.2 = g c; rw [k]), ih]
    · rw [fo_yes k, fo_yes (e := (f e.1, g e.2)) fun z => k (hg _ _ (h e List.mem_cons_self) hc z)]
      rfl
theorem colOf_ren (hf : Inj1 f n) {p : Nat} (hp : p < n) : ∀ {r : Row}, (∀ e ∈ r, e.1 < n) → (∃ e ∈ r, e.1 = p) → colOf (ren f g r) (f p) = g (colOf r p)
  | [], _, h => by
    obtain ⟨e, he, _⟩ := h
    cases he
  | e :: r, hl, h => by
    unfold colOf
    show ((List.find? (fun e => e.1 == f p) ((f e.1, g e.2) :: ren f g r)).map (·.2)).getD 0 = _
    by_cases k : e.1 = p
    · rw [List.find?_cons_of_pos (by simp [k]), List.find?_cons_of_pos (by simpa using k)]
      rfl
    · have nk : f e.1 ≠ f p := fun z => k (hf _ _ (hl e List.mem_cons_self) hp z)
      rw [List.find?_cons_of_neg (by simpa using nk), List.find?_cons_of_neg (by simpa using k)]
      refine colOf_ren hf hp (r := r) (fun x hx => hl x (List.mem_cons_of_mem _ hx)) ?_
      obtain ⟨x, hx, hq⟩ := h
      rcases List.mem_cons.mp hx with z | z
      · exact absurd (z ▸ hq) k
      · exact ⟨x, z, hq⟩
theorem filter_ren (hf : Inj1 f n) {p : Nat} (hp : p < n) : ∀ {r : Row}, (∀ e ∈ r, e.1 < n) → (ren f g r).filter (fun e => e.1 != f p) = ren f g (r.filter fun e => e.1 != p)
  | [], _ => rfl
  | e :: r, hl => by
    have ih := filter_ren hf hp (r := r) fun x hx => hl x (List.mem_cons_of_mem _ hx)
    show ((f e.1, g e.2) :: ren f g r).filter _ = _
    by_cases k : e.1 = p
    · rw [List.filter_cons_of_neg (by simp [k]), List.filter_cons_of_neg (by simpa using k), ih]
    · have nk : f e.1 ≠ f p := fun z => k (hf _ _ (hl e List.mem_cons_self) hp z)
      rw [List.filter_cons_of_pos (by simpa using nk), List.filter_cons_of_pos (by simpa using k), ih]
      rfl
theorem take_ren (hf : Inj1 f n) (hg : InjC g) {r : Row} (V0 : Vr r) (hn : r.length = n) {p : Nat} (hp : p < n) : fo (ren f g r) (colOf (ren f g r) (f p)) = (fo r (colOf r p)).map g := by
  have hl : ∀ e ∈ r, e.1 < n := fun e he => hn ▸ V0.lt he
  rw [colOf_ren hf hp hl (V0.has (hn ▸ hp)), fo_ren hg (V0.colOf (hn ▸ hp)) V0.col]
theorem app_ren (hf : Inj1 f n) (hg : InjC g) {r : Row} (V0 : Vr r) (hn : r.length = n) {p : Nat} (hp : p < n) : app (ren f g r) (f p) = ren f g (app r p) := by
  have hl : ∀ e ∈ r, e.1 < n := fun e he => hn ▸ V0.lt he
  unfold app
  rw [take_ren hf hg V0 hn hp, filter_ren hf hp hl, colOf_ren hf hp hl (V0.has (hn ▸ hp))]
  show _ = (f p, g ((fo r (colOf r p)).getD (colOf r p))) :: _
  cases fo r (colOf r p) <;> rfl
theorem apps_ren (hf : Inj1 f n) (hg : InjC g) : ∀ {cs : List Nat} {r : Row}, Vr r → r.length = n → (∀ p ∈ cs, p < n) → apps (ren f g r) (cs.map f) = ren f g (apps r cs) ∧ takens (ren f g r) (cs.map f) = (takens r cs).map (Option.map g)
  | [], _, _, _, _ => ⟨rfl, rfl⟩
  | p :: cs, r, V0, hn, h => by
    have hp := h p List.mem_cons_self
    have hp2 : p < r.length := by rw [hn]; exact hp
    obtain ⟨h1, h2⟩ := apps_ren hf hg (cs := cs) (V0.app hp2) ((app_len V0 hp2).trans hn) fun q hq => h q (List.mem_cons_of_mem _ hq)
    have e := app_ren hf hg V0 hn hp
    constructor
    · show apps (app (ren f g r) (f p)) (cs.map f) = ren f g (apps (app r p) cs)
      rw [e, h1]
    · show fo (ren f g r) (colOf (ren f g r) (f p)) :: takens (app (ren f g r) (f p)) (cs.map f) = ((fo r (colOf r p)) :: takens (app r p) cs).map (Option.map g)
      rw [e, h2, take_ren hf hg V0 hn hp]
      rfl
theorem ren_len (r : Row) : (ren f g r).length = r.length := List.length_map _
end
end LQF

namespace LQF
open PySem L2 LX LQ
theorem ten_canon {cs : List Nat} (h : cs ∈ pats) : Ten cs.length (rowP cs 0) := by
  obtain ⟨h1, h2, h3⟩ := pats_sm cs h
  have S := rowP_ok h1 h2 h3
  have B := srch_ok S.R 11
  have e := pat_end h
  have all : ∀ (k : Nat) (w : List Nat), w.length = k → (∀ p ∈ w, p < cs.length) → hasR (srch cs.length (rowP cs 0) 11).2 (apps (rowP cs 0) w) = true := by
    intro k
    induction k with
    | zero =>
      intro w hk _
      rw [List.length_eq_zero_iff.mp hk]
      exact B.far [] (Nat.zero_le _) fun p hp => nomatch hp
    | succ k ih =>
      intro w hk hp
      obtain ⟨w', p, rfl⟩ : ∃ w' p, w = w' ++ [p] := by
        rcases List.eq_nil_or_concat w with z | ⟨w', p, z⟩
        · rw [z] at hk
          cases hk
        · exact ⟨w', p, by rw [z, List.concat_eq_append]⟩
      rw [List.length_append] at hk
      obtain ⟨y, hy, ey⟩ := hasR_iff.mp (ih w' (by simpa using hk) fun q hq => hp q (List.mem_append_left _ hq))
      rw [apps_snoc, ← ey]
      rcases B.old y hy with z | z
      · rw [e] at z; cases z
      · exact z p (hp p (List.mem_append_right _ List.mem_cons_self))
  intro w hw
  obtain ⟨y, hy, ey⟩ := hasR_iff.mp (all _ w rfl hw)
  obtain ⟨c1, c2, c3⟩ := B.cal y hy
  exact ⟨y.2, c1, c2, by rw [c3, ey]⟩
theorem ren_inj {f g : Nat → Nat} {n : Nat} (hf : Inj1 f n) (hg : InjC g) : ∀ {r s : Row}, (∀ e ∈ r, e.1 < n ∧ 97 ≤ e.2 ∧ e.2 ≤ 122) → (∀ e ∈ s, e.1 < n ∧ 97 ≤ e.2 ∧ e.2 ≤ 122) → ren f g r = ren f g s → r = s
  | [], [], _, _, _ => rfl
  | [], _ :: _, _, _, h => by simp [ren] at h
  | _ :: _, [], _, _, h => by simp [ren] at h
  | e :: r, x :: s, h1, h2, h => by
    have h : (f e.1, g e.2) :: ren f g r = (f x.1, g x.2) :: ren f g s := h
    injection h with a b
    injection a with a1 a2
    obtain ⟨p1, p2⟩ := h1 e List.mem_cons_self
    obtain ⟨q1, q2⟩ := h2 x List.mem_cons_self
    rw [Prod.ext (hf _ _ p1 q1 a1) (hg _ _ p2 q2 a2), ren_inj hf hg (fun y hy => h1 y (List.mem_cons_of_mem _ hy)) (fun y hy => h2 y (List.mem_cons_of_mem _ hy)) b]
/-- the pattern of a list -/
def pat (cs : List Nat) : List Nat := cs.map fun c => (dd cs).idxOf c
theorem pat_mem : ∀ {cs : List Nat}, 1 ≤ cs.length → cs.length ≤ 4 → pat cs ∈ pats
  | [], h, _ => by simp at h
  | [a], _, _ => by simp [pat, dd, pats, List.idxOf_cons]
  | [a, b], _, _ => by
    by_cases hba : b = a <;> (first | have gba : (a == b) = false := beq_eq_false_iff_ne.mpr (Ne.symm hba) | skip) <;> (try subst_vars) <;> first | (exfalso; simp_all; done) | (simp [pat, dd, pats, List.idxOf_cons, *]; done)
  | [a, b, c], _, _ => by
    by_cases hba : b = a <;> by_cases hca : c = a <;> by_cases hcb : c = b <;> (first | have gba : (a == b) = false := beq_eq_false_iff_ne.mpr (Ne.symm hba) | skip) <;> (first | have gca : (a == c) = false := beq_eq_false_iff_ne.mpr (Ne.symm hca) | skip) <;> (first | have gcb : (b == c) = false := beq_eq_false_iff_ne.mpr (Ne.symm hcb) | skip) <;> (try subst_vars) <;> first | (exfalso; simp_all; done) | (simp [pat, dd, pats, List.idxOf_cons, *]; done)
  | [a, b, c, d], _, _ => by
    by_cases hba : b = a <;> by_cases hca : c = a <;> by_cases hcb : c = b <;> by_cases hda : d = a <;> by_cases hdb : d = b <;> by_cases hdc : d = c <;> (first | have gba : (a == b) = false := beq_eq_false_iff_ne.mpr (Ne.symm hba) | skip) <;> (first | have gca : (a == c) = false := beq_eq_false_iff_ne.mpr (Ne.symm hca) | skip) <;> (first | have gcb : (b == c) = false := beq_eq_false_iff_ne.mpr (Ne.symm hcb) | skip) <;> (first | have gda : (a == d) = false := beq_eq_false_iff_ne.mpr (Ne.symm hda) | skip) <;> (first | have gdb : (b == d) = false := beq_eq_false_iff_ne.mpr (Ne.symm hdb) | skip) <;> (first | have gdc : (c == d) = false := beq_eq_false_iff_ne.mpr (Ne.symm hdc) | skip) <;> (try subst_vars) <;> first | (exfalso; simp_all; done) | (simp [pat, dd, pats, List.idxOf_cons, *]; done)
  | a :: b :: c :: d :: e :: l, _, h => by simp at h
def lets (cs : List Nat) : List Nat := dd cs ++ ((List.range 26).map (97 + ·)).filter fun c => !decide (c ∈ cs)
theorem lets_all {cs : List Nat} {c : Nat} (h : 97 ≤ c ∧ c ≤ 122) : c ∈ lets cs := by
  unfold lets
  by_cases k : c ∈ cs
  · exact List.mem_append_left _ (mem_dd.mpr k)
  · refine List.mem_append_right _ (List.mem_filter.mpr ⟨List.mem_map.mpr ⟨c - 97, List.mem_range.mpr (by omega), by omega⟩, by simpa using k⟩)
theorem lets_inj (cs : List Nat) : InjC fun c => 97 + (lets cs).idxOf c := fun c d hc hd h => by
  have h : (lets cs).idxOf c = (lets cs).idxOf d := by
    have : 97 + (lets cs).idxOf c = 97 + (lets cs).idxOf d := h
    omega
  have l1 := List.idxOf_lt_length_of_mem (lets_all (cs := cs) hc)
  have l2 := List.idxOf_lt_length_of_mem (lets_all (cs := cs) hd)
  have e1 : (lets cs)[(lets cs).idxOf c] = c := List.getElem_idxOf l1
  have e2 : (lets cs)[(lets cs).idxOf d] = d := List.getElem_idxOf l2
  calc c = (lets cs)[(lets cs).idxOf c] := e1.symm
    _ = (lets cs)[(lets cs).idxOf d] := by simp only [h]
    _ = d := e2
theorem rowP_at {cs : List Nat} : ∀ {i j : Nat}, j < cs.length → (rowP cs i)[j]? = (cs[j]?).map fun c => (i + j, 97 + c) := by
  induction cs with
  | nil => intro i j h; simp at h
  | cons c cs ih =>
    intro i j h
    cases j with
    | zero => rfl
    | succ j =>
      rw [rowP, List.getElem?_cons_succ, ih (by simpa using h), List.getElem?_cons_succ]
      cases cs[j]? with
      | none => rfl
      | some x =>
        show some (i + 1 + j, 97 + x) = some (i + (j + 1), 97 + x)
        rw [show i + 1 + j = i + (j + 1) by omega]
theorem ten_all {n : Nat} {cs : List Nat} {r : Row} (R : Rw n cs r) (hn : n ≤ 4) : Ten n r := by
  have len := R.len
  have hl : (r.map (·.2)).length = n := by rw [List.length_map]; exact len
  have n1 := R.v.n1
  have pm := pat_mem (cs := r.map (·.2)) (by omega) (by omega)
  have pl : (pat (r.map (·.2))).length = n := by unfold pat; rw [List.length_map]; exact hl
  have T := ten_canon pm
  rw [pl] at T
  let f : Nat → Nat := fun p => (r.map (·.1)).idxOf p
  let g : Nat → Nat := fun c => 97 + (lets (r.map (·.2))).idxOf c
  have pmem : ∀ p, p < n → p ∈ r.map (·.1) := fun p hp => R.v.perm.mem_iff.mpr (List.mem_range.mpr (by omega))
  have fl : ∀ p, p < n → f p < n := fun p hp => by
    have := List.idxOf_lt_length_of_mem (pmem p hp)
    rw [List.length_map] at this
    show List.idxOf p (r.map (·.1)) < n
    omega
  have fi : Inj1 f n := fun a b ha hb h => by
    have h : (r.map (·.1)).idxOf a = (r.map (·.1)).idxOf b := h
    have e1 := List.getElem_idxOf (List.idxOf_lt_length_of_mem (pmem a ha))
    have e2 := List.getElem_idxOf (List.idxOf_lt_length_of_mem (pmem b hb))
    calc a = (r.map (·.1))[(r.map (·.1)).idxOf a]'(List.idxOf_lt_length_of_mem (pmem a ha)) := e1.symm
      _ = (r.map (·.1))[(r.map (·.1)).idxOf b]'(List.idxOf_lt_length_of_mem (pmem b hb)) := by simp only [h]
      _ = b := e2
  have gi : InjC g := lets_inj _
  have can : ren f g r = rowP (pat (r.map (·.2))) 0 := by
    apply List.ext_getElem?
    intro j
    by_cases c : j < n
    · have hj : r[j]? = some (r[j]'(by omega)) := List.getElem?_eq_getElem _
      rw [rowP_at (by rw [pl]; exact c)]
      unfold ren pat
      rw [List.getElem?_map, List.getElem?_map, List.getElem?_map, hj]
      show some (f (r[j]'(by omega)).1, g (r[j]'(by omega)).2) = some _
      congr 2
      · show List.idxOf (r[j]'(by omega)).1 (r.map (·.1)) = 0 + j
        have := List.Nodup.idxOf_getElem R.v.nodup j (by rw [List.length_map]; omega)
        rw [List.getElem_map] at this
        omega
      · show 97 + List.idxOf (r[j]'(by omega)).2 (lets (r.map (·.2))) = _
        unfold lets
        rw [List.idxOf_append, if_pos (mem_dd.mpr (List.mem_map_of_mem (List.getElem_mem _)))]
    · rw [List.getElem?_eq_none (by rw [ren_len]; omega), List.getElem?_eq_none (by rw [rowP_len, pl]; omega)]
  intro w hw
  have a1 := (apps_ren fi gi R.v len hw).1
  rw [can] at a1
  obtain ⟨w2, k1, k2, k3⟩ := T (w.map f) fun q hq => by
    obtain ⟨p, hp, rfl⟩ := List.mem_map.mp hq
    exact fl p (hw p hp)
  let h : Nat → Nat := fun i => (r.map (·.1))[i]?.getD 0
  have hr : ∀ i, i < n → h i < n ∧ f (h i) = i := fun i hi => by
    have li : i < (r.map (·.1)).length := by rw [List.length_map]; omega
    have e : h i = (r.map (·.1))[i] := by
      show ((r.map (·.1))[i]?).getD 0 = _
      rw [List.getElem?_eq_getElem li]
      rfl
    rw [e]
    refine ⟨?_, List.Nodup.idxOf_getElem R.v.nodup i li⟩
    have := R.v.perm.mem_iff.mp (List.getElem_mem li)
    have := List.mem_range.mp this
    omega
  have hw2 : ∀ p ∈ w2.map h, p < n := fun q hq => by
    obtain ⟨p, hp, rfl⟩ := List.mem_map.mp hq
    exact (hr p (k2 p hp)).1
  have e2 : (w2.map h).map f = w2 := by
    rw [List.map_map]
    have : ∀ i ∈ w2, (f ∘ h) i = i := fun i hi => (hr i (k2 i hi)).2
    rw [List.map_congr_left this, List.map_id']
  have a2 := (apps_ren fi gi R.v len hw2).1
  rw [can, e2, k3, a1] at a2
  refine ⟨w2.map h, by rw [List.length_map]; exact k1, hw2, ?_⟩
  have dom : ∀ w : List Nat, (∀ p ∈ w, p < n) → ∀ e ∈ apps r w, e.1 < n ∧ 97 ≤ e.2 ∧ e.2 ≤ 122 := fun w hw e he => by
    have R2 := R.apps hw
    have := R2.v.lt he
    rw [R2.len] at this
    exact ⟨this, R2.v.col e he⟩
  exact (ren_inj fi gi (dom w hw) (dom _ hw2) a2).symm
theorem srch_stop {n : Nat} {cs : List Nat} {r : Row} (R : Rw n cs r) (hn : n ≤ 4) : (srch n r 12).1 = [] := srch_end R (ten_all R hn)
end LQF

namespace LQF
open PySem L2 LX LQ
theorem loop_sim {S T A B : Type} {E : S → T} {d : B → A} {f : A → T → Option T} {g : S → B → S} (I : S → Prop) : ∀ (l : List B) (s : S), (∀ b ∈ l, ∀ s, I s → f (d b) (E s) = some (E (g s b)) ∧ I (g s b)) → I s → loopF f (l.map d) (E s) = some (E (l.foldl g s)) ∧ I (l.foldl g s)
  | [], s, _, hi => ⟨rfl, hi⟩
  | b :: l, s, h, hi => by
    obtain ⟨h1, h2⟩ := h b List.mem_cons_self s hi
    obtain ⟨h3, h4⟩ := loop_sim I l (g s b) (fun c hc => h c (List.mem_cons_of_mem _ hc)) h2
    refine ⟨?_, h4⟩
    rw [List.map_cons]
    exact be h1 h3
theorem eRow_inj {a b : Nat × Nat} (h : eRow a = eRow b) : a = b := by
  have h1 : (a.1 : Int) = b.1 := congrArg Prod.fst h
  have h2 : lt a.2 = lt b.2 := congrArg Prod.snd h
  exact Prod.ext (by omega) (lt_inj.mp h2)
theorem enc_inj : ∀ {a b : Row}, enc a = enc b → a = b
  | [], [], _ => rfl
  | [], _ :: _, h => by cases h
  | _ :: _, [], h => by cases h
  | x :: a, y :: b, h => by
    have h : eRow x :: enc a = eRow y :: enc b := h
    injection h with h1 h2
    rw [eRow_inj h1, enc_inj h2]
theorem m_called {r : Row} (V : Vr r) {p : Nat} (h : p < r.length) : F__law_called (enc r) (p : Int) = some (enc (LX.app r p)) := by
  have n2 := V.n2
  unfold F__law_called
  have d1 : ∀ e : Nat × Nat, decide ((eRow e).1 = (p : Int)) = (e.1 == p) := fun e => by
    rw [Bool.eq_iff_iff]
    simp
    omega
  refine be (compL_filt (q := fun a : Int × Str => decide (a.1 = (p : Int))) (g := fun a => a.2) (by rw [enc_len]; unfold LIM; omega) (fun x _ => by cases c : decide (x.1 = (p : Int)) <;> simp)) ?_
  have e1 : ((enc r).filter fun a : Int × Str => decide (a.1 = (p : Int))).map (fun a => a.2) = (r.filter fun e => e.1 == p).map fun e => lt e.2 := by
    show ((r.map eRow).filter _).map _ = _
    rw [List.filter_map, List.map_map]
    congr 1
    exact List.filter_congr fun e _ => d1 e
  rw [e1]
  have own : ∃ l, (r.filter fun e => e.1 == p) = (p, colOf r p) :: l := by
    have := colOf_mem V h
    cases q : r.filter fun e => e.1 == p with
    | nil =>
      have : (p, colOf r p) ∈ r.filter fun e => e.1 == p := List.mem_filter.mpr ⟨this, by simp⟩
      rw [q] at this
      cases this
    | cons e l =>
      have he : e ∈ r.filter fun e => e.1 == p := by rw [q]; exact List.mem_cons_self
      obtain ⟨e1, e2⟩ := List.mem_filter.mp he
      have e2 : e.1 = p := by simpa using e2
      have : colOf r p = e.2 := by
        unfold colOf
        have : r.find? (fun e => e.1 == p) = some e := by
          rw [← List.head?_filter, q]
          rfl
        rw [this]
        rfl
      exact ⟨l, by rw [this, ← e2]⟩
  obtain ⟨l, hl⟩ := own
  rw [hl]
  refine be (ix_nat (i := 0) (x := lt (colOf r p)) rfl) ?_
  refine be (compL_filt (q := fun a : Int × Str => !decide (a.2 = lt (colOf r p))) (g := fun a => a.2) (by rw [enc_len]; unfold LIM; omega) (fun x _ => by cases c : decide (x.2 = lt (colOf r p)) <;> simp)) ?_
  have e3 : ((enc r).filter fun a : Int × Str => !decide (a.2 = lt (colOf r p))).map (fun a => a.2) = (r.filter fun e => e.2 != colOf r p).map fun e => lt e.2 := by
    show ((r.map eRow).filter _).map _ = _
    rw [List.filter_map, List.map_map]
    congr 1
    refine List.filter_congr fun e _ => ?_
    show (!decide (lt e.2 = lt (colOf r p))) = (e.2 != colOf r p)
    rw [lt_dec]
    by_cases c : e.2 = colOf r p <;> simp [c]
  rw [e3]
  have fl : (r.filter fun e => e.2 != colOf r p).length ≤ r.length := List.length_filter_le _ _
  refine be (catF_ok (by rw [List.length_map]; show _ + 1 ≤ LIM; unfold LIM; omega)) ?_
  have e4 : ix ((r.filter fun e => e.2 != colOf r p).map (fun e => lt e.2) ++ [lt (colOf r p)]) (0 : Int) = some (lt ((fo r (colOf r p)).getD (colOf r p))) := by
    refine ix_nat (i := 0) ?_
    unfold fo
    rw [← List.head?_filter]
    cases r.filter fun e => e.2 != colOf r p <;> rfl
  refine be e4 ?_
  refine be (compL_filt (q := fun a : Int × Str => !decide (a.1 = (p : Int))) (g := fun a => a) (by rw [enc_len]; unfold LIM; omega) (fun x _ => by cases c : decide (x.1 = (p : Int)) <;> simp)) ?_
  rw [List.map_id']
  have ef : (enc r).filter (fun a : Int × Str => !decide (a.1 = (p : Int))) = enc (r.filter fun e => e.1 != p) := by
    show (r.map eRow).filter _ = List.map _ (r.filter _)
    rw [List.filter_map]
    congr 1
    refine List.filter_congr fun e _ => ?_
    show (!decide ((eRow e).1 = (p : Int))) = (e.1 != p)
    rw [d1 e]
    rfl
  rw [ef]
  have fl2 : (r.filter fun e => e.1 != p).length ≤ r.length := List.length_filter_le _ _
  refine be (catF_ok (by rw [enc_len]; show 1 + _ ≤ LIM; unfold LIM; omega)) ?_
  rfl
/-! the two dicts -/
def key (r : Row) : Str := PyData.shown (eL (eT2 eI eS) (enc r))
def encW (f : List Pt) : List (List (Int × Str) × List Int) := f.map fun x => (enc x.1, nI x.2)
def encL (f : List Pt) : List (Str × (List (Int × Str) × List Int)) := f.map fun x => (key x.1, (enc x.1, nI x.2))
section
variable {κ α : Type} [DecidableEq κ] {kf : Row → κ} {vf : Pt → α}
theorem dget_enc {f : List Pt} (nd : (f.map (·.1)).Nodup) (inj : ∀ a ∈ f, ∀ b ∈ f, kf a.1 = kf b.1 → a.1 = b.1) {x : Pt} (hx : x ∈ f) : dget (f.map fun y => (kf y.1, vf y)) (kf x.1) = some (vf x) := by
  unfold dget
  induction f with
  | nil => cases hx
  | cons y f ih =>
    have nd' := List.nodup_cons.mp (show (y.1 :: f.map (·.1)).Nodup from nd)
    rw [List.map_cons]
    by_cases c : kf y.1 = kf x.1
    · rw [List.find?_cons_of_pos (by simpa using c)]
      have e := inj y List.mem_cons_self x hx c
      rcases List.mem_cons.mp hx with z | z
      · rw [z]; rfl
      · exact absurd (by rw [e]; exact List.mem_map_of_mem z) nd'.1
    · rw [List.find?_cons_of_neg (by simpa using c)]
      rcases List.mem_cons.mp hx with z | z
      · exact absurd (by rw [z]) c
      · exact ih nd'.2 (fun a ha b hb => inj a (List.mem_cons_of_mem _ ha) b (List.mem_cons_of_mem _ hb)) z
theorem dhas_enc {f : List Pt} {r : Row} (inj : ∀ a ∈ f, kf a.1 = kf r → a.1 = r) : dhas (f.map fun y => (kf y.1, vf y)) (kf r) = hasR f r := by
  unfold dhas dget
  rw [Option.isSome_map, Bool.eq_iff_iff, List.find?_isSome, hasR_iff]
  constructor
  · rintro ⟨p, hp, e⟩
    obtain ⟨y, hy, rfl⟩ := List.mem_map.mp hp
    exact ⟨y, hy, inj y hy (by simpa using e)⟩
  · rintro ⟨y, hy, e⟩
    exact ⟨_, List.mem_map_of_mem hy, by simp [e]⟩
theorem dput_new {l : List (κ × α)} {k : κ} {x : α} (h : dhas l k = false) (z : l.length < LIM) : dputF l k x = some (l ++ [(k, x)]) := by
  unfold dputF
  rw [decide_eq_true z]
  show some (dput l k x) = _
  unfold dput
  have : (l.any fun p => decide (p.1 = k)) = false := by
    unfold dhas dget at h
    rw [Option.isSome_map] at h
    rw [Bool.eq_false_iff]
    intro q
    rw [List.any_eq_true] at q
    rw [List.find?_isSome.mpr q] at h
    cases h
  rw [if_neg (by rw [this]; decide)]
end
/-- what the searches keep within a layer -/
structure JI (n : Nat) (cs : List Nat) (L : List Pt) (s : St2) : Prop where
  row : ∀ y ∈ s.2, Rw n cs y.1
  nd : (s.2.map (·.1)).Nodup
  len : s.1.length ≤ s.2.length
  lay : ∀ y ∈ L, y ∈ s.2 ∧ y.2.length ≤ 200
theorem JI.add {n : Nat} {cs : List Nat} {L : List Pt} {s : St2} (J : JI n cs L s) {x : Pt} (hx : x ∈ L) {p : Nat} (hp : p < n) : JI n cs L (badd s (LX.app x.1 p, x.2 ++ [p])) := by
  unfold badd
  by_cases h : hasR s.2 (LX.app x.1 p) = true
  · rw [if_pos h]
    exact J
  · rw [if_neg h]
    refine ⟨fun y hy => ?_, ?_, ?_, fun y hy => ⟨List.mem_append_left _ (J.lay y hy).1, (J.lay y hy).2⟩⟩
    · rcases List.mem_append.mp hy with z | z
      · exact J.row y z
      · rw [List.mem_singleton.mp z]
        exact (J.row x (J.lay x hx).1).app hp
    · show ((s.2 ++ [_]).map _).Nodup
      rw [List.map_append]
      refine List.nodup_append.mpr ⟨J.nd, List.nodup_cons.mpr ⟨List.not_mem_nil, List.nodup_nil⟩, fun a ha b hb z => ?_⟩
      obtain ⟨y, hy, e⟩ := List.mem_map.mp ha
      rw [List.map_singleton, List.mem_singleton] at hb
      exact h (hasR_iff.mpr ⟨y, hy, by rw [e, z, hb]⟩)
    · show (s.1 ++ [_]).length ≤ (s.2 ++ [_]).length
      have := J.len
      rw [List.length_append, List.length_append]
      simp
      omega
theorem BI.ji {n : Nat} {cs : List Nat} {r : Row} {k : Nat} {s : St2} (B : BI n cs r k s) (hk : k ≤ 200) : JI n cs s.1 ([], s.2) :=
  ⟨B.row, B.nd, Nat.zero_le _, fun y hy => ⟨B.sub y hy, by rw [B.new y hy]; exact hk⟩⟩
theorem blayer_fold (n : Nat) (s : St2) : blayer n s = s.1.foldl (fun s x => (List.range n).foldl (fun s p => badd s (LX.app x.1 p, x.2 ++ [p])) s) ([], s.2) := by
  unfold blayer cands
  generalize (([], s.2) : St2) = t
  induction s.1 generalizing t with
  | nil => rfl
  | cons x L ih =>
    rw [List.flatMap_cons, List.foldl_append, List.foldl_cons, ih, List.foldl_map]
theorem nI_app (w : List Nat) (p : Nat) : nI (w ++ [p]) = nI w ++ [(p : Int)] := by unfold nI; rw [List.map_append]; rfl
abbrev TP := List (List (Int × Str)) × List (List (Int × Str) × List Int)
def stP (cur : List (Int × Str)) (p : Int) (s : TP) : Option TP := (F_apply_call cur p).bind fun y => cond (!(dhas s.2 y.1)) ((dget s.2 cur).bind fun c => (catF c [p]).bind fun c2 => (dputF s.2 y.1 c2).bind fun l => (appF s.1 y.1).bind fun l2 => some (l2, l)) (some (s.1, s.2))
def curP (n : Int) (cur : List (Int × Str)) (s : TP) : Option TP := (rngF (0 : Int) n).bind fun l => (loopF (stP cur) l (s.1, s.2)).bind fun r => some (r.1, r.2)
def layP (n : Int) (s : TP) : Option TP := (loopF (curP n) s.1 (([] : List (List (Int × Str))), s.2)).bind fun r => some (r.1, r.2)
theorem all_is (x : List (Int × Str)) : F_shortest_calls_to_all x = (whileF (fun s : TP => some (!s.1.isEmpty)) (layP (lenI x)) fuelW ([x], [(x, ([] : List Int))])).bind fun r => some r.2 := rfl
def eP (t : St2) : TP := (t.1.map (fun x => enc x.1), encW t.2)
theorem m_stP {n : Nat} {cs : List Nat} (hn : n ≤ 4) (hc : cs.length ≤ 4) {L : List Pt} {u : St2} (J : JI n cs L u) {x : Pt} (hx : x ∈ L) {p : Nat} (pn : p < n) : stP (enc x.1) (p : Int) (eP u) = some (eP (badd u (LX.app x.1 p, x.2 ++ [p]))) := by
  obtain ⟨xm, xl⟩ := J.lay x hx
  have R := J.row x xm
  have bd := rows_le hn hc J.row J.nd
  unfold stP
  refine be (m_apply R.v (by rw [R.len]; exact pn)) ?_
  have hh : dhas (encW u.2) (enc (LX.app x.1 p)) = hasR u.2 (LX.app x.1 p) := dhas_enc (kf := enc) fun a _ h => enc_inj h
  show cond (!dhas (encW u.2) (enc (LX.app x.1 p))) _ _ = _
  rw [hh]
  unfold badd
  cases h : hasR u.2 (LX.app x.1 p) with
  | true => rfl
  | false =>
    rw [if_neg (by decide)]
    show Option.bind (dget (encW u.2) (enc x.1)) _ = _
    refine be (x := nI x.2) (dget_enc (kf := enc) (vf := fun y => nI y.2) J.nd (fun a _ b _ h => enc_inj h) xm) ?_
    refine be (catF_ok (by show (nI x.2).length + 1 ≤ LIM; unfold nI LIM; rw [List.length_map]; omega)) ?_
    show Option.bind (dputF (encW u.2) _ _) _ = _
    refine be (dput_new (by rw [hh]; exact h) (by unfold encW LIM; rw [List.length_map]; omega)) ?_
    show Option.bind (appF (u.1.map fun x => enc x.1) _) _ = _
    refine be (appF_ok (by have := J.len; rw [List.length_map]; unfold LIM; omega)) ?_
    unfold eP encW
    rw [List.map_append, List.map_append]
    show some (_, _ ++ [(enc (LX.app x.1 p), nI x.2 ++ [(p : Int)])]) = some (_, _ ++ [(enc (LX.app x.1 p), nI (x.2 ++ [p]))])
    rw [nI_app]
    rfl
theorem m_curP {n : Nat} {cs : List Nat} (hn : n ≤ 4) (hc : cs.length ≤ 4) {L : List Pt} {u : St2} (J : JI n cs L u) {x : Pt} (hx : x ∈ L) : curP (n : Int) (enc x.1) (eP u) = some (eP ((List.range n).foldl (fun s p => badd s (LX.app x.1 p, x.2 ++ [p])) u)) ∧ JI n cs L ((List.range n).foldl (fun s p => badd s (LX.app x.1 p, x.2 ++ [p])) u) := by
  have q := loop_sim (E := eP) (d := fun p : Nat => (p : Int)) (g := fun s p => badd s (LX.app x.1 p, x.2 ++ [p])) (f := stP (enc x.1)) (JI n cs L) (List.range n) u (fun p hp u Ju => ⟨m_stP hn hc Ju hx (List.mem_range.mp hp), Ju.add hx (List.mem_range.mp hp)⟩) J
  refine ⟨?_, q.2⟩
  unfold curP
  refine be (rngF_ok (by decide) (by decide) (by omega) (by omega)) ?_
  rw [rgI_nat]
  exact be q.1 rfl
theorem m_layP {n : Nat} {cs : List Nat} (hn : n ≤ 4) (hc : cs.length ≤ 4) {s : St2} (J : JI n cs s.1 ([], s.2)) : layP (n : Int) (eP s) = some (eP (blayer n s)) := by
  rw [blayer_fold]
  have q := loop_sim (E := eP) (d := fun x : Pt => enc x.1) (g := fun s x => (List.range n).foldl (fun s p => badd s (LX.app x.1 p, x.2 ++ [p])) s) (f := curP (n : Int)) (JI n cs s.1) s.1 ([], s.2) (fun x hx t Jt => m_curP hn hc Jt hx) J
  exact be q.1 rfl
theorem m_whileP {n : Nat} {cs : List Nat} {r : Row} (hn : n ≤ 4) (hc : cs.length ≤ 4) : ∀ (m k : Nat) (s : St2) (fuel : Nat), BI n cs r k s → k + m ≤ 100 → m < fuel → (biter n m s).1 = [] → whileF (fun s : TP => some (!s.1.isEmpty)) (layP (n : Int)) fuel (eP s) = some (eP (biter n m s))
  | m, k, (a, b), 0, _, _, h, _ => absurd h (Nat.not_lt_zero _)
  | m, k, ([], b), fuel + 1, _, _, _, _ => by
    rw [biter_nil]
    show Option.bind (some false) _ = _
    rfl
  | 0, k, (x :: L, b), fuel + 1, _, _, _, h => by cases h
  | m + 1, k, (x :: L, b), fuel + 1, B, hk, hf, he => by
    have w : ∀ s : TP, s.1.isEmpty = false → whileF (fun s : TP => some (!s.1.isEmpty)) (layP (n : Int)) (fuel + 1) s = (layP (n : Int) s).bind (whileF (fun s : TP => some (!s.1.isEmpty)) (layP (n : Int)) fuel) := fun s hs => by
      show Option.bind (some (!s.1.isEmpty)) _ = _
      rw [hs]
      rfl
    rw [w (eP (x :: L, b)) rfl, m_layP hn hc (B.ji (by omega))]
    show whileF _ _ fuel _ = _
    exact m_whileP hn hc m (k + 1) (blayer n (x :: L, b)) fuel B.step.1 (by omega) (by omega) he
theorem m_all {n : Nat} {cs : List Nat} {r : Row} (R : Rw n cs r) (hn : n ≤ 4) (hc : cs.length ≤ 4) : F_shortest_calls_to_all (enc r) = some (encW (srch n r 12).2) := by
  have len : lenI (enc r) = (n : Int) := by unfold lenI; rw [enc_len, R.len]
  have fw : 12 < fuelW := by unfold fuelW; omega
  have q := m_whileP (cs := cs) (r := r) hn hc 12 0 ([(r, [])], [(r, [])]) fuelW (BI.start R) (by omega) fw (srch_stop R hn)
  rw [all_is, len]
  generalize fuelW = fuel at q
  have e : (([enc r], [(enc r, ([] : List Int))]) : TP) = eP ([(r, [])], [(r, [])]) := rfl
  rw [e, q]
  unfold srch
  generalize biter n 12 ([(r, [])], [(r, [])]) = z
  rfl
end LQF

namespace LQF
open PySem L2 LX LQ
abbrev rpr (d : PyData) : Option Str := reprF d
theorem m_rpr {r : Row} (V : Vr r) : rpr (eL (eT2 eI eS) (enc r)) = some (key r) := m_repr (sh_enc V) (by decide) (by decide)
end LQF

namespace LQF
open PySem L2 LX LQ
abbrev TL := List (List (Int × Str) × List Int) × List (Str × (List (Int × Str) × List Int))
def stL (cur : List (Int × Str) × List Int) (p : Int) (s : TL) : Option TL := (F__law_called cur.1 p).bind fun y => (rpr ((eL (eT2 eI eS)) y)).bind fun k => cond (!(dhas s.2 k)) ((catF cur.2 [p]).bind fun c => (rpr ((eL (eT2 eI eS)) y)).bind fun k2 => (dputF s.2 k2 (y, c)).bind fun l => (rpr ((eL (eT2 eI eS)) y)).bind fun k3 => (dget l k3).bind fun v => (appF s.1 v).bind fun l2 => some (l2, l)) (some (s.1, s.2))
def curL (n : Int) (cur : List (Int × Str) × List Int) (s : TL) : Option TL := (rngF (0 : Int) n).bind fun l => (loopF (stL cur) l (s.1, s.2)).bind fun r => some (r.1, r.2)
def layL (n : Int) (_ : Int) (s : TL) : Option TL := (loopF (curL n) s.1 (([] : List (List (Int × Str) × List Int)), s.2)).bind fun r => some (r.1, r.2)
theorem law_is (x : List (Int × Str)) : F__law_reachable x = (rpr ((eL (eT2 eI eS)) x)).bind fun k => (rngF (0 : Int) (99 : Int)).bind fun l => (loopF (layL (lenI x)) l ([(x, ([] : List Int))], [(k, (x, ([] : List Int)))])).bind fun r => some r.2 := rfl
def eL2 (t : St2) : TL := (t.1.map (fun x => (enc x.1, nI x.2)), encL t.2)
theorem Rw.sm {n : Nat} {cs : List Nat} {r : Row} (R : Rw n cs r) (hn : n ≤ 4) : ∀ e ∈ r, e.1 < 10 ∧ 97 ≤ e.2 ∧ e.2 ≤ 122 := fun e he => by
  have := R.v.lt he
  rw [R.len] at this
  exact ⟨by omega, R.v.col e he⟩
theorem key_inj {n m : Nat} {cs ds : List Nat} {r s : Row} (R : Rw n cs r) (hn : n ≤ 4) (R2 : Rw m ds s) (hm : m ≤ 4) (h : key r = key s) : r = s := shown_inj (R.sm hn) (R2.sm hm) h
theorem m_stL {n : Nat} {cs : List Nat} (hn : n ≤ 4) (hc : cs.length ≤ 4) {L : List Pt} {u : St2} (J : JI n cs L u) {x : Pt} (hx : x ∈ L) {p : Nat} (pn : p < n) : stL (enc x.1, nI x.2) (p : Int) (eL2 u) = some (eL2 (badd u (LX.app x.1 p, x.2 ++ [p]))) := by
  obtain ⟨xm, xl⟩ := J.lay x hx
  have R := J.row x xm
  have R2 := R.app pn
  have bd := rows_le hn hc J.row J.nd
  unfold stL
  refine be (m_called R.v (by rw [R.len]; exact pn)) ?_
  refine be (m_rpr R2.v) ?_
  have hh : dhas (encL u.2) (key (LX.app x.1 p)) = hasR u.2 (LX.app x.1 p) := dhas_enc (kf := key) fun a ha h => key_inj (J.row a ha) hn R2 hn h
  show cond (!dhas (encL u.2) (key (LX.app x.1 p))) _ _ = _
  rw [hh]
  have J2 := J.add hx pn
  unfold badd at J2 ⊢
  cases h : hasR u.2 (LX.app x.1 p) with
  | true => rfl
  | false =>
    rw [if_neg (by rw [h]; decide)] at J2
    rw [if_neg (by decide)]
    refine be (catF_ok (by show (nI x.2).length + 1 ≤ LIM; unfold nI LIM; rw [List.length_map]; omega)) ?_
    refine be (m_rpr R2.v) ?_
    show Option.bind (dputF (encL u.2) _ _) _ = _
    refine be (dput_new (by rw [hh]; exact h) (by unfold encL LIM; rw [List.length_map]; omega)) ?_
    refine be (m_rpr R2.v) ?_
    have eq1 : encL u.2 ++ [(key (LX.app x.1 p), (enc (LX.app x.1 p), nI x.2 ++ [(p : Int)]))] = encL (u.2 ++ [(LX.app x.1 p, x.2 ++ [p])]) := by
      unfold encL
      rw [List.map_append]
      show _ = _ ++ [(key (LX.app x.1 p), (enc (LX.app x.1 p), nI (x.2 ++ [p])))]
      rw [nI_app]
    rw [eq1]
    have g : dget (encL (u.2 ++ [(LX.app x.1 p, x.2 ++ [p])])) (key (LX.app x.1 p)) = some (enc (LX.app x.1 p), nI (x.2 ++ [p])) := dget_enc (kf := key) (vf := fun y => (enc y.1, nI y.2)) (x := (LX.app x.1 p, x.2 ++ [p])) J2.nd (fun a ha b hb h => key_inj (J2.row a ha) hn (J2.row b hb) hn h) (List.mem_append_right _ List.mem_cons_self)
    refine be g ?_
    show Option.bind (appF (u.1.map fun x => (enc x.1, nI x.2)) _) _ = _
    refine be (appF_ok (by have := J.len; rw [List.length_map]; unfold LIM; omega)) ?_
    unfold eL2
    rw [List.map_append]
    rfl
theorem m_curL {n : Nat} {cs : List Nat} (hn : n ≤ 4) (hc : cs.length ≤ 4) {L : List Pt} {u : St2} (J : JI n cs L u) {x : Pt} (hx : x ∈ L) : curL (n : Int) (enc x.1, nI x.2) (eL2 u) = some (eL2 ((List.range n).foldl (fun s p => badd s (LX.app x.1 p, x.2 ++ [p])) u)) ∧ JI n cs L ((List.range n).foldl (fun s p => badd s (LX.app x.1 p, x.2 ++ [p])) u) := by
  have q := loop_sim (E := eL2) (d := fun p : Nat => (p : Int)) (g := fun s p => badd s (LX.app x.1 p, x.2 ++ [p])) (f := stL (enc x.1, nI x.2)) (JI n cs L) (List.range n) u (fun p hp u Ju => ⟨m_stL hn hc Ju hx (List.mem_range.mp hp), Ju.add hx (List.mem_range.mp hp)⟩) J
  refine ⟨?_, q.2⟩
  unfold curL
  refine be (rngF_ok (by decide) (by decide) (by omega) (by omega)) ?_
  rw [rgI_nat]
  exact be q.1 rfl
theorem m_layL {n : Nat} {cs : List Nat} (hn : n ≤ 4) (hc : cs.length ≤ 4) {s : St2} (J : JI n cs s.1 ([], s.2)) (i : Int) : layL (n : Int) i (eL2 s) = some (eL2 (blayer n s)) := by
  rw [blayer_fold]
  have q := loop_sim (E := eL2) (d := fun x : Pt => (enc x.1, nI x.2)) (g := fun s x => (List.range n).foldl (fun s p => badd s (LX.app x.1 p, x.2 ++ [p])) s) (f := curL (n : Int)) (JI n cs s.1) s.1 ([], s.2) (fun x hx t Jt => m_curL hn hc Jt hx) J
  exact be q.1 rfl
theorem m_forL {n : Nat} {cs : List Nat} {r : Row} (hn : n ≤ 4) (hc : cs.length ≤ 4) : ∀ (l : List Int) (k : Nat) (s : St2), BI n cs r k s → k + l.length ≤ 200 → loopF (layL (n : Int)) l (eL2 s) = some (eL2 (biter n l.length s))
  | [], k, s, _, _ => rfl
  | i :: l, k, s, B, hk => by
    rw [List.length_cons] at hk
    refine be (m_layL hn hc (B.ji (by omega)) i) ?_
    exact m_forL hn hc l (k + 1) (blayer n s) B.step.1 (by omega)
theorem m_reach {n : Nat} {cs : List Nat} {r : Row} (R : Rw n cs r) (hn : n ≤ 4) (hc : cs.length ≤ 4) : F__law_reachable (enc r) = some (encL (srch n r 12).2) := by
  have len : lenI (enc r) = (n : Int) := by unfold lenI; rw [enc_len, R.len]
  rw [law_is, len]
  refine be (m_rpr R.v) ?_
  refine be (rngF_ok (by decide) (by decide) (by decide) (by decide)) ?_
  have ll : (rgI 0 99).length = 99 := by rw [rgI_len]; rfl
  have q := m_forL (r := r) hn hc (rgI 0 99) 0 ([(r, [])], [(r, [])]) (BI.start R) (by rw [ll]; decide)
  rw [ll] at q
  have e : (([(enc r, ([] : List Int))], [(key r, (enc r, ([] : List Int)))]) : TL) = eL2 ([(r, [])], [(r, [])]) := rfl
  have st : biter n 99 ([(r, [])], [(r, [])]) = srch n r 12 := srch_stay (srch_stop R hn) (by decide)
  rw [st] at q
  generalize rgI 0 99 = l at q
  rw [e, q]
  generalize srch n r 12 = z
  rfl
/-- a drawn row -/
theorem Rw.of {r : Row} (V : Vr r) : Rw r.length (r.map (·.2)) r := ⟨V, rfl, fun e he => List.mem_map_of_mem he⟩
theorem m_cps {r : Row} (V : Vr r) (h : r.length ≤ 4) : F_check_people (enc r) = some () := by
  unfold F_check_people
  rw [lenI_enc, decide_eq_false (by omega)]
  rfl
end LQF

namespace LQF
open PySem L2 LX LQ
theorem comp_len {κ α β : Type} [DecidableEq κ] {f : List Pt} {kf : Row → κ} {vf : Pt → α} (g : α → β) (nd : (f.map (·.1)).Nodup) (inj : ∀ a ∈ f, ∀ b ∈ f, kf a.1 = kf b.1 → a.1 = b.1) (z : f.length ≤ LIM) (F : κ → Option (Option β)) (hF : ∀ k x, dget (f.map fun y => (kf y.1, vf y)) k = some x → F k = some (some (g x))) :
    compL F (f.map fun y => kf y.1) = some (f.map fun y => g (vf y)) := by
  unfold compL
  rw [decide_eq_true (by rw [List.length_map]; exact z)]
  show compF F _ = _
  have key : ∀ l : List Pt, (∀ x ∈ l, x ∈ f) → compF F (l.map fun y => kf y.1) = some (l.map fun y => g (vf y)) := by
    intro l
    induction l with
    | nil => intro _; rfl
    | cons x l ih =>
      intro h
      rw [List.map_cons]
      refine be (hF _ _ (dget_enc nd inj (h x List.mem_cons_self))) ?_
      refine be (ih fun y hy => h y (List.mem_cons_of_mem _ hy)) ?_
      rfl
  exact key f fun x hx => hx
theorem maxL_mem {l : List Int} {m : Int} (h : maxL l = some m) : m ∈ l := by
  cases l with
  | nil => cases h
  | cons x l =>
    cases h
    rcases (foldmax l x).1 with e | e
    · rw [e]; exact List.mem_cons_self
    · exact List.mem_cons_of_mem _ e
theorem law_true (ns : List Int) (_hz : ns.length ≤ 63) : F_law ns = some true := by
  unfold F_law
  rw [minI_eq, maxI_eq]
  obtain ⟨m, hm⟩ : ∃ m : Nat, max (1 : Int) (min 3 (lenI ns)) = (m : Int) := ⟨(max (1 : Int) (min 3 (lenI ns))).toNat, by omega⟩
  rw [hm]
  refine be (rngF_ok (by decide) (by decide) (by omega) (by omega)) ?_
  rw [rgI_nat]
  refine be (x := .nx ()) (loopC_nx fun x hx => ?_) rfl
  obtain ⟨k, hk, rfl⟩ := List.mem_map.mp hx
  refine be_ev (m_cell ns k) fun c _ => ?_
  refine be_ev (m_pool c k) fun p B0 => ?_
  refine be_ev (m_many (ns := ns) B0 (by decide)) fun y ⟨n, e1, n1, n4, B1⟩ => ?_
  rw [e1]
  refine be_ev (m_people B1 n1 (by omega) (by decide)) fun z ⟨r, V, e2, rl, B2⟩ => ?_
  rw [e2]
  have R := Rw.of V
  have r4 : r.length ≤ 4 := by omega
  have c4 : (r.map (·.2)).length ≤ 4 := by rw [List.length_map]; exact r4
  have BI := srch_ok R 12
  have fl := rows_le r4 c4 BI.row BI.nd
  have ad := m_all R r4 c4
  have rd := m_reach R r4 c4
  have far := BI.far [] (Nat.zero_le _) fun p hp => nomatch hp
  have cal := BI.cal
  have row := BI.row
  have nd := BI.nd
  generalize (srch r.length r 12).2 = f at *
  refine be rd ?_
  have lw : (f.map fun x => lenI (nI x.2)) = nI (f.map fun x => x.2.length) := by
    unfold nI lenI
    rw [List.map_map]
    refine List.map_congr_left fun x _ => ?_
    show ((x.2.map _).length : Int) = _
    rw [List.length_map]
    rfl
  have c1 : compL (fun (a3501 : Str) => (dget (encL f) a3501).bind fun y3516 => some (some (lenI y3516.2))) (dkeys (encL f)) = some (nI (f.map fun x => x.2.length)) := by
    have e : dkeys (encL f) = f.map fun y => key y.1 := by unfold dkeys encL; rw [List.map_map]; rfl
    rw [e, ← lw]
    exact comp_len (kf := key) (vf := fun y => (enc y.1, nI y.2)) (fun v => lenI v.2) nd (fun a ha b hb h => key_inj (row a ha) r4 (row b hb) r4 h) (by unfold LIM; omega) _ fun k x h => be h rfl
  refine be c1 ?_
  have c2 : compL (fun (a3319 : (List (Int × Str))) => (dget (encW f) a3319).bind fun y3336 => some (some (lenI y3336))) ((encW f).map (·.1)) = some (nI (f.map fun x => x.2.length)) := by
    have e : (encW f).map (·.1) = f.map fun y => enc y.1 := by unfold encW; rw [List.map_map]; rfl
    rw [e, ← lw]
    exact comp_len (kf := enc) (vf := fun y => nI y.2) (fun v => lenI v) nd (fun a ha b hb h => enc_inj h) (by unfold LIM; omega) _ fun k x h => be h rfl
  obtain ⟨x0, hx0, _⟩ := hasR_iff.mp far
  have mx : Ev (maxL (nI (f.map fun x => x.2.length))) fun m => ∃ k : Nat, m = (k : Int) ∧ k ≤ 12 := by
    cases h : maxL (nI (f.map fun x => x.2.length)) with
    | none =>
      exfalso
      cases f with
      | nil => cases hx0
      | cons y f => cases h
    | some m =>
      refine ⟨m, rfl, ?_⟩
      have := maxL_mem h
      obtain ⟨k, hk, e⟩ := List.mem_map.mp this
      obtain ⟨y, hy, e2⟩ := List.mem_map.mp hk
      exact ⟨k, e.symm, by rw [← e2]; exact (cal y hy).1⟩
  obtain ⟨m, em, mk, emk, mk12⟩ := mx
  refine be em (be em ?_)
  refine be (m_rpr V) ?_
  have cnt : ((nI (f.map fun x => x.2.length)).count m : Nat) ≤ 65536 := Nat.le_trans List.count_le_length (by unfold nI; rw [List.length_map, List.length_map]; exact fl)
  have rp : ∃ s, reprF ((eT2 eI eI) (m, (((nI (f.map fun x => x.2.length)).count m : Nat) : Int))) = some s := by
    refine ⟨_, m_repr (n := 1) (m := 2 * 41) ?_ (by decide) (by decide)⟩
    have := Sh.tuple (B := 13) (n := 0) (m := 40) (xs := [eI m, eI (((nI (f.map fun x => x.2.length)).count m : Nat) : Int)]) fun x hx => by
      rcases List.mem_cons.mp hx with e | hx
      · rw [e, emk]; exact Sh.int (by show Int.natAbs (mk : Int) < _; rw [Int.natAbs_natCast]; exact Nat.lt_of_le_of_lt mk12 (by decide))
      · rw [List.mem_singleton.mp hx]; exact Sh.int (by rw [Int.natAbs_natCast]; exact Nat.lt_of_le_of_lt cnt (by decide))
    exact this
  obtain ⟨s, hs⟩ := rp
  have fr : F_farthest_reachable (enc r) = some (m, (((nI (f.map fun x => x.2.length)).count m : Nat) : Int)) := by
    unfold F_farthest_reachable F_check_small
    refine be (x := ()) (be (m_check_lineup V) (be (m_cps V r4) rfl)) ?_
    exact be ad (be c2 (be em (be em rfl)))
  refine be (x := false) (be fr (be hs (be hs ?_))) rfl
  rw [decide_eq_true rfl]
  refine be (m_rpr V) ?_
  rw [decide_eq_true rfl]
  rfl
end LQF

namespace K84
open PySem L2 LX LQ
section
variable {P : Program} {w : World} {K : PySem.W.Frag} {mg : Str → Option Value} {base : Heap} {a : Ad}
def sp_law (K : PySem.W.Frag) : Sp := fun vs H Q _ => ∃ (l : Addr) (ns : List Int), vs = [.ref l] ∧ Scr K H l ns ∧ ns.length ≤ 63 ∧ ∀ H', Q (.bl true) H'
theorem ok_law (T : Txt K mg a) : FnG P w K mg base 7 a.f_law a.d_law ["script"] (sp_law K) := (ok_law0 T).imp fun vs H Q E h => by
  obtain ⟨l, ns, rfl, hS, hz, kq⟩ := h
  exact ⟨l, ns, rfl, hS, true, LQF.law_true ns hz, fun _ H' _ => kq H'⟩
end
theorem all_mk {l : PySem.W.OpenLaw} {w : World} {K : PySem.W.Frag} {h : Heap} {mg : Str → Option Value} {fa : Addr} (X : K.In h) (G : h.Ns mainGlobals mg) (hfa : mg "law" = some (.ref fa))
    {f__law_pool : Addr} {od__law_pool an__law_pool : Option Addr} {sl__law_pool : Array (Option Value)} {oc__law_pool kV__law_pool dc__law_pool pm__law_pool cd__law_pool ct__law_pool : Value}
    {f__law_draw : Addr} {od__law_draw an__law_draw : Option Addr} {sl__law_draw : Array (Option Value)} {oc__law_draw kV__law_draw dc__law_draw pm__law_draw cd__law_draw ct__law_draw : Value}
    {f__law_lineup : Addr} {od__law_lineup an__law_lineup : Option Addr} {sl__law_lineup : Array (Option Value)} {oc__law_lineup kV__law_lineup dc__law_lineup pm__law_lineup cd__law_lineup ct__law_lineup : Value}
    {f__law_called : Addr} {od__law_called an__law_called : Option Addr} {sl__law_called : Array (Option Value)} {oc__law_called kV__law_called dc__law_called pm__law_called cd__law_called ct__law_called : Value}
    {f__law_reachable : Addr} {od__law_reachable an__law_reachable : Option Addr} {sl__law_reachable : Array (Option Value)} {oc__law_reachable kV__law_reachable dc__law_reachable pm__law_reachable cd__law_reachable ct__law_reachable : Value}
    {f__law_cell_at : Addr} {od__law_cell_at an__law_cell_at : Option Addr} {sl__law_cell_at : Array (Option Value)} {oc__law_cell_at kV__law_cell_at dc__law_cell_at pm__law_cell_at cd__law_cell_at ct__law_cell_at : Value}
    {f__law_many : Addr} {od__law_many an__law_many : Option Addr} {sl__law_many : Array (Option Value)} {oc__law_many kV__law_many dc__law_many pm__law_many cd__law_many ct__law_many : Value}
    {f_is_integer : Addr} {od_is_integer an_is_integer : Option Addr} {sl_is_integer : Array (Option Value)} {oc_is_integer kV_is_integer dc_is_integer pm_is_integer cd_is_integer ct_is_integer : Value}
    {f_is_color : Addr} {od_is_color an_is_color : Option Addr} {sl_is_color : Array (Option Value)} {oc_is_color kV_is_color dc_is_color pm_is_color cd_is_color ct_is_color : Value}
    {f_is_colored_integer : Addr} {od_is_colored_integer an_is_colored_integer : Option Addr} {sl_is_colored_integer : Array (Option Value)} {oc_is_colored_integer kV_is_colored_integer dc_is_colored_integer pm_is_colored_integer cd_is_colored_integer ct_is_colored_integer : Value}
    {f_is_lineup : Addr} {od_is_lineup an_is_lineup : Option Addr} {sl_is_lineup : Array (Option Value)} {oc_is_lineup kV_is_lineup dc_is_lineup pm_is_lineup cd_is_lineup ct_is_lineup : Value}
    {f_check_lineup : Addr} {od_check_lineup an_check_lineup : Option Addr} {sl_check_lineup : Array (Option Value)} {oc_check_lineup kV_check_lineup dc_check_lineup pm_check_lineup cd_check_lineup ct_check_lineup : Value}
    {f_check_people : Addr} {od_check_people an_check_people : Option Addr} {sl_check_people : Array (Option Value)} {oc_check_people kV_check_people dc_check_people pm_check_people cd_check_people ct_check_people : Value}
    {f_check_small : Addr} {od_check_small an_check_small : Option Addr} {sl_check_small : Array (Option Value)} {oc_check_small kV_check_small dc_check_small pm_check_small cd_check_small ct_check_small : Value}
    {f_first_other_color : Addr} {od_first_other_color an_first_other_color : Option Addr} {sl_first_other_color : Array (Option Value)} {oc_first_other_color kV_first_other_color dc_first_other_color pm_first_other_color cd_first_other_color ct_first_other_color : Value}
    {f_colors_by_person : Addr} {od_colors_by_person an_colors_by_person : Option Addr} {sl_colors_by_person : Array (Option Value)} {oc_colors_by_person kV_colors_by_person dc_colors_by_person pm_colors_by_person cd_colors_by_person ct_colors_by_person : Value}
    {f_apply_call : Addr} {od_apply_call an_apply_call : Option Addr} {sl_apply_call : Array (Option Value)} {oc_apply_call kV_apply_call dc_apply_call pm_apply_call cd_apply_call ct_apply_call : Value}
    {f_shortest_calls_to_all : Addr} {od_shortest_calls_to_all an_shortest_calls_to_all : Option Addr} {sl_shortest_calls_to_all : Array (Option Value)} {oc_shortest_calls_to_all kV_shortest_calls_to_all dc_shortest_calls_to_all pm_shortest_calls_to_all cd_shortest_calls_to_all ct_shortest_calls_to_all : Value}
    {f_farthest_reachable : Addr} {od_farthest_reachable an_farthest_reachable : Option Addr} {sl_farthest_reachable : Array (Option Value)} {oc_farthest_reachable kV_farthest_reachable dc_farthest_reachable pm_farthest_reachable cd_farthest_reachable ct_farthest_reachable : Value}
    {f_law : Addr} {od_law an_law : Option Addr} {sl_law : Array (Option Value)} {oc_law kV_law dc_law pm_law cd_law ct_law : Value}
    {t_MOST_PEOPLE : Tok}
    {t_SMALL : Tok}
    (a__law_pool : PySem.W.nsIn K mainGlobals "_law_pool" = some (some (.ref f__law_pool)))
    (l__law_pool : K.lookup f__law_pool = some ⟨oc__law_pool, od__law_pool, .func (PySem.W.fnOf "_law_pool" "_law_pool" (defArgs s__law_pool) (defBody s__law_pool) (defScope s__law_pool) .none kV__law_pool dc__law_pool pm__law_pool an__law_pool cd__law_pool ct__law_pool), sl__law_pool⟩)
    (c__law_pool : PySem.W.codeIn K cd__law_pool "_law_pool" = true) (k__law_pool : PySem.W.keepIn K (.ref f__law_pool) = true)
    (a__law_draw : PySem.W.nsIn K mainGlobals "_law_draw" = some (some (.ref f__law_draw)))
    (l__law_draw : K.lookup f__law_draw = some ⟨oc__law_draw, od__law_draw, .func (PySem.W.fnOf "_law_draw" "_law_draw" (defArgs s__law_draw) (defBody s__law_draw) (defScope s__law_draw) .none kV__law_draw dc__law_draw pm__law_draw an__law_draw cd__law_draw ct__law_draw), sl__law_draw⟩)
    (c__law_draw : PySem.W.codeIn K cd__law_draw "_law_draw" = true) (k__law_draw : PySem.W.keepIn K (.ref f__law_draw) = true)
    (a__law_lineup : PySem.W.nsIn K mainGlobals "_law_lineup" = some (some (.ref f__law_lineup)))
    (l__law_lineup : K.lookup f__law_lineup = some ⟨oc__law_lineup, od__law_lineup, .func (PySem.W.fnOf "_law_lineup" "_law_lineup" (defArgs s__law_lineup) (defBody s__law_lineup) (defScope s__law_lineup) .none kV__law_lineup dc__law_lineup pm__law_lineup an__law_lineup cd__law_lineup ct__law_lineup), sl__law_lineup⟩)
    (c__law_lineup : PySem.W.codeIn K cd__law_lineup "_law_lineup" = true) (k__law_lineup : PySem.W.keepIn K (.ref f__law_lineup) = true)
    (a__law_called : PySem.W.nsIn K mainGlobals "_law_called" = some (some (.ref f__law_called)))
    (l__law_called : K.lookup f__law_called = some ⟨oc__law_called, od__law_called, .func (PySem.W.fnOf "_law_called" "_law_called" (defArgs s__law_called) (defBody s__law_called) (defScope s__law_called) .none kV__law_called dc__law_called pm__law_called an__law_called cd__law_called ct__law_called), sl__law_called⟩)
    (c__law_called : PySem.W.codeIn K cd__law_called "_law_called" = true) (k__law_called : PySem.W.keepIn K (.ref f__law_called) = true)
    (a__law_reachable : PySem.W.nsIn K mainGlobals "_law_reachable" = some (some (.ref f__law_reachable)))
    (l__law_reachable : K.lookup f__law_reachable = some ⟨oc__law_reachable, od__law_reachable, .func (PySem.W.fnOf "_law_reachable" "_law_reachable" (defArgs s__law_reachable) (defBody s__law_reachable) (defScope s__law_reachable) .none kV__law_reachable dc__law_reachable pm__law_reachable an__law_reachable cd__law_reachable ct__law_reachable), sl__law_reachable⟩)
    (c__law_reachable : PySem.W.codeIn K cd__law_reachable "_law_reachable" = true) (k__law_reachable : PySem.W.keepIn K (.ref f__law_reachable) = true)
    (a__law_cell_at : PySem.W.nsIn K mainGlobals "_law_cell_at" = some (some (.ref f__law_cell_at)))
    (l__law_cell_at : K.lookup f__law_cell_at = some ⟨oc__law_cell_at, od__law_cell_at, .func (PySem.W.fnOf "_law_cell_at" "_law_cell_at" (defArgs s__law_cell_at) (defBody s__law_cell_at) (defScope s__law_cell_at) .none kV__law_cell_at dc__law_cell_at pm__law_cell_at an__law_cell_at cd__law_cell_at ct__law_cell_at), sl__law_cell_at⟩)
    (c__law_cell_at : PySem.W.codeIn K cd__law_cell_at "_law_cell_at" = true) (k__law_cell_at : PySem.W.keepIn K (.ref f__law_cell_at) = true)
    (a__law_many : PySem.W.nsIn K mainGlobals "_law_many" = some (some (.ref f__law_many)))
    (l__law_many : K.lookup f__law_many = some ⟨oc__law_many, od__law_many, .func (PySem.W.fnOf "_law_many" "_law_many" (defArgs s__law_many) (defBody s__law_many) (defScope s__law_many) .none kV__law_many dc__law_many pm__law_many an__law_many cd__law_many ct__law_many), sl__law_many⟩)
    (c__law_many : PySem.W.codeIn K cd__law_many "_law_many" = true) (k__law_many : PySem.W.keepIn K (.ref f__law_many) = true)
    (a_is_integer : PySem.W.nsIn K mainGlobals "is_integer" = some (some (.ref f_is_integer)))
    (l_is_integer : K.lookup f_is_integer = some ⟨oc_is_integer, od_is_integer, .func (PySem.W.fnOf "is_integer" "is_integer" (defArgs s_is_integer) (defBody s_is_integer) (defScope s_is_integer) .none kV_is_integer dc_is_integer pm_is_integer an_is_integer cd_is_integer ct_is_integer), sl_is_integer⟩)
    (c_is_integer : PySem.W.codeIn K cd_is_integer "is_integer" = true) (k_is_integer : PySem.W.keepIn K (.ref f_is_integer) = true)
    (a_is_color : PySem.W.nsIn K mainGlobals "is_color" = some (some (.ref f_is_color)))
    (l_is_color : K.lookup f_is_color = some ⟨oc_is_color, od_is_color, .func (PySem.W.fnOf "is_color" "is_color" (defArgs s_is_color) (defBody s_is_color) (defScope s_is_color) .none kV_is_color dc_is_color pm_is_color an_is_color cd_is_color ct_is_color), sl_is_color⟩)
    (c_is_color : PySem.W.codeIn K cd_is_color "is_color" = true) (k_is_color : PySem.W.keepIn K (.ref f_is_color) = true)
    (a_is_colored_integer : PySem.W.nsIn K mainGlobals "is_colored_integer" = some (some (.ref f_is_colored_integer)))
    (l_is_colored_integer : K.lookup f_is_colored_integer = some ⟨oc_is_colored_integer, od_is_colored_integer, .func (PySem.W.fnOf "is_colored_integer" "is_colored_integer" (defArgs s_is_colored_integer) (defBody s_is_colored_integer) (defScope s_is_colored_integer) .none kV_is_colored_integer dc_is_colored_integer pm_is_colored_integer an_is_colored_integer cd_is_colored_integer ct_is_colored_integer), sl_is_colored_integer⟩)
    (c_is_colored_integer : PySem.W.codeIn K cd_is_colored_integer "is_colored_integer" = true) (k_is_colored_integer : PySem.W.keepIn K (.ref f_is_colored_integer) = true)
    (a_is_lineup : PySem.W.nsIn K mainGlobals "is_lineup" = some (some (.ref f_is_lineup)))
    (l_is_lineup : K.lookup f_is_lineup = some ⟨oc_is_lineup, od_is_lineup, .func (PySem.W.fnOf "is_lineup" "is_lineup" (defArgs s_is_lineup) (defBody s_is_lineup) (defScope s_is_lineup) .none kV_is_lineup dc_is_lineup pm_is_lineup an_is_lineup cd_is_lineup ct_is_lineup), sl_is_lineup⟩)
    (c_is_lineup : PySem.W.codeIn K cd_is_lineup "is_lineup" = true) (k_is_lineup : PySem.W.keepIn K (.ref f_is_lineup) = true)
    (a_check_lineup : PySem.W.nsIn K mainGlobals "check_lineup" = some (some (.ref f_check_lineup)))
    (l_check_lineup : K.lookup f_check_lineup = some ⟨oc_check_lineup, od_check_lineup, .func (PySem.W.fnOf "check_lineup" "check_lineup" (defArgs s_check_lineup) (defBody s_check_lineup) (defScope s_check_lineup) .none kV_check_lineup dc_check_lineup pm_check_lineup an_check_lineup cd_check_lineup ct_check_lineup), sl_check_lineup⟩)
    (c_check_lineup : PySem.W.codeIn K cd_check_lineup "check_lineup" = true) (k_check_lineup : PySem.W.keepIn K (.ref f_check_lineup) = true)
    (a_check_people : PySem.W.nsIn K mainGlobals "check_people" = some (some (.ref f_check_people)))
    (l_check_people : K.lookup f_check_people = some ⟨oc_check_people, od_check_people, .func (PySem.W.fnOf "check_people" "check_people" (defArgs s_check_people) (defBody s_check_people) (defScope s_check_people) .none kV_check_people dc_check_people pm_check_people an_check_people cd_check_people ct_check_people), sl_check_people⟩)
    (c_check_people : PySem.W.codeIn K cd_check_people "check_people" = true) (k_check_people : PySem.W.keepIn K (.ref f_check_people) = true)
    (a_check_small : PySem.W.nsIn K mainGlobals "check_small" = some (some (.ref f_check_small)))
    (l_check_small : K.lookup f_check_small = some ⟨oc_check_small, od_check_small, .func (PySem.W.fnOf "check_small" "check_small" (defArgs s_check_small) (defBody s_check_small) (defScope s_check_small) .none kV_check_small dc_check_small pm_check_small an_check_small cd_check_small ct_check_small), sl_check_small⟩)
    (c_check_small : PySem.W.codeIn K cd_check_small "check_small" = true) (k_check_small : PySem.W.keepIn K (.ref f_check_small) = true)
    (a_first_other_color : PySem.W.nsIn K mainGlobals "first_other_color" = some (some (.ref f_first_other_color)))
    (l_first_other_color : K.lookup f_first_other_color = some ⟨oc_first_other_color, od_first_other_color, .func (PySem.W.fnOf "first_other_color" "first_other_color" (defArgs s_first_other_color) (defBody s_first_other_color) (defScope s_first_other_color) .none kV_first_other_color dc_first_other_color pm_first_other_color an_first_other_color cd_first_other_color ct_first_other_color), sl_first_other_color⟩)
    (c_first_other_color : PySem.W.codeIn K cd_first_other_color "first_other_color" = true) (k_first_other_color : PySem.W.keepIn K (.ref f_first_other_color) = true)
    (a_colors_by_person : PySem.W.nsIn K mainGlobals "colors_by_person" = some (some (.ref f_colors_by_person)))
    (l_colors_by_person : K.lookup f_colors_by_person = some ⟨oc_colors_by_person, od_colors_by_person, .func (PySem.W.fnOf "colors_by_person" "colors_by_person" (defArgs s_colors_by_person) (defBody s_colors_by_person) (defScope s_colors_by_person) .none kV_colors_by_person dc_colors_by_person pm_colors_by_person an_colors_by_person cd_colors_by_person ct_colors_by_person), sl_colors_by_person⟩)
    (c_colors_by_person : PySem.W.codeIn K cd_colors_by_person "colors_by_person" = true) (k_colors_by_person : PySem.W.keepIn K (.ref f_colors_by_person) = true)
    (a_apply_call : PySem.W.nsIn K mainGlobals "apply_call" = some (some (.ref f_apply_call)))
    (l_apply_call : K.lookup f_apply_call = some ⟨oc_apply_call, od_apply_call, .func (PySem.W.fnOf "apply_call" "apply_call" (defArgs s_apply_call) (defBody s_apply_call) (defScope s_apply_call) .none kV_apply_call dc_apply_call pm_apply_call an_apply_call cd_apply_call ct_apply_call), sl_apply_call⟩)
    (c_apply_call : PySem.W.codeIn K cd_apply_call "apply_call" = true) (k_apply_call : PySem.W.keepIn K (.ref f_apply_call) = true)
    (a_shortest_calls_to_all : PySem.W.nsIn K mainGlobals "shortest_calls_to_all" = some (some (.ref f_shortest_calls_to_all)))
    (l_shortest_calls_to_all : K.lookup f_shortest_calls_to_all = some ⟨oc_shortest_calls_to_all, od_shortest_calls_to_all, .func (PySem.W.fnOf "shortest_calls_to_all" "shortest_calls_to_all" (defArgs s_shortest_calls_to_all) (defBody s_shortest_calls_to_all) (defScope s_shortest_calls_to_all) .none kV_shortest_calls_to_all dc_shortest_calls_to_all pm_shortest_calls_to_all an_shortest_calls_to_all cd_shortest_calls_to_all ct_shortest_calls_to_all), sl_shortest_calls_to_all⟩)
    (c_shortest_calls_to_all : PySem.W.codeIn K cd_shortest_calls_to_all "shortest_calls_to_all" = true) (k_shortest_calls_to_all : PySem.W.keepIn K (.ref f_shortest_calls_to_all) = true)
    (a_farthest_reachable : PySem.W.nsIn K mainGlobals "farthest_reachable" = some (some (.ref f_farthest_reachable)))
    (l_farthest_reachable : K.lookup f_farthest_reachable = some ⟨oc_farthest_reachable, od_farthest_reachable, .func (PySem.W.fnOf "farthest_reachable" "farthest_reachable" (defArgs s_farthest_reachable) (defBody s_farthest_reachable) (defScope s_farthest_reachable) .none kV_farthest_reachable dc_farthest_reachable pm_farthest_reachable an_farthest_reachable cd_farthest_reachable ct_farthest_reachable), sl_farthest_reachable⟩)
    (c_farthest_reachable : PySem.W.codeIn K cd_farthest_reachable "farthest_reachable" = true) (k_farthest_reachable : PySem.W.keepIn K (.ref f_farthest_reachable) = true)
    (a_law : PySem.W.nsIn K mainGlobals "law" = some (some (.ref f_law)))
    (l_law : K.lookup f_law = some ⟨oc_law, od_law, .func (PySem.W.fnOf "law" "law" (defArgs s_law) (defBody s_law) (defScope s_law) .none kV_law dc_law pm_law an_law cd_law ct_law), sl_law⟩)
    (c_law : PySem.W.codeIn K cd_law "law" = true) (k_law : PySem.W.keepIn K (.ref f_law) = true)
    (a_MOST_PEOPLE : PySem.W.nsIn K mainGlobals "MOST_PEOPLE" = some (some (.int 60 t_MOST_PEOPLE)))
    (a_SMALL : PySem.W.nsIn K mainGlobals "SMALL" = some (some (.int 4 t_SMALL)))
    (z_bool : PySem.W.nsIn K mainGlobals "bool" = some none)
    (z_int : PySem.W.nsIn K mainGlobals "int" = some none)
    (z_isinstance : PySem.W.nsIn K mainGlobals "isinstance" = some none)
    (z_len : PySem.W.nsIn K mainGlobals "len" = some none)
    (z_list : PySem.W.nsIn K mainGlobals "list" = some none)
    (z_max : PySem.W.nsIn K mainGlobals "max" = some none)
    (z_min : PySem.W.nsIn K mainGlobals "min" = some none)
    (z_range : PySem.W.nsIn K mainGlobals "range" = some none)
    (z_repr : PySem.W.nsIn K mainGlobals "repr" = some none)
    (z_sorted : PySem.W.nsIn K mainGlobals "sorted" = some none)
    (z_str : PySem.W.nsIn K mainGlobals "str" = some none)
    (z_tuple : PySem.W.nsIn K mainGlobals "tuple" = some none)
    (z_type : PySem.W.nsIn K mainGlobals "type" = some none)
    : ∃ fd : FuncData, (∀ (s : Shared) (v : Value), BindsTo s fd ⟨[v], []⟩ [("script", v)]) ∧ ∀ base : Heap, K.In base → base.Ns mainGlobals mg → FnG l.prog w K mg base 7 fa fd ["script"] (sp_law K) := by
  have e := hfa.symm.trans (PySem.W.mg_of X G a_law)
  cases e
  have F__law_pool := fun_mk (st := s__law_pool) l__law_pool c__law_pool k__law_pool
  have n__law_pool := F__law_pool.binds (ps := ["cell", "place"]) fun _ _ _ _ _ _ us hl => match us, hl with | [_, _], _ => rfl
  have F__law_draw := fun_mk (st := s__law_draw) l__law_draw c__law_draw k__law_draw
  have n__law_draw := F__law_draw.binds (ps := ["pool", "many"]) fun _ _ _ _ _ _ us hl => match us, hl with | [_, _], _ => rfl
  have F__law_lineup := fun_mk (st := s__law_lineup) l__law_lineup c__law_lineup k__law_lineup
  have n__law_lineup := F__law_lineup.binds (ps := ["pool", "many"]) fun _ _ _ _ _ _ us hl => match us, hl with | [_, _], _ => rfl
  have F__law_called := fun_mk (st := s__law_called) l__law_called c__law_called k__law_called
  have n__law_called := F__law_called.binds (ps := ["start", "who"]) fun _ _ _ _ _ _ us hl => match us, hl with | [_, _], _ => rfl
  have F__law_reachable := fun_mk (st := s__law_reachable) l__law_reachable c__law_reachable k__law_reachable
  have n__law_reachable := F__law_reachable.binds (ps := ["start"]) fun _ _ _ _ _ _ us hl => match us, hl with | [_], _ => rfl
  have F__law_cell_at := fun_mk (st := s__law_cell_at) l__law_cell_at c__law_cell_at k__law_cell_at
  have n__law_cell_at := F__law_cell_at.binds (ps := ["script", "k"]) fun _ _ _ _ _ _ us hl => match us, hl with | [_, _], _ => rfl
  have F__law_many := fun_mk (st := s__law_many) l__law_many c__law_many k__law_many
  have n__law_many := F__law_many.binds (ps := ["pool", "script"]) fun _ _ _ _ _ _ us hl => match us, hl with | [_, _], _ => rfl
  have F_is_integer := fun_mk (st := s_is_integer) l_is_integer c_is_integer k_is_integer
  have n_is_integer := F_is_integer.binds (ps := ["value"]) fun _ _ _ _ _ _ us hl => match us, hl with | [_], _ => rfl
  have F_is_color := fun_mk (st := s_is_color) l_is_color c_is_color k_is_color
  have n_is_color := F_is_color.binds (ps := ["value"]) fun _ _ _ _ _ _ us hl => match us, hl with | [_], _ => rfl
  have F_is_colored_integer := fun_mk (st := s_is_colored_integer) l_is_colored_integer c_is_colored_integer k_is_colored_integer
  have n_is_colored_integer := F_is_colored_integer.binds (ps := ["value"]) fun _ _ _ _ _ _ us hl => match us, hl with | [_], _ => rfl
  have F_is_lineup := fun_mk (st := s_is_lineup) l_is_lineup c_is_lineup k_is_lineup
  have n_is_lineup := F_is_lineup.binds (ps := ["value"]) fun _ _ _ _ _ _ us hl => match us, hl with | [_], _ => rfl
  have F_check_lineup := fun_mk (st := s_check_lineup) l_check_lineup c_check_lineup k_check_lineup
  have n_check_lineup := F_check_lineup.binds (ps := ["value"]) fun _ _ _ _ _ _ us hl => match us, hl with | [_], _ => rfl
  have F_check_people := fun_mk (st := s_check_people) l_check_people c_check_people k_check_people
  have n_check_people := F_check_people.binds (ps := ["lineup"]) fun _ _ _ _ _ _ us hl => match us, hl with | [_], _ => rfl
  have F_check_small := fun_mk (st := s_check_small) l_check_small c_check_small k_check_small
  have n_check_small := F_check_small.binds (ps := ["lineup"]) fun _ _ _ _ _ _ us hl => match us, hl with | [_], _ => rfl
  have F_first_other_color := fun_mk (st := s_first_other_color) l_first_other_color c_first_other_color k_first_other_color
  have n_first_other_color := F_first_other_color.binds (ps := ["lineup", "color"]) fun _ _ _ _ _ _ us hl => match us, hl with | [_, _], _ => rfl
  have F_colors_by_person := fun_mk (st := s_colors_by_person) l_colors_by_person c_colors_by_person k_colors_by_person
  have n_colors_by_person := F_colors_by_person.binds (ps := ["lineup"]) fun _ _ _ _ _ _ us hl => match us, hl with | [_], _ => rfl
  have F_apply_call := fun_mk (st := s_apply_call) l_apply_call c_apply_call k_apply_call
  have n_apply_call := F_apply_call.binds (ps := ["lineup", "person"]) fun _ _ _ _ _ _ us hl => match us, hl with | [_, _], _ => rfl
  have F_shortest_calls_to_all := fun_mk (st := s_shortest_calls_to_all) l_shortest_calls_to_all c_shortest_calls_to_all k_shortest_calls_to_all
  have n_shortest_calls_to_all := F_shortest_calls_to_all.binds (ps := ["lineup"]) fun _ _ _ _ _ _ us hl => match us, hl with | [_], _ => rfl
  have F_farthest_reachable := fun_mk (st := s_farthest_reachable) l_farthest_reachable c_farthest_reachable k_farthest_reachable
  have n_farthest_reachable := F_farthest_reachable.binds (ps := ["lineup"]) fun _ _ _ _ _ _ us hl => match us, hl with | [_], _ => rfl
  have F_law := fun_mk (st := s_law) l_law c_law k_law
  have n_law := F_law.binds (ps := ["script"]) fun _ _ _ _ _ _ us hl => match us, hl with | [_], _ => rfl
  have T : Txt K mg { f__law_pool := _, d__law_pool := _, f__law_draw := _, d__law_draw := _, f__law_lineup := _, d__law_lineup := _, f__law_called := _, d__law_called := _, f__law_reachable := _, d__law_reachable := _, f__law_cell_at := _, d__law_cell_at := _, f__law_many := _, d__law_many := _, f_is_integer := _, d_is_integer := _, f_is_color := _, d_is_color := _, f_is_colored_integer := _, d_is_colored_integer := _, f_is_lineup := _, d_is_lineup := _, f_check_lineup := _, d_check_lineup := _, f_check_people := _, d_check_people := _, f_check_small := _, d_check_small := _, f_first_other_color := _, d_first_other_color := _, f_colors_by_person := _, d_colors_by_person := _, f_apply_call := _, d_apply_call := _, f_shortest_calls_to_all := _, d_shortest_calls_to_all := _, f_farthest_reachable := _, d_farthest_reachable := _, f_law := _, d_law := _, t_MOST_PEOPLE := t_MOST_PEOPLE, t_SMALL := t_SMALL } := {
    b_bool := PySem.W.mg_none_of X G z_bool,
    b_int := PySem.W.mg_none_of X G z_int,
    b_isinstance := PySem.W.mg_none_of X G z_isinstance,
    b_len := PySem.W.mg_none_of X G z_len,
    b_list := PySem.W.mg_none_of X G z_list,
    b_max := PySem.W.mg_none_of X G z_max,
    b_min := PySem.W.mg_none_of X G z_min,
    b_range := PySem.W.mg_none_of X G z_range,
    b_repr := PySem.W.mg_none_of X G z_repr,
    b_sorted := PySem.W.mg_none_of X G z_sorted,
    b_str := PySem.W.mg_none_of X G z_str,
    b_tuple := PySem.W.mg_none_of X G z_tuple,
    b_type := PySem.W.mg_none_of X G z_type,
    c_MOST_PEOPLE := PySem.W.mg_of X G a_MOST_PEOPLE,
    c_SMALL := PySem.W.mg_of X G a_SMALL,
    F__law_pool := F__law_pool,
    n__law_pool := n__law_pool,
    g__law_pool := PySem.W.mg_of X G a__law_pool,
    k__law_pool := k__law_pool,
    F__law_draw := F__law_draw,
    n__law_draw := n__law_draw,
    g__law_draw := PySem.W.mg_of X G a__law_draw,
    k__law_draw := k__law_draw,
    F__law_lineup := F__law_lineup,
    n__law_lineup := n__law_lineup,
    g__law_lineup := PySem.W.mg_of X G a__law_lineup,
    k__law_lineup := k__law_lineup,
    F__law_called := F__law_called,
    n__law_called := n__law_called,
    g__law_called := PySem.W.mg_of X G a__law_called,
    k__law_called := k__law_called,
    F__law_reachable := F__law_reachable,
    n__law_reachable := n__law_reachable,
    g__law_reachable := PySem.W.mg_of X G a__law_reachable,
    k__law_reachable := k__law_reachable,
    F__law_cell_at := F__law_cell_at,
    n__law_cell_at := n__law_cell_at,
    g__law_cell_at := PySem.W.mg_of X G a__law_cell_at,
    k__law_cell_at := k__law_cell_at,
    F__law_many := F__law_many,
    n__law_many := n__law_many,
    g__law_many := PySem.W.mg_of X G a__law_many,
    k__law_many := k__law_many,
    F_is_integer := F_is_integer,
    n_is_integer := n_is_integer,
    g_is_integer := PySem.W.mg_of X G a_is_integer,
    k_is_integer := k_is_integer,
    F_is_color := F_is_color,
    n_is_color := n_is_color,
    g_is_color := PySem.W.mg_of X G a_is_color,
    k_is_color := k_is_color,
    F_is_colored_integer := F_is_colored_integer,
    n_is_colored_integer := n_is_colored_integer,
    g_is_colored_integer := PySem.W.mg_of X G a_is_colored_integer,
    k_is_colored_integer := k_is_colored_integer,
    F_is_lineup := F_is_lineup,
    n_is_lineup := n_is_lineup,
    g_is_lineup := PySem.W.mg_of X G a_is_lineup,
    k_is_lineup := k_is_lineup,
    F_check_lineup := F_check_lineup,
    n_check_lineup := n_check_lineup,
    g_check_lineup := PySem.W.mg_of X G a_check_lineup,
    k_check_lineup := k_check_lineup,
    F_check_people := F_check_people,
    n_check_people := n_check_people,
    g_check_people := PySem.W.mg_of X G a_check_people,
    k_check_people := k_check_people,
    F_check_small := F_check_small,
    n_check_small := n_check_small,
    g_check_small := PySem.W.mg_of X G a_check_small,
    k_check_small := k_check_small,
    F_first_other_color := F_first_other_color,
    n_first_other_color := n_first_other_color,
    g_first_other_color := PySem.W.mg_of X G a_first_other_color,
    k_first_other_color := k_first_other_color,
    F_colors_by_person := F_colors_by_person,
    n_colors_by_person := n_colors_by_person,
    g_colors_by_person := PySem.W.mg_of X G a_colors_by_person,
    k_colors_by_person := k_colors_by_person,
    F_apply_call := F_apply_call,
    n_apply_call := n_apply_call,
    g_apply_call := PySem.W.mg_of X G a_apply_call,
    k_apply_call := k_apply_call,
    F_shortest_calls_to_all := F_shortest_calls_to_all,
    n_shortest_calls_to_all := n_shortest_calls_to_all,
    g_shortest_calls_to_all := PySem.W.mg_of X G a_shortest_calls_to_all,
    k_shortest_calls_to_all := k_shortest_calls_to_all,
    F_farthest_reachable := F_farthest_reachable,
    n_farthest_reachable := n_farthest_reachable,
    g_farthest_reachable := PySem.W.mg_of X G a_farthest_reachable,
    k_farthest_reachable := k_farthest_reachable,
    F_law := F_law,
    n_law := n_law,
    g_law := PySem.W.mg_of X G a_law,
    k_law := k_law }
  exact ⟨_, fun s v => .of_eq rfl, fun base _ _ => ok_law T⟩
theorem walk {l : PySem.W.OpenLaw} {q : Program} {loose : List Str} {XP : (Str → Option Value) → Heap → Prop} {YP : World → Heap → Prop} {d : DefRec} {K : Params → PySem.W.Frag} (hn : l.most = some 63) (hdf : d.params.defaults = [])
    (hY : ∀ (w : World) (h : Heap), YP w h → (K w.params).In h)
    (F : ∀ (w : World) (mg : Str → Option Value) (fa : Addr) (h : Heap), (K w.params).In h → h.Ns mainGlobals mg → mg d.name = some (.ref fa) →
      ∃ fd : FuncData, (∀ (s : Shared) (u : Value), BindsTo s fd ⟨[u], []⟩ [("script", u)]) ∧ ∀ base : Heap, (K w.params).In base → base.Ns mainGlobals mg → FnG l.prog w (K w.params) mg base 7 fa fd ["script"] (sp_law (K w.params))) :
    PySem.W.WalkO q loose XP YP l.row.toRowW d [] (fun f vs => PySem.call f vs) :=
  walk_ofG (n := 63) (k := 7) (x := "script") (sp := fun K => sp_law K) hn (by decide) hdf ⟨rfl, by decide, by decide⟩ hY F (fun _ _ a ns hl hO hS => ⟨a, ns, rfl, Scr.of hO hS, hl, fun _ => rfl⟩)
end K84

open PySem PySem.W PyProof.Rows
set_option maxRecDepth 100000 in
set_option maxHeartbeats 0 in
theorem PySem.Challenge.cw_lastother_k84_farthest_reachable_lineups_holds : PySem.Challenge.rw_lastother_k84_farthest_reachable_lineups.Holds := by
  w_on; o_law; k_head; (case hw => w_witness2)
  k_fill
  refine K84.walk (l := PySem.Challenge.rw_lastother_k84_farthest_reachable_lineups) rfl rfl (fun w h Y => PySem.W.kIn_of Y) ?F
  case F =>
    intro w mg fa h KX G hmg
    refine' K84.all_mk KX G hmg ?a__law_pool ?l__law_pool ?c__law_pool ?k__law_pool ?a__law_draw ?l__law_draw ?c__law_draw ?k__law_draw ?a__law_lineup ?l__law_lineup ?c__law_lineup ?k__law_lineup ?a__law_called ?l__law_called ?c__law_called ?k__law_called ?a__law_reachable ?l__law_reachable ?c__law_reachable ?k__law_reachable ?a__law_cell_at ?l__law_cell_at ?c__law_cell_at ?k__law_cell_at ?a__law_many ?l__law_many ?c__law_many ?k__law_many ?a_is_integer ?l_is_integer ?c_is_integer ?k_is_integer ?a_is_color ?l_is_color ?c_is_color ?k_is_color ?a_is_colored_integer ?l_is_colored_integer ?c_is_colored_integer ?k_is_colored_integer ?a_is_lineup ?l_is_lineup ?c_is_lineup ?k_is_lineup ?a_check_lineup ?l_check_lineup ?c_check_lineup ?k_check_lineup ?a_check_people ?l_check_people ?c_check_people ?k_check_people ?a_check_small ?l_check_small ?c_check_small ?k_check_small ?a_first_other_color ?l_first_other_color ?c_first_other_color ?k_first_other_color ?a_colors_by_person ?l_colors_by_person ?c_colors_by_person ?k_colors_by_person ?a_apply_call ?l_apply_call ?c_apply_call ?k_apply_call ?a_shortest_calls_to_all ?l_shortest_calls_to_all ?c_shortest_calls_to_all ?k_shortest_calls_to_all ?a_farthest_reachable ?l_farthest_reachable ?c_farthest_reachable ?k_farthest_reachable ?a_law ?l_law ?c_law ?k_law ?a_MOST_PEOPLE ?a_SMALL ?z_bool ?z_int ?z_isinstance ?z_len ?z_list ?z_max ?z_min ?z_range ?z_repr ?z_sorted ?z_str ?z_tuple ?z_type
    (case a__law_pool => k_is)
    (case l__law_pool => k_is)
    (case c__law_pool => k_is)
    (case k__law_pool => k_is)
    (case a__law_draw => k_is)
    (case l__law_draw => k_is)
    (case c__law_draw => k_is)
    (case k__law_draw => k_is)
    (case a__law_lineup => k_is)
    (case l__law_lineup => k_is)
    (case c__law_lineup => k_is)
    (case k__law_lineup => k_is)
    (case a__law_called => k_is)
    (case l__law_called => k_is)
    (case c__law_called => k_is)
    (case k__law_called => k_is)
    (case a__law_reachable => k_is)
    (case l__law_reachable => k_is)
    (case c__law_reachable => k_is)
    (case k__law_reachable => k_is)
    (case a__law_cell_at => k_is)
    (case l__law_cell_at => k_is)
    (case c__law_cell_at => k_is)
    (case k__law_cell_at => k_is)
    (case a__law_many => k_is)
    (case l__law_many => k_is)
    (case c__law_many => k_is)
    (case k__law_many => k_is)
    (case a_is_integer => k_is)
    (case l_is_integer => k_is)
    (case c_is_integer => k_is)
    (case k_is_integer => k_is)
    (case a_is_color => k_is)
    (case l_is_color => k_is)
    (case c_is_color => k_is)
    (case k_is_color => k_is)
    (case a_is_colored_integer => k_is)
    (case l_is_colored_integer => k_is)
    (case c_is_colored_integer => k_is)
    (case k_is_colored_integer => k_is)
    (case a_is_lineup => k_is)
    (case l_is_lineup => k_is)
    (case c_is_lineup => k_is)
    (case k_is_lineup => k_is)
    (case a_check_lineup => k_is)
    (case l_check_lineup => k_is)
    (case c_check_lineup => k_is)
    (case k_check_lineup => k_is)
    (case a_check_people => k_is)
    (case l_check_people => k_is)
    (case c_check_people => k_is)
    (case k_check_people => k_is)
    (case a_check_small => k_is)
    (case l_check_small => k_is)
    (case c_check_small => k_is)
    (case k_check_small => k_is)
    (case a_first_other_color => k_is)
    (case l_first_other_color => k_is)
    (case c_first_other_color => k_is)
    (case k_first_other_color => k_is)
    (case a_colors_by_person => k_is)
    (case l_colors_by_person => k_is)
    (case c_colors_by_person => k_is)
    (case k_colors_by_person => k_is)
    (case a_apply_call => k_is)
    (case l_apply_call => k_is)
    (case c_apply_call => k_is)
    (case k_apply_call => k_is)
    (case a_shortest_calls_to_all => k_is)
    (case l_shortest_calls_to_all => k_is)
    (case c_shortest_calls_to_all => k_is)
    (case k_shortest_calls_to_all => k_is)
    (case a_farthest_reachable => k_is)
    (case l_farthest_reachable => k_is)
    (case c_farthest_reachable => k_is)
    (case k_farthest_reachable => k_is)
    (case a_law => k_is)
    (case l_law => k_is)
    (case c_law => k_is)
    (case k_law => k_is)
    (case a_MOST_PEOPLE => k_is)
    (case a_SMALL => k_is)
    (case z_bool => k_is)
    (case z_int => k_is)
    (case z_isinstance => k_is)
    (case z_len => k_is)
    (case z_list => k_is)
    (case z_max => k_is)
    (case z_min => k_is)
    (case z_range => k_is)
    (case z_repr => k_is)
    (case z_sorted => k_is)
    (case z_str => k_is)
    (case z_tuple => k_is)
    (case z_type => k_is)
