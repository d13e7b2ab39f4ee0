import PyProof.Rows.All
import Wide.All
import OpenK.AllK
import Wide.FinOn
import HandS.ForMost
import HandS.ForExc
import HandS.Zip
import HandS.Wide
import HandS.WideBits
import HandS.IsInst
import HandS.Style
import HandS.Conv
import HandS.Flow
import HandS.RevRange
import HandS.SortOrd
import HandS.TupLe
import HandS.EndBits
import HandS.StrMore
import HandS.Codes
import HandS.CallSlots
import HandS.RaiseOp
import KE.SortData
import HandS.Hot
import HandS.HotCalls
import HandS.ExcCtx
import HandS.ExcIs
import HandS.CallLocal
import HandS.SuiteRaise
import HandS.ExcOwn
import KE.RegKIsAll
import KE.RegKTryMore
import KE.KOwnIn
import HandS.AnyAll
import HandS.JoinGen
import HandS.EndTab
import HandS.EndOwn
import HandS.FStr
import HandS.More
import PySem.Challenge.RW_wheelways_k06_refused
set_option Elab.async false
set_option linter.all false
set_option maxRecDepth 100000
set_option maxHeartbeats 4000000
local macro_rules | `(tactic| walk_at "w") => `(tactic| repeat (first | refine ⟨_, rfl, ?_⟩ | refine ⟨_, _, rfl, rfl, ?_⟩ | refine ⟨rfl, ?_⟩))
/-! Plain mathematics of wheels: products, the reflected way, distances. No Python here. -/
namespace Ww

/-- the product of sizes, over the wheels from the last one on -/
def prd : List Int → Int
  | [] => 1
  | s :: r => prd r * s
def ones (l : List Int) : Prop := ∀ s ∈ l, 1 ≤ s
theorem ones_tail {s : Int} {r : List Int} (h : ones (s :: r)) : ones r := fun x hx => h x (List.mem_cons_of_mem _ hx)
theorem ones_head {s : Int} {r : List Int} (h : ones (s :: r)) : 1 ≤ s := h s List.mem_cons_self
theorem prd_pos : ∀ {l : List Int}, ones l → 1 ≤ prd l
  | [], _ => Int.le_refl 1
  | s :: r, h => by
    have h1 := prd_pos (ones_tail h)
    have h2 := ones_head h
    show 1 ≤ prd r * s
    have h3 : 1 * 1 ≤ prd r * s := Int.mul_le_mul h1 h2 (by omega) (by omega)
    omega
theorem prd_append : ∀ (a b : List Int), prd (a ++ b) = prd a * prd b
  | [], b => by show prd b = 1 * prd b; omega
  | s :: a, b => by
    show prd (a ++ b) * s = prd a * s * prd b
    rw [prd_append a b, Int.mul_assoc, Int.mul_comm (prd b) s, ← Int.mul_assoc]
theorem prd_reverse : ∀ (l : List Int), prd l.reverse = prd l
  | [] => rfl
  | s :: r => by
    rw [List.reverse_cons, prd_append, prd_reverse r]
    show prd r * (1 * s) = prd r * s
    rw [Int.one_mul]

/-- a wheel's number, counted from its other end where the number ahead is odd -/
def mir (s p a : Int) : Int := if (a % 2 != 0) = true then s - 1 - p else p
theorem mir_cases (s p a : Int) : (a % 2 = 0 ∧ mir s p a = p) ∨ (a % 2 = 1 ∧ mir s p a = s - 1 - p) := by
  unfold mir
  have h : a % 2 = 0 ∨ a % 2 = 1 := by omega
  rcases h with h | h
  · rw [h]; left; exact ⟨rfl, rfl⟩
  · rw [h]; right; exact ⟨rfl, rfl⟩
theorem mir_mir (s p a : Int) : mir s (mir s p a) a = p := by
  rcases mir_cases s p a with ⟨h, e⟩ | ⟨h, e⟩
  · rcases mir_cases s (mir s p a) a with ⟨h2, e2⟩ | ⟨h2, e2⟩
    · rw [e2, e]
    · omega
  · rcases mir_cases s (mir s p a) a with ⟨h2, e2⟩ | ⟨h2, e2⟩
    · omega
    · rw [e2, e]; omega
theorem mir_in {s p a : Int} (h0 : 0 ≤ p) (h1 : p < s) : 0 ≤ mir s p a ∧ mir s p a < s := by
  rcases mir_cases s p a with ⟨_, e⟩ | ⟨_, e⟩ <;> rw [e] <;> omega

/-- a setting of wheels -/
def okS : List Int → List Int → Prop
  | [], [] => True
  | s :: r, p :: q => 0 ≤ p ∧ p < s ∧ okS r q
  | _, _ => False
theorem okS_len : ∀ {l q : List Int}, okS l q → q.length = l.length
  | [], [], _ => rfl
  | [], _ :: _, h => h.elim
  | _ :: _, [], h => h.elim
  | _ :: r, _ :: q, h => by rw [List.length_cons, List.length_cons, okS_len h.2.2]
theorem okS_append : ∀ {a b c d : List Int}, okS a b → okS c d → okS (a ++ c) (b ++ d)
  | [], [], _, _, _, h => h
  | [], _ :: _, _, _, h, _ => h.elim
  | _ :: _, [], _, _, h, _ => h.elim
  | _ :: _, _ :: _, _, _, h, h2 => ⟨h.1, h.2.1, okS_append h.2.2 h2⟩
theorem okS_reverse : ∀ {a b : List Int}, okS a b → okS a.reverse b.reverse
  | [], [], _ => trivial
  | [], _ :: _, h => h.elim
  | _ :: _, [], h => h.elim
  | s :: a, p :: b, h => by
    rw [List.reverse_cons, List.reverse_cons]
    exact okS_append (okS_reverse h.2.2) ⟨h.1, h.2.1, trivial⟩
theorem okS_at : ∀ {l q : List Int}, okS l q → ∀ {i : Nat} {s p : Int}, l[i]? = some s → q[i]? = some p → 0 ≤ p ∧ p < s
  | [], [], _, i, s, p, h, _ => by simp at h
  | [], _ :: _, h, _, _, _, _, _ => h.elim
  | _ :: _, [], h, _, _, _, _, _ => h.elim
  | x :: r, y :: q, h, 0, s, p, e1, e2 => by
    have a : x = s := Option.some.inj e1
    have b : y = p := Option.some.inj e2
    subst a b
    exact ⟨h.1, h.2.1⟩
  | x :: r, y :: q, h, i + 1, s, p, e1, e2 => okS_at h.2.2 (i := i) e1 e2
theorem okS_of : ∀ {l q : List Int}, q.length = l.length → (∀ (i : Nat) (s p : Int), l[i]? = some s → q[i]? = some p → 0 ≤ p ∧ p < s) → okS l q
  | [], [], _, _ => trivial
  | [], _ :: _, h, _ => by simp at h
  | _ :: _, [], h, _ => by simp at h
  | x :: r, y :: q, h, k => ⟨(k 0 x y rfl rfl).1, (k 0 x y rfl rfl).2, okS_of (by simpa using h) fun i s p e1 e2 => k (i + 1) s p e1 e2⟩

/-- the number of a setting on the way, over the wheels from the last one on -/
def nofR : List Int → List Int → Int
  | s :: r, p :: q => nofR r q * s + mir s p (nofR r q)
  | _, _ => 0
/-- the setting of a number, from the last wheel on -/
def sof : List Int → Int → List Int
  | [], _ => []
  | s :: r, n => mir s (n % s) (n / s) :: sof r (n / s)
def ahd : List Int → Int → Int
  | [], n => n
  | s :: r, n => ahd r (n / s)
theorem sof_len : ∀ (l : List Int) (n : Int), (sof l n).length = l.length
  | [], _ => rfl
  | _ :: r, n => by show (sof r _).length + 1 = r.length + 1; rw [sof_len r]
theorem sof_snoc : ∀ (l : List Int) (s n : Int), sof (l ++ [s]) n = sof l n ++ [mir s (ahd l n % s) (ahd l n / s)]
  | [], _, _ => rfl
  | x :: l, s, n => by
    show mir x (n % x) (n / x) :: sof (l ++ [s]) (n / x) = mir x (n % x) (n / x) :: sof l (n / x) ++ [_]
    rw [sof_snoc l s (n / x)]
    rfl
theorem ahd_snoc : ∀ (l : List Int) (s n : Int), ahd (l ++ [s]) n = ahd l n / s
  | [], _, _ => rfl
  | x :: l, s, n => ahd_snoc l s (n / x)
theorem ahd_nn : ∀ {l : List Int} {n : Int}, ones l → 0 ≤ n → 0 ≤ ahd l n
  | [], _, _, h => h
  | s :: r, n, ho, h => by
    have hs := ones_head ho
    exact ahd_nn (l := r) (n := n / s) (ones_tail ho) (Int.ediv_nonneg h (by omega))
theorem div_lt {n s a : Int} (hs : 1 ≤ s) (h : n < a * s) : n / s < a := Int.ediv_lt_of_lt_mul (by omega) h
theorem mod_in {n s : Int} (hs : 1 ≤ s) : 0 ≤ n % s ∧ n % s < s := ⟨Int.emod_nonneg _ (by omega), Int.emod_lt_of_pos _ (by omega)⟩
theorem sof_ok : ∀ {l : List Int} {n : Int}, ones l → okS l (sof l n)
  | [], _, _ => trivial
  | s :: r, n, ho => by
    have h := mod_in (n := n) (ones_head ho)
    have h2 := mir_in (a := n / s) h.1 h.2
    exact ⟨h2.1, h2.2, sof_ok (ones_tail ho)⟩
theorem nof_sof : ∀ {l : List Int} {n : Int}, ones l → 0 ≤ n → n < prd l → nofR l (sof l n) = n
  | [], n, _, h0, h1 => by
    have : prd [] = 1 := rfl
    show (0 : Int) = n
    omega
  | s :: r, n, ho, h0, h1 => by
    have hs := ones_head ho
    have ih := nof_sof (l := r) (n := n / s) (ones_tail ho) (Int.ediv_nonneg h0 (by omega)) (div_lt hs h1)
    show nofR r (sof r (n / s)) * s + mir s (mir s (n % s) (n / s)) (nofR r (sof r (n / s))) = n
    rw [ih, mir_mir]
    have := Int.mul_ediv_add_emod n s
    rw [Int.mul_comm] at this
    exact this
theorem nof_in : ∀ {l q : List Int}, okS l q → 0 ≤ nofR l q ∧ nofR l q < prd l
  | [], [], _ => by
    show (0 : Int) ≤ 0 ∧ (0 : Int) < 1
    omega
  | [], _ :: _, h => h.elim
  | _ :: _, [], h => h.elim
  | s :: r, p :: q, h => by
    obtain ⟨a, b⟩ := nof_in h.2.2
    have m := mir_in (a := nofR r q) h.1 h.2.1
    show 0 ≤ nofR r q * s + mir s p (nofR r q) ∧ nofR r q * s + mir s p (nofR r q) < prd r * s
    have hs : 0 ≤ s := by have := h.1; have := h.2.1; omega
    have h1 : 0 ≤ nofR r q * s := Int.mul_nonneg a hs
    have h2 : (nofR r q + 1) * s ≤ prd r * s := Int.mul_le_mul_of_nonneg_right (by omega) hs
    rw [Int.add_mul, Int.one_mul] at h2
    omega
theorem sof_nof : ∀ {l q : List Int}, okS l q → sof l (nofR l q) = q
  | [], [], _ => rfl
  | [], _ :: _, h => h.elim
  | _ :: _, [], h => h.elim
  | s :: r, p :: q, h => by
    have ih := sof_nof h.2.2
    have m := mir_in (a := nofR r q) h.1 h.2.1
    have hs : s ≠ 0 := by have := h.1; have := h.2.1; omega
    have e1 : (nofR r q * s + mir s p (nofR r q)) / s = nofR r q := by
      rw [Int.add_comm, Int.add_mul_ediv_right _ _ hs, Int.ediv_eq_zero_of_lt m.1 m.2]
      omega
    have e2 : (nofR r q * s + mir s p (nofR r q)) % s = mir s p (nofR r q) := by
      rw [Int.add_comm, Int.add_mul_emod_self_right, Int.emod_eq_of_lt m.1 m.2]
    show mir s ((nofR r q * s + mir s p (nofR r q)) % s) ((nofR r q * s + mir s p (nofR r q)) / s) :: sof r ((nofR r q * s + mir s p (nofR r q)) / s) = p :: q
    rw [e1, e2, mir_mir, ih]
theorem sof_zero : ∀ {l : List Int}, ones l → sof l 0 = List.replicate l.length 0
  | [], _ => rfl
  | s :: r, ho => by
    have e : sof (s :: r) 0 = mir s (0 % s) (0 / s) :: sof r (0 / s) := rfl
    rw [e, Int.zero_ediv, Int.zero_emod, sof_zero (ones_tail ho)]
    rfl

def absI (n : Int) : Int := if n < 0 then -n else n
theorem absI_eq (n : Int) : absI n = (n.natAbs : Int) := by
  unfold absI
  split <;> omega
/-- how far two settings are apart -/
def dist : List Int → List Int → Int
  | a :: r, b :: q => absI (a - b) + dist r q
  | _, _ => 0
theorem dist_self : ∀ l : List Int, dist l l = 0
  | [] => rfl
  | a :: r => by
    show absI (a - a) + dist r r = 0
    rw [dist_self r, Int.sub_self]
    rfl
theorem dist_comm : ∀ a b : List Int, dist a b = dist b a
  | [], [] => rfl
  | [], _ :: _ => rfl
  | _ :: _, [] => rfl
  | x :: a, y :: b => by
    show absI (x - y) + dist a b = absI (y - x) + dist b a
    rw [dist_comm a b, absI_eq, absI_eq]
    omega
theorem dist_append : ∀ {a b c d : List Int}, a.length = b.length → dist (a ++ c) (b ++ d) = dist a b + dist c d
  | [], [], c, d, _ => by
    show dist c d = 0 + dist c d
    omega
  | [], _ :: _, _, _, h => by simp at h
  | _ :: _, [], _, _, h => by simp at h
  | x :: a, y :: b, c, d, h => by
    show absI (x - y) + dist (a ++ c) (b ++ d) = absI (x - y) + dist a b + dist c d
    rw [dist_append (a := a) (b := b) (by simpa using h)]
    omega
theorem dist_reverse : ∀ {a b : List Int}, a.length = b.length → dist a.reverse b.reverse = dist a b
  | [], [], _ => rfl
  | [], _ :: _, h => by simp at h
  | _ :: _, [], h => by simp at h
  | x :: a, y :: b, h => by
    have h2 : a.length = b.length := by simpa using h
    rw [List.reverse_cons, List.reverse_cons, dist_append (by rw [List.length_reverse, List.length_reverse]; exact h2), dist_reverse h2]
    show _ + (absI (x - y) + 0) = absI (x - y) + dist a b
    omega
theorem sof_step : ∀ {l : List Int} {n : Int}, ones l → 0 ≤ n → n + 1 < prd l → dist (sof l n) (sof l (n + 1)) = 1
  | [], n, _, h0, h1 => by
    have : prd [] = 1 := rfl
    omega
  | s :: r, n, ho, h0, h1 => by
    have hs := ones_head ho
    have hm := mod_in (n := n) hs
    have ed := Int.mul_ediv_add_emod n s
    have ez : s ≠ 0 := by omega
    show absI (mir s (n % s) (n / s) - mir s ((n + 1) % s) ((n + 1) / s)) + dist (sof r (n / s)) (sof r ((n + 1) / s)) = 1
    by_cases c : n % s + 1 < s
    · have e1 : (n + 1) / s = n / s := by
        have : n + 1 = (n % s + 1) + s * (n / s) := by omega
        rw [this, Int.add_mul_ediv_left _ _ ez, Int.ediv_eq_zero_of_lt (by omega) c]
        omega
      have e2 : (n + 1) % s = n % s + 1 := by
        have : n + 1 = (n % s + 1) + s * (n / s) := by omega
        rw [this, Int.add_mul_emod_self_left, Int.emod_eq_of_lt (by omega) c]
      rw [e1, e2, dist_self]
      rcases mir_cases s (n % s) (n / s) with ⟨p, e⟩ | ⟨p, e⟩
      · rcases mir_cases s (n % s + 1) (n / s) with ⟨p2, f⟩ | ⟨p2, f⟩
        · rw [e, f, absI_eq]; omega
        · omega
      · rcases mir_cases s (n % s + 1) (n / s) with ⟨p2, f⟩ | ⟨p2, f⟩
        · omega
        · rw [e, f, absI_eq]; omega
    · have em : n % s = s - 1 := by omega
      have e1 : (n + 1) / s = n / s + 1 := by
        have : n + 1 = s * (n / s + 1) := by
          rw [Int.mul_add, Int.mul_one]
          omega
        rw [this, Int.mul_ediv_cancel_left _ ez]
      have e2 : (n + 1) % s = 0 := by
        have : n + 1 = s * (n / s + 1) := by
          rw [Int.mul_add, Int.mul_one]
          omega
        rw [this, Int.mul_emod_right]
      have hb : n / s + 1 < prd r := by
        have := div_lt hs h1
        omega
      have ih := sof_step (l := r) (n := n / s) (ones_tail ho) (Int.ediv_nonneg h0 (by omega)) hb
      rw [e1, e2, ih, em]
      have z : mir s (s - 1) (n / s) = mir s 0 (n / s + 1) := by
        rcases mir_cases s (s - 1) (n / s) with ⟨p, e⟩ | ⟨p, e⟩
        · rcases mir_cases s 0 (n / s + 1) with ⟨p2, f⟩ | ⟨p2, f⟩
          · omega
          · rw [e, f]; omega
        · rcases mir_cases s 0 (n / s + 1) with ⟨p2, f⟩ | ⟨p2, f⟩
          · rw [e, f]; omega
          · omega
      rw [z, Int.sub_self]
      rfl
end Ww
/-! what every proof over the wheels leans on: a def at its place in the text (Df), a def that keeps a promise (Ok), its call as a rule (pe_ok), the built-ins (Bi) -/
namespace Ww
open PySem PySem.Spec PyProof.Rows L2
/-- the def x of the text st, as the top has left it -/
structure At (K : PySem.W.Frag) (mg : Str → Option Value) (x : Str) (st : Stmt) (ps : List Str) (f : Addr) (fd : FuncData) : Prop where
  F : Fun K x x st f fd
  g : mg x = some (.ref f)
  b : Binds K fd ps []
def Df (K : PySem.W.Frag) (mg : Str → Option Value) (x : Str) (st : Stmt) (ps : List Str) : Prop := ∃ f fd, At K mg x st ps f fd
/-- the def x keeps the promise sp, whatever CX lets out -/
structure OkC (P : Program) (w : World) (K : PySem.W.Frag) (mg : Str → Option Value) (base : Heap) (CX : CXT) (x : Str) (ps : List Str) (k : Nat) (sp : Sp) : Prop where
  ex : ∃ (f : Addr) (fd : FuncData), mg x = some (.ref f) ∧ PySem.W.keepIn K (.ref f) = true ∧ Binds K fd ps [] ∧ FnOk P w K mg base CX k f fd ps sp
abbrev Ok (P : Program) (w : World) (K : PySem.W.Frag) (mg : Str → Option Value) (base : Heap) (x : Str) (ps : List Str) (k : Nat) (sp : Sp) : Prop := OkC P w K mg base CX0 x ps k sp
theorem pe_ok {X : Cx} {x : Str} {ps : List Str} {k j : Nat} {sp : Sp} {e : Expr} {es : List Expr} {t : TA} {p pos : Pos} (C : Ok X.prog X.w X.K X.mg X.base x ps k sp) (hr : Room j X.A) (hk : k ≤ j) (ha : PA X (e :: es) t) (hg : Gl X x := by rfl)
    (hdb : (x == ("__debug__" : Str)) = false := by decide) (he : starEach (e :: es) X.env = (false, eval e X.env) :: starEach es X.env := by rfl) (hpl : (backTo pos (starEach es X.env)).any (·.1) = false := by rfl) :
    PE X (.Call (.Name x p) (e :: es) [] pos) (tCall sp [] E0 t) := by
  obtain ⟨f, fd, g, kp, b, F⟩ := C.ex
  exact pe_call F (hr.mono hk) hg g kp b .nil pass0 ha hdb he hpl
theorem At.ok {P : Program} {w : World} {K : PySem.W.Frag} {mg : Str → Option Value} {base : Heap} {x : Str} {st : Stmt} {N ps : List Str} {k : Nat} {sp : Sp} {f : Addr} {fd : FuncData} (D : At K mg x st ps f fd) (S : FnScope N ps (defScope st)) (len : ∀ vs H Q E, sp vs H Q E → vs.length = ps.length)
    (hbody : ∀ (cdv : Value) (A : Around) (outer : List Env) (s : Shared) (H : Hp) (vs : List V) (Q : VK) (E : XK), Room k (A.deeper (envOfC x (defScope st) s.heap.objs.size f cdv)) → sp vs H Q E →
      ∃ t, PSs (cxOf CX0 P w K mg base N x (defScope st) f cdv A outer s H E).nox (defBody st) t ∧ t { nx := fun _ H' => Q .non H', rt := Q } (start N vs) H) : FnOk P w K mg base CX0 (k + 1) f fd ps sp := D.F.ok S len hbody
theorem Df.ok {P : Program} {w : World} {K : PySem.W.Frag} {mg : Str → Option Value} {base : Heap} {x : Str} {st : Stmt} {N ps : List Str} {k : Nat} {sp : Sp} (D : Df K mg x st ps) (S : FnScope N ps (defScope st)) (len : ∀ vs H Q E, sp vs H Q E → vs.length = ps.length)
    (hbody : ∀ (f : Addr) (cdv : Value) (A : Around) (outer : List Env) (s : Shared) (H : Hp) (vs : List V) (Q : VK) (E : XK), Room k (A.deeper (envOfC x (defScope st) s.heap.objs.size f cdv)) → sp vs H Q E →
      ∃ t, PSs (cxOf CX0 P w K mg base N x (defScope st) f cdv A outer s H E).nox (defBody st) t ∧ t { nx := fun _ H' => Q .non H', rt := Q } (start N vs) H) : Ok P w K mg base x ps (k + 1) sp := by
  obtain ⟨f, fd, F, g, b⟩ := D
  exact ⟨f, fd, g, F.kp, b, F.ok S len fun cdv A outer s H vs Q E hr h => hbody f cdv A outer s H vs Q E hr h⟩
theorem OkC.mono {P : Program} {w : World} {K : PySem.W.Frag} {mg : Str → Option Value} {base : Heap} {CX : CXT} {x : Str} {ps : List Str} {k j : Nat} {sp : Sp} (C : OkC P w K mg base CX x ps k sp) (h : k ≤ j) : OkC P w K mg base CX x ps j sp := by
  obtain ⟨f, fd, g, kp, b, F⟩ := C.ex
  exact ⟨f, fd, g, kp, b, F.mono h⟩
/-- the built-ins stand -/
structure Bi (mg : Str → Option Value) : Prop where
  len : mg "len" = none
  range : mg "range" = none
  zip : mg "zip" = none
  reversed : mg "reversed" = none
  divmod : mg "divmod" = none
  enumerate : mg "enumerate" = none
  any : mg "any" = none
  all : mg "all" = none
  sum : mg "sum" = none
  abs : mg "abs" = none
  min : mg "min" = none
  list : mg "list" = none
  int : mg "int" = none
  bool : mg "bool" = none
  str : mg "str" = none
  tuple : mg "tuple" = none
  isinstance : mg "isinstance" = none
  sorted : mg "sorted" = none
/-! ### what stays: objects as they stand, a code object's table as a table (it may grow) -/
/-- of an object o that stood: what stands there now -/
def St : HO → Option HO → Prop
  | .tbl ps, v => ∃ ps' : Array Value, v = some (.tbl ps') ∧ (TriplesOk ps.toList → TriplesOk ps'.toList)
  | o, v => v = some o
theorem St.self {o : HO} {v : Option HO} (e : v = some o) : St o v := by
  cases o <;> first | exact e | exact ⟨_, e, fun h => h⟩
theorem St.some {o : HO} {v : Option HO} (h : St o v) : ∃ u, v = some u := by
  cases o <;> first | exact ⟨_, h⟩ | exact ⟨_, h.choose_spec.1⟩
def Same (H H' : Hp) : Prop := ∀ b o, H b = some o → St o (H' b)
theorem Same.refl (H : Hp) : Same H H := fun _ _ h => .self h
theorem Same.of {H H' : Hp} (h : L2.Same H H') : Same H H' := fun b o e => .self (h b o e)
theorem Same.trans {H H1 H2 : Hp} (a : Same H H1) (b : Same H1 H2) : Same H H2 := fun c o e => by
  have h := a c o e
  cases o with
  | tbl ps =>
    obtain ⟨p1, e1, t1⟩ := h
    obtain ⟨p2, e2, t2⟩ := b c _ e1
    exact ⟨p2, e2, fun t => t2 (t1 t)⟩
  | _ => exact b c _ h
theorem Same.free {H H' : Hp} (s : Same H H') {l : Addr} (h : H' l = none) : H l = none := by
  cases e : H l with
  | none => rfl
  | some o =>
    obtain ⟨u, hu⟩ := (s l o e).some
    rw [h] at hu
    cases hu
theorem Same.ne {H H' : Hp} (s : Same H H') {b p : Addr} {o : HO} (e : H b = some o) (n : H' p = none) : b ≠ p := ne_of_none e (s.free n)
theorem Same.seq {K : PySem.W.Frag} {H H' : Hp} {a : Addr} {xs : List V} (s : Same H H') (h : SqL K H a xs) : SqL K H' a xs := by
  rcases h with (h | ⟨o, h⟩) | h
  · exact .inl (.inl (s _ _ h))
  · exact .inl (.inr ⟨o, s _ _ h⟩)
  · exact .inr h
theorem same_upd {H : Hp} {p : Addr} {o : HO} (h : H p = none) : Same H (upd H p o) := fun b x e => by
  rw [upd_ne (ne_of_none e h)]
  exact .self e
/-- what came after may change -/
theorem Same.put {H H' : Hp} {p : Addr} {o : HO} (s : Same H H') (h : H p = none) : Same H (upd H' p o) := fun b x e => by
  rw [upd_ne (ne_of_none e h)]
  exact s _ _ e
theorem map_int_at {ns : List Int} {i : Nat} {y : V} (h : (ns.map V.int)[i]? = some y) : ∃ z, ns[i]? = some z ∧ y = V.int z := by
  rw [List.getElem?_map] at h
  cases e : ns[i]? with
  | none => rw [e] at h; cases h
  | some z => rw [e] at h; exact ⟨z, rfl, (Option.some.inj h).symm⟩
theorem at_map_int {ns : List Int} {i : Nat} {z : Int} (h : ns[i]? = some z) : (ns.map V.int)[i]? = some (V.int z) := by
  rw [List.getElem?_map, h]
  rfl
theorem take_more {α : Type} : ∀ {l : List α} {i : Nat} {x : α}, l[i]? = some x → l.take (i + 1) = l.take i ++ [x]
  | [], i, x, h => by simp at h
  | a :: l, 0, x, h => by
    have e : a = x := Option.some.inj h
    subst e
    rfl
  | a :: l, i + 1, x, h => by
    have ih := take_more (l := l) (i := i) (x := x) h
    show a :: l.take (i + 1) = a :: l.take i ++ [x]
    rw [ih]
    rfl
theorem lt_line {n : Nat} (h : n ≤ 100000) : n < sizeLine := Nat.lt_of_le_of_lt h (by decide)
theorem le_line {n : Nat} (h : n ≤ 100000) : n ≤ sizeLine := Nat.le_of_lt (lt_line h)
/-! the layer's rules with the written part told by name (so that they serve within comprehensions) -/
section
variable {X : Cx}
theorem ixL (K : PySem.W.Frag) (h : X.K = K := by rfl) : IxR X (rIxL K) := by subst h; exact ix_list
theorem ixT (K : PySem.W.Frag) (h : X.K = K := by rfl) : IxR X (rIxT K) := by subst h; exact ix_tup
theorem isiK (K : PySem.W.Frag) (h : X.K = K := by rfl) : CallR X (.builtin "isinstance") (rIsi K) := by subst h; exact call_isi
theorem lenK (K : PySem.W.Frag) (h : X.K = K := by rfl) : CallR X (.builtin "len") (fun xs H Q => ∃ p ys, xs = [.ref p] ∧ (SqL K H p ys ∨ SqT K H p ys) ∧ Q (.int ys.length) H) := by subst h; exact call_len_seq
theorem listK (K : PySem.W.Frag) (h : X.K = K := by rfl) : CallR X (.type "list") (fun xs H Q => ∃ p ys, xs = [.ref p] ∧ (SqL K H p ys ∨ SqT K H p ys) ∧ ∀ l, H l = none → Q (.ref l) (upd H l (.lst ys))) := by subst h; exact call_list_of
theorem anyK (K : PySem.W.Frag) (hc : X.calm = true) (h : X.K = K := by rfl) : CallR X (.builtin "any") (rAny K) := by subst h; exact cr_any hc
theorem allK (K : PySem.W.Frag) (hc : X.calm = true) (h : X.K = K := by rfl) : CallR X (.builtin "all") (rAll K) := by subst h; exact cr_all hc
theorem sumK (K : PySem.W.Frag) (hc : X.calm = true) (h : X.K = K := by rfl) : CallR X (.builtin "sum") (rSum K) := by subst h; exact cr_sum hc
theorem slL (K : PySem.W.Frag) (h : X.K = K := by rfl) : SlR X (rSlL K) := by subst h; exact sl_list
theorem inK (K : PySem.W.Frag) (h : X.K = K := by rfl) : OpR X (compareOp .In) (rIn K false) := by subst h; exact op_in_seq
theorem notInK (K : PySem.W.Frag) (h : X.K = K := by rfl) : OpR X (compareOp .NotIn) (rIn K true) := by subst h; exact op_notIn_seq
theorem eqDK (K : PySem.W.Frag) (hu : X.A.units + 64 < cLine) (h : X.K = K := by rfl) : OpR X (compareOp .Eq) (rEqD K) := by subst h; exact op_eqD hu
theorem neDK (K : PySem.W.Frag) (hu : X.A.units + 64 < cLine) (h : X.K = K := by rfl) : OpR X (compareOp .NotEq) (rNeD K) := by subst h; exact op_neD hu
end
/-- isinstance(x, T), T a built-in type -/
theorem isi_ty {K : PySem.W.Frag} {H : Hp} {x : V} {t T : String} {b : Bool} {Q : VK} (ty : TyX K H x (.type t)) (h : kitB t T = some b) (q : Q (.bl b) H) : rIsi K [x, .ty T] H Q :=
  ⟨x, .ty T, .type t, .type T, b, rfl, .ty T, ty, kit_ty h, q⟩
end Ww
/-! all(test for x in xs) over a list of whole numbers, by a generator expression; the def's table of code objects may grow -/
namespace Ww
open PySem PySem.Spec PyProof.Rows L2 GxR
/-- the element: a test of the number z -/
def EltI (prog : Program) (w : World) (scope : Scope) (x : Str) (elt : Expr) (pb : Int → Bool) : Prop :=
  ∀ (cenv : Env) (A' : Around) (E' : Value → Shared → Prop) (z : Int) (t : Tok) (s₂ : Shared) (m₂ : Str → Option Value), cenv.scope = scope → s₂.heap.Ns cenv.locals m₂ → m₂ x = some (.int z t) →
    wpAny (model prog w) A' (eval elt cenv) (fun y s₃ => y = .bool (pb z) ∧ Keeps s₂ s₃) E' s₂
/-- x & 1 == 1 -/
theorem elt_odd {prog : Program} {w : World} {scope : Scope} {x : Str} {j k : Nat} {p1 p2 p3 p4 p5 : Pos} (hk : scope.kind = .function) (hl : scope.names.lookup x = some .local) (hd : (x == ("__debug__" : Str)) = false := by decide) :
    EltI prog w scope x (.Compare (.BinOp (.Name x p1) .BitAnd (.Constant (.int 1) j p2) p3) [.Eq] [.Constant (.int 1) k p4] p5) (fun z => decide (z % 2 = 1)) := by
  intro cenv A' E' z t s₂ m₂ hs hn hm
  refine wpAny_Compare1 ?_
  refine wpAny_BinOp ?_
  refine wpAny_Name (wpAny_loadName_local (by rw [hs]; exact hk) (show cenv.scope.names.lookup x = some .local by rw [hs]; exact hl) hn hm ?_) hd
  refine wpAny_Constant_int ?_
  refine and_int ?_
  refine wpAny_Constant_int ?_
  refine eq_int ?_
  have e : Builtin.bitAnd z 1 = z % 2 := PySem.W.kbt_mask z 1
  refine ⟨?_, keeps_tok _ _⟩
  rw [e]
  rfl
def trI (pb : Int → Bool) (l : List Int) (j : Nat) : Bool := match l[j]? with
  | some b => pb b
  | none => false
theorem trI_some {pb : Int → Bool} {l : List Int} {j : Nat} {b : Int} (h : l[j]? = some b) : trI pb l j = pb b := by
  unfold trI
  rw [h]
theorem all_trI (l : List Int) (pb : Int → Bool) : (List.range l.length).all (trI pb l) = l.all pb := by
  rw [Bool.eq_iff_iff, List.all_eq_true, List.all_eq_true]
  constructor
  · intro h b hb
    obtain ⟨j, hj, e⟩ := List.getElem_of_mem hb
    have q := h j (List.mem_range.mpr hj)
    rw [trI_some (List.getElem?_eq_getElem hj), e] at q
    exact q
  · intro h j hj
    have hj' := List.mem_range.mp hj
    rw [trI_some (List.getElem?_eq_getElem hj')]
    exact h _ (List.getElem_mem hj')
section
variable {X : Cx} {pins : List (Addr × Obj)} {σ : L2.St} {H : Hp} {s : Shared}
def ReadyI (X : Cx) (pins : List (Addr × Obj)) (σ : L2.St) (H1 : Hp) (P : Addr) (ns : List Int) (pb : Int → Bool) (g : Addr) (s5 : Shared) : Prop :=
  ∃ (fp wr : List Addr) (G : Array GenState → Array GenState → Prop) (F : Nat → Value → Prop) (St : Nat → Shared → Prop),
    WalksS X.prog X.w X.A.in1 g fp wr G ns.length F St ∧ St 0 s5 ∧
    TruthOf X.prog X.w X.A.in1 F (trI pb ns) ∧
    ∀ s', Moved wr G s5 s' → ∃ H2, Tabbed P H1 H2 ∧ Inv X pins σ H2 s'
theorem gen_int {c P : Addr} {elt iter : Expr} {x : Str} {px gpos : Pos} {scope : Scope} {pb : Int → Bool} {te : TE} {k : Nat} {Q' : Value → Shared → Prop} {R : List Int → Hp → Prop}
    (hr : Room k X.A) (TB : TabB X.base X.mg c P) (hcode : X.env.code = .ref c) (S : GenS X.env scope x) (hi : PE X iter te) (hel : EltI X.prog X.w scope x elt pb)
    (hs : ∀ v, genFold iter X.env v = pure v) (I : Inv X pins σ H s) (h : te σ H fun v H1 => ∃ (yl : Addr) (ns : List Int), v = .ref yl ∧ SqL X.K H1 yl (ns.map V.int) ∧ TabG H1 P ∧ R ns H1)
    (hQ : ∀ ns H1 g s5, R ns H1 → ReadyI X pins σ H1 P ns pb g s5 → Q' (.ref g) s5) :
    wpAny (model X.prog X.w) X.A (eval (.GeneratorExp elt [⟨.Name x px, iter, [], 0⟩] scope gpos) X.env) Q' X.xe s := by
  refine wpAny_GeneratorExp_walksQ hr.hd S.co (closure_ok S.free) S.cell S.dot S.loc S.kind (by have := hr.dp; omega) ?_ hs
  refine thn (hi.run pins s σ H _ I h) fun xv s1 ⟨v, H1, I1, r1, q1⟩ => ?_
  obtain ⟨yl, ns, rfl, hyl, ⟨ps, hP, ht⟩, q1⟩ := q1
  obtain rfl : xv = Value.ref yl := r1
  obtain ⟨its, rv, hl, hz⟩ := I1.list hyl
  have hIL := hl.isList
  have hlen : its.length = ns.length := by rw [← rv.length, List.length_map]
  have hat : ∀ (i : Nat) (v : Value), its.toArray[i]? = some v → ∃ (z : Int) (u : Tok), ns[i]? = some z ∧ v = .int z u := fun i v hv => by
    have hv2 : its[i]? = some v := by simpa using hv
    have hi2 : i < its.length := (List.getElem?_eq_some_iff.mp hv2).1
    obtain ⟨a, ha⟩ : ∃ a, ns[i]? = some a := ⟨ns[i]'(by omega), List.getElem?_eq_getElem _⟩
    have hb : (ns.map V.int)[i]? = some (V.int a) := by rw [List.getElem?_map, ha] <;> rfl
    obtain ⟨u, hu, ru⟩ := rv.get hb
    rw [hv2] at hu
    cases hu
    obtain ⟨t, e⟩ := (show ∃ t, v = Value.int a t from ru)
    exact ⟨a, t, ha, e⟩
  refine wpAny_pyIter_list hIL ?_
  generalize ho : ({ cls := .type "list_iterator", data := .fields #[.ref yl, .int 0 0] } : Obj) = o
  have hitr : (s1.heap.push o).IsListIter s1.heap.objs.size yl 0 := by
    subst ho
    exact ⟨_, Heap.get?_push_size _ rfl, rfl, rfl⟩
  have hylt : yl < s1.heap.objs.size := by
    obtain ⟨_, e, _⟩ := _root_.id hIL
    exact Heap.lt_size e
  have hPs : s1.heap.get? P = some { cls := .none, data := .fields ps } := I1.hok P _ hP
  have hPlt : P < s1.heap.objs.size := Heap.lt_size hPs
  have hP2 : (s1.heap.push o).get? P = some { cls := .none, data := .fields ps } := Heap.get?_push_of_some _ hPs
  have cd : PySem.W.CodeHd (s1.heap.push o) c P := TB.code.keeps fun b u e => Heap.get?_push_of_some _ (I1.bk b u e)
  have lim2 : (s1.heap.push o).NoLimit := I1.nolimit.push o
  have cont : ∀ (code : Value) (h3 : Heap) (tk : Nat) (ps' : Array Value), Heap.ExtBut P (s1.heap.push o) h3 → (s1.heap.push o).objs.size ≤ h3.objs.size → h3.get? P = some { cls := .none, data := .fields ps' } → (∃ more, ps' = ps ++ more) → TriplesOk ps'.toList →
      wpAny (model X.prog X.w) X.A (builtinsFor X.env.globals X.env.builtins) (fun bi s₄ =>
        ∃ Ia fp wr n₀ Pf St₀ pz F, Value.ref s1.heap.objs.size = .ref Ia ∧ (∀ A' : Around, A'.handled = none → Walks X.prog X.w A' Ia fp wr n₀ Pf St₀) ∧ St₀ 0 s₄.heap ∧ (∀ b ∈ fp, b < s₄.heap.objs.size) ∧ s₄.heap.NoLimit ∧ cStatics ∉ wr ∧
          (∀ href : Heap, (∀ b o, s₄.heap.get? b = some o → href.get? b = some o) →
            QuietGen X.prog X.w (genEnv scope (cloFrom X.env.cells scope.names []) s₄.heap.objs.size code bi X.env) x [] elt (List.range s₄.heap.objs.size) wr Pf pz F href) ∧
          (∀ a h₅ tk gs, gs.bare = true → s₄.heap.objs.size < a → h₅.objs.size = a + 1 → (∀ b o, s₄.heap.get? b = some o → h₅.get? b = some o) →
            WalksS X.prog X.w X.A.in4 a (a :: s₄.heap.objs.size :: List.range s₄.heap.objs.size) (s₄.heap.objs.size :: wr) (GenOnlyQ s₄.gens.size) (passing pz n₀ 0).length
              (fun j y => ∃ i, (passing pz n₀ 0)[j]? = some i ∧ F i y) (GenAt X.prog X.w X.A.in4 a s₄.gens.size s₄.heap.objs.size (List.range s₄.heap.objs.size) wr pz n₀ F) →
            GenAt X.prog X.w X.A.in4 a s₄.gens.size s₄.heap.objs.size (List.range s₄.heap.objs.size) wr pz n₀ F 0 { s₄ with gens := s₄.gens.push gs, toks := tk, heap := h₅ } →
            Q' (.ref a) { s₄ with gens := s₄.gens.push gs, toks := tk, heap := h₅ })) X.xe { s1 with heap := h3, toks := tk } := by
    intro code h3 tk ps' hx hsz hP3 hmore ht3
    obtain ⟨bm, ob, e1, e2, e3, e4, e5, e6, e7, e8⟩ := TB.bm
    have hcP : cStatics ≠ P := fun e => by
      obtain ⟨_, hns, _⟩ := I1.nolimit
      obtain ⟨o', es, ep, ho, hd, _⟩ := hns
      rw [e, hPs] at ho
      cases ho
      cases hd
    have hcl : cStatics < s1.heap.objs.size := let ⟨_, hns, _⟩ := I1.nolimit; hns.lt
    have sz2 : (s1.heap.push o).objs.size = s1.heap.objs.size + 1 := Heap.size_push ..
    have keep3 : ∀ b u, b ≠ P → s1.heap.get? b = some u → h3.get? b = some u := fun b u hb e => hx b u hb (Heap.get?_push_of_some _ e)
    refine wpAny_builtinsFor (m := X.mg) (by rw [I1.ok.glob]; exact ((I1.mod.glob.keeps I1.bk).push o).extBut hx TB.gP) e1 e2 (keep3 _ _ e4 (I1.bk _ _ e5)) e6 e7 e8 ?_
    have hylP : yl ≠ P := fun z => by
      obtain ⟨_, e, hc1, _, hd1⟩ := _root_.id hIL
      rw [z, hPs] at e
      cases e
      cases hd1
    have hIL3 : h3.IsList yl its.toArray := by
      obtain ⟨ob, e, r⟩ := _root_.id hIL
      exact ⟨ob, keep3 _ _ hylP e, r⟩
    have hItr3 : h3.IsListIter s1.heap.objs.size yl 0 := hitr.at fun u e => hx _ u (Nat.ne_of_gt hPlt) e
    refine ⟨s1.heap.objs.size, [s1.heap.objs.size, yl], [s1.heap.objs.size], its.toArray.size, (fun i v => its.toArray[i]? = some v), (fun i h => h.IsListIter s1.heap.objs.size yl i ∧ h.IsList yl its.toArray), (fun _ => true),
      (fun i y => ∃ z : Int, ns[i]? = some z ∧ y = .bool (pb z)), rfl, (fun A' hA => Walks.list hA _ _ (Nat.ne_of_lt hylt) _), ⟨hItr3, hIL3⟩, ?_, lim2.extBut hx hcP, ?_, ?_, ?_⟩
    · intro b hb
      rcases List.mem_cons.mp hb with z | z
      · rw [z]
        show s1.heap.objs.size < h3.objs.size
        omega
      · rcases List.mem_cons.mp z with z | z
        · rw [z]
          have e9 : s1.heap.objs.size ≤ h3.objs.size := by omega
          exact Nat.lt_of_lt_of_le hylt e9
        · cases z
    · intro z
      rcases List.mem_cons.mp z with z | z
      · exact Nat.ne_of_lt hcl z
      · cases z
    · intro href hhref
      refine ⟨fun A' E' i v s₂ m₂ hA hPv hn hm hk => ?_, fun A' E' i v s₂ m₂ hA hPv hp hn hm hk => ?_⟩
      · simp only [List.forIn_nil]
        exact wpAny_pure ⟨rfl, keeps_refl _⟩
      · obtain ⟨a, u, ha, rfl⟩ := hat i v hPv
        exact wpAny_mono (hel _ A' E' a u s₂ m₂ rfl hn hm) (fun y s3 r => ⟨⟨a, ha, r.1⟩, r.2⟩) fun _ _ e => e
    · intro g h5 tk5 gs hgb hag hsz5 hk5 W5 hgat
      simp only [GxR.passing_true, List.length_range] at W5
      have hn5 : its.toArray.size = ns.length := by rw [List.size_toArray, hlen]
      rw [hn5] at W5 hgat
      refine hQ ns H1 g _ q1 ⟨_, _, _, _, _, W5.in4_1, hgat, ?_, fun s' hm => ?_⟩
      · intro j y sj Qj Ej hy hQj
        obtain ⟨i, hij, z, hzz, rfl⟩ := hy
        obtain ⟨hj, ej⟩ := List.getElem?_eq_some_iff.mp hij
        rw [List.getElem_range] at ej
        subst ej
        have hQ2 : Qj (trI pb ns j) sj := hQj
        rw [trI_some hzz] at hQ2
        exact wpAny_truthy_bool hQ2
      · obtain ⟨more, em⟩ := hmore
        have nwr : ∀ b u, s1.heap.get? b = some u → b ∉ h3.objs.size :: [s1.heap.objs.size] := fun b u e hb => by
          have hl := Heap.lt_size e
          rcases List.mem_cons.mp hb with z | z
          · rw [z] at hl
            have h9 : (h3.objs.size : Nat) < s1.heap.objs.size := hl
            omega
          · rcases List.mem_cons.mp z with z | z
            · rw [z] at hl
              exact Nat.lt_irrefl _ hl
            · cases z
        have J := inv_tab (more := more) (h' := s'.heap) (g' := s'.gens) (d' := s'.drawn) (t' := s'.toks) I1 hP (fun b u hb e => hm.heap b u (nwr b u e) (hk5 b u (keep3 b u hb e)))
          (by rw [← em]; exact hm.heap P _ (nwr P _ hPs) (hk5 P _ hP3)) (AllBare.movedS (I1.bare.push hgb) hm)
        rw [sh_eta s1 s' hm.os] at J
        refine ⟨upd H1 P (.tbl (ps ++ more)), ⟨⟨ps ++ more, upd_same, by rw [← em]; exact ht3⟩, fun b hb => upd_ne hb⟩, J⟩
  refine ⟨lim2, ?_⟩
  cases hf : codeAmong gpos ps.toList with
  | none =>
    refine wpAny_genexprCodeX hcode (cd.code hP2 ht) (cd.tab hP2) hf fun c' h' tk hx hge hlt hco' _ htab' _ => ?_
    obtain ⟨o1, vs, f1, tf, fl, tg, inF, tx, tt, op, _, _, _, _, _, _, _, _, _, htr, _⟩ := hco'
    exact cont _ h' tk _ hx (Nat.le_trans hge (Nat.le_of_lt hlt)) htab'.2 ⟨_, rfl⟩ htr
  | some cv =>
    refine wpAny_genexprCode_hit hcode (cd.code hP2 ht) hf ?_
    exact cont cv (s1.heap.push o) s1.toks ps (Heap.ExtBut.refl _ _) (Nat.le_refl _) hP2 ⟨#[], by simp⟩ ht
/-- what is left of the heap when a table has grown -/
theorem same_tab {P : Addr} {H H' : Hp} (h : TabG H P) (t : Tabbed P H H') : Same H H' := fun b o e => by
  obtain ⟨ps, hP, _⟩ := h
  obtain ⟨⟨ps', hP', ht'⟩, hk⟩ := t
  by_cases c : b = P
  · subst c
    rw [hP] at e
    cases e
    exact ⟨ps', hP', fun _ => ht'⟩
  · rw [hk b c]
    exact .self e
theorem Same.tab {P : Addr} {H H' : Hp} (s : Same H H') (h : TabG H P) : TabG H' P := by
  obtain ⟨ps, hP, ht⟩ := h
  obtain ⟨ps', hP', ht'⟩ := s _ _ hP
  exact ⟨ps', hP', ht' ht⟩
def tAllI (K : PySem.W.Frag) (P : Addr) (pb : Int → Bool) (te : TE) : TE := fun σ H Q => te σ H fun v H1 => ∃ (yl : Addr) (ns : List Int), v = .ref yl ∧ SqL K H1 yl (ns.map V.int) ∧ TabG H1 P ∧ (TabG H1 P ∧ ∀ H2, Same H1 H2 → Q (.bl (ns.all pb)) H2)
theorem pe_allI {c P : Addr} {elt iter : Expr} {x : Str} {px p pos gpos : Pos} {scope : Scope} {pb : Int → Bool} {te : TE} {k : Nat}
    (hr : Room k X.A) (hg : Gl X "all") (hm : X.mg "all" = none) (TB : TabB X.base X.mg c P) (hcode : X.env.code = .ref c) (S : GenS X.env scope x) (hi : PE X iter te) (hel : EltI X.prog X.w scope x elt pb)
    (hs : ∀ v, genFold iter X.env v = pure v) (hb : bootBuiltins "all" = some (.builtin "all") := by decide +kernel)
    (he : starEach [.GeneratorExp elt [⟨.Name x px, iter, [], 0⟩] scope gpos] X.env = (false, eval (.GeneratorExp elt [⟨.Name x px, iter, [], 0⟩] scope gpos) X.env) :: starEach [] X.env := by rfl) :
    PE X (.Call (.Name "all" p) [.GeneratorExp elt [⟨.Name x px, iter, [], 0⟩] scope gpos] [] pos) (tAllI X.K P pb te) := by
  refine ⟨fun pins s σ H Q I h => ?_⟩
  refine wpAny_Call_Name_kw (ld_blt I hg hm hb ?_)
  refine PyProof.Rows.callWith_builtin1 ?_ he (by rfl)
  rw [he]
  show wpAny _ _ (spliced ((false, eval (.GeneratorExp elt [⟨.Name x px, iter, [], 0⟩] scope gpos) X.env) :: backTo pos (starEach [] X.env))) _ _ s
  refine Calls.spliced_cons (gen_int (R := fun ns H1 => TabG H1 P ∧ ∀ H2, Same H1 H2 → Q (.bl (ns.all pb)) H2) hr TB hcode S hi hel hs I h fun ns H1 g s5 hR hG => ?_)
  obtain ⟨fp, wr, G, F, St, W, hst, htr, hI⟩ := hG
  refine Calls.spliced_nil ?_
  refine call_all_walkS (W.self 0 _ _ _ hst ⟨g, fp, wr, G, _, F, St, _, rfl, W, hst, htr, fun s' hmv => ?_⟩)
  obtain ⟨H2, hT, J⟩ := hI s' hmv
  refine ⟨.bl _, H2, J, rfl, ?_⟩
  rw [all_trI ns pb]
  exact hR.2 H2 (same_tab hR.1 hT)
end
end Ww
/-! ### the end of a law with one def that holds a generator expression -/
namespace Ww
open PySem PySem.Spec PyProof.Rows L2
theorem walk_tab {l : PySem.W.OpenLaw} {n k : Nat} {q : Program} {loose : List Str} {XP : (Str → Option Value) → Heap → Prop} {YP : World → Heap → Prop} {d : DefRec} {K : Params → PySem.W.Frag} {CX : World → CXT} {x : Str} {nm : Str}
    (hn : l.most = some n) (hn2 : n ≤ sizeLine) (hdf : d.params.defaults = []) (hr : Room k callerA) (hrec : ((recsOf q).any fun e => e.name == nm) = true) (hY : ∀ (w : World) (h : Heap), YP w h → (K w.params).In h)
    (F : ∀ (w : World) (mg : Str → Option Value) (fa : Addr) (h : Heap), YP w h → (K w.params).In h → h.Ns mainGlobals mg → mg d.name = some (.ref fa) → (∀ fo, mg nm = some (.ref fo) → LamX.OwnTab (K w.params) fo h) → LamX.LawAtS l w (K w.params) (CX w) k n x mg fa h)
    (hCX : ∀ (w : World) (H : Hp) (s : Shared) (e : Value) (s' : Shared), CX w [] H s (fun _ _ _ => False) e s' → False) :
    PySem.W.WalkO q loose XP YP l.row.toRowW d [] (fun f vs => PySem.call f vs) := by
  refine Att.attach_callB hn hdf fun w s₀ s₁ mg mb fa o pm cd doc a vs ns G Y ho hd hcd hmg hobj hints hlen hbits hg => ?_
  have KX := hY w _ Y
  have own : ∀ fo, mg nm = some (.ref fo) → LamX.OwnTab (K w.params) fo s₁.heap := fun fo hfo c P o1 fd1 e dd vs1 sl k1 k2 k3 k4 k5 => by
    obtain ⟨dL, hm, hn1⟩ := List.any_eq_true.mp hrec
    have hn2 : dL.name = nm := beq_iff_eq.mp hn1
    obtain ⟨a', o', fd', c', P', h1, h2, h3, h4, h5, h6⟩ := G.T.tab dL hm
    rw [hn2, hfo] at h1
    cases h1
    have g1 := KX _ _ k1
    rw [g1] at h2
    cases h2
    rw [k2] at h3
    cases h3
    rw [k3] at h4
    cases h4
    obtain ⟨⟨oc, vc, e1, _, e3, e4⟩, hP⟩ := h6
    have g2 := KX _ _ k4
    rw [g2] at e1
    cases e1
    cases e3
    rw [k5] at e4
    cases e4
    exact hP
  obtain ⟨fd, cs, sp, hT, nT, C, hb, hsp, hF⟩ := F w mg fa _ Y KX G.T.g hmg own
  exact LamX.law_callTs KX G.T.g G.T.b G.T.builtins G.T.nolimit hg hT nT C G.T.bmain hobj hints (Nat.le_trans hlen hn2) hr hF hb (fun H hH hS => hsp H a ns hlen hbits hH hS) fun H e s' => hCX w H s₁ e s'
end Ww
namespace Ww
open PySem PySem.Spec PyProof.Rows L2
def topS (i : Nat) : Stmt := PySem.Challenge.pw_wheelways_k06_refused.main.body.getD i (.Pass ⟨0, 0, 0, 0⟩)
abbrev s_is_whole : Stmt := topS 8
theorem sc_is_whole : FnScope ["thing"] ["thing"] (defScope s_is_whole) := ⟨rfl, rfl, rfl, by decide +kernel, rfl, by decide +kernel, by decide +kernel⟩
abbrev s_check_wheels : Stmt := topS 9
theorem sc_check_wheels : FnScope ["wheels", "size"] ["wheels"] (defScope s_check_wheels) := ⟨rfl, rfl, rfl, by decide +kernel, rfl, by decide +kernel, by decide +kernel⟩
abbrev s_is_setting : Stmt := topS 10
theorem sc_is_setting : FnScope ["wheels", "setting", "size", "place"] ["wheels", "setting"] (defScope s_is_setting) := ⟨rfl, rfl, rfl, by decide +kernel, rfl, by decide +kernel, by decide +kernel⟩
abbrev s_check_setting : Stmt := topS 11
theorem sc_check_setting : FnScope ["wheels", "setting"] ["wheels", "setting"] (defScope s_check_setting) := ⟨rfl, rfl, rfl, by decide +kernel, rfl, by decide +kernel, by decide +kernel⟩
abbrev s_check_number : Stmt := topS 12
theorem sc_check_number : FnScope ["number", "many"] ["number", "many"] (defScope s_check_number) := ⟨rfl, rfl, rfl, by decide +kernel, rfl, by decide +kernel, by decide +kernel⟩
abbrev s_Around_shows : Stmt := inClass (topS 15) 0
theorem sc_Around_shows : FnScope ["self", "wheels", "turning", "size"] ["self", "wheels"] (defScope s_Around_shows) := ⟨rfl, rfl, rfl, by decide +kernel, rfl, by decide +kernel, by decide +kernel⟩
abbrev s_Dead_init : Stmt := inClass (topS 16) 0
theorem sc_Dead_init : FnScope ["self", "setting"] ["self", "setting"] (defScope s_Dead_init) := ⟨rfl, rfl, rfl, by decide +kernel, rfl, by decide +kernel, by decide +kernel⟩
abbrev s_Dead_shows : Stmt := inClass (topS 16) 1
theorem sc_Dead_shows : FnScope ["self", "wheels"] ["self", "wheels"] (defScope s_Dead_shows) := ⟨rfl, rfl, rfl, by decide +kernel, rfl, by decide +kernel, by decide +kernel⟩
abbrev s_Odd_shows : Stmt := inClass (topS 17) 0
theorem sc_Odd_shows : FnScope ["self", "wheels"] ["self", "wheels"] (defScope s_Odd_shows) := ⟨rfl, rfl, rfl, by decide +kernel, rfl, by decide +kernel, by decide +kernel⟩
abbrev s_all_odd : Stmt := topS 18
theorem sc_all_odd : FnScope ["sizes"] ["sizes"] (defScope s_all_odd) := ⟨rfl, rfl, rfl, by decide +kernel, rfl, by decide +kernel, by decide +kernel⟩
abbrev s_steps_from : Stmt := topS 19
theorem sc_steps_from : FnScope ["wheels", "setting", "steps", "size", "place"] ["wheels", "setting"] (defScope s_steps_from) := ⟨rfl, rfl, rfl, by decide +kernel, rfl, by decide +kernel, by decide +kernel⟩
abbrev s_settings : Stmt := topS 21
theorem sc_settings : FnScope ["wheels", "many", "size"] ["wheels"] (defScope s_settings) := ⟨rfl, rfl, rfl, by decide +kernel, rfl, by decide +kernel, by decide +kernel⟩
abbrev s_near : Stmt := topS 22
theorem sc_near : FnScope ["wheels", "setting", "found", "at"] ["wheels", "setting"] (defScope s_near) := ⟨rfl, rfl, rfl, by decide +kernel, rfl, by decide +kernel, by decide +kernel⟩
abbrev s_stepped : Stmt := topS 23
theorem sc_stepped : FnScope ["setting", "at", "step", "other"] ["setting", "at", "step"] (defScope s_stepped) := ⟨rfl, rfl, rfl, by decide +kernel, rfl, by decide +kernel, by decide +kernel⟩
abbrev s_apart : Stmt := topS 24
theorem sc_apart : FnScope ["wheels", "one", "other", "steps", "here", "there"] ["wheels", "one", "other"] (defScope s_apart) := ⟨rfl, rfl, rfl, by decide +kernel, rfl, by decide +kernel, by decide +kernel⟩
abbrev s_setting_of : Stmt := topS 26
theorem sc_setting_of : FnScope ["wheels", "number", "many", "backwards", "ahead", "size", "turned"] ["wheels", "number"] (defScope s_setting_of) := ⟨rfl, rfl, rfl, by decide +kernel, rfl, by decide +kernel, by decide +kernel⟩
abbrev s_number_of : Stmt := topS 27
theorem sc_number_of : FnScope ["wheels", "setting", "number", "size", "place"] ["wheels", "setting"] (defScope s_number_of) := ⟨rfl, rfl, rfl, by decide +kernel, rfl, by decide +kernel, by decide +kernel⟩
abbrev s_mirrored : Stmt := topS 28
theorem sc_mirrored : FnScope ["size", "place", "ahead"] ["size", "place", "ahead"] (defScope s_mirrored) := ⟨rfl, rfl, rfl, by decide +kernel, rfl, by decide +kernel, by decide +kernel⟩
abbrev s_around : Stmt := topS 30
theorem sc_around : FnScope ["wheels", "dead"] ["wheels"] (defScope s_around) := ⟨rfl, rfl, rfl, by decide +kernel, rfl, by decide +kernel, by decide +kernel⟩
abbrev s_ring_setting : Stmt := topS 31
theorem sc_ring_setting : FnScope ["wheels", "number", "at", "others", "rows", "columns", "row", "column", "setting"] ["wheels", "number"] (defScope s_ring_setting) := ⟨rfl, rfl, rfl, by decide +kernel, rfl, by decide +kernel, by decide +kernel⟩
abbrev s_ring_number : Stmt := topS 32
theorem sc_ring_number : FnScope ["wheels", "setting", "at", "others", "row", "column"] ["wheels", "setting"] (defScope s_ring_number) := ⟨rfl, rfl, rfl, by decide +kernel, rfl, by decide +kernel, by decide +kernel⟩
abbrev s_even_wheel : Stmt := topS 33
theorem sc_even_wheel : FnScope ["wheels", "at"] ["wheels"] (defScope s_even_wheel) := ⟨rfl, rfl, rfl, by decide +kernel, rfl, by decide +kernel, by decide +kernel⟩
abbrev s_without : Stmt := topS 34
theorem sc_without : FnScope ["numbers", "at"] ["numbers", "at"] (defScope s_without) := ⟨rfl, rfl, rfl, by decide +kernel, rfl, by decide +kernel, by decide +kernel⟩
abbrev s_spot : Stmt := topS 35
theorem sc_spot : FnScope ["rows", "columns", "number", "many", "left", "row", "beside"] ["rows", "columns", "number"] (defScope s_spot) := ⟨rfl, rfl, rfl, by decide +kernel, rfl, by decide +kernel, by decide +kernel⟩
abbrev s_spot_number : Stmt := topS 36
theorem sc_spot_number : FnScope ["rows", "columns", "row", "column", "many"] ["rows", "columns", "row", "column"] (defScope s_spot_number) := ⟨rfl, rfl, rfl, by decide +kernel, rfl, by decide +kernel, by decide +kernel⟩
abbrev s_written : Stmt := topS 38
theorem sc_written : FnScope ["wheels", "setting", "size", "sizes", "numbers", "place"] ["wheels", "setting"] (defScope s_written) := ⟨rfl, rfl, rfl, by decide +kernel, rfl, by decide +kernel, by decide +kernel⟩
abbrev s_law_cell_at : Stmt := topS 40
theorem sc_law_cell_at : FnScope ["_law_script", "_law_k"] ["_law_script", "_law_k"] (defScope s_law_cell_at) := ⟨rfl, rfl, rfl, by decide +kernel, rfl, by decide +kernel, by decide +kernel⟩
abbrev s_law_draw : Stmt := topS 41
theorem sc_law_draw : FnScope ["_law_cell", "_law_k", "_law_many", "_law_primes"] ["_law_cell", "_law_k", "_law_many"] (defScope s_law_draw) := ⟨rfl, rfl, rfl, by decide +kernel, rfl, by decide +kernel, by decide +kernel⟩
abbrev s_law_wheels : Stmt := topS 42
theorem sc_law_wheels : FnScope ["_law_script", "_law_kind", "_law_found", "_law_k", "_law_size"] ["_law_script"] (defScope s_law_wheels) := ⟨rfl, rfl, rfl, by decide +kernel, rfl, by decide +kernel, by decide +kernel⟩
abbrev s_law_far : Stmt := topS 43
theorem sc_law_far : FnScope ["_law_script", "_law_by", "_law_most", "_law_found", "_law_k"] ["_law_script", "_law_by", "_law_most"] (defScope s_law_far) := ⟨rfl, rfl, rfl, by decide +kernel, rfl, by decide +kernel, by decide +kernel⟩
abbrev s_law_setting : Stmt := topS 44
theorem sc_law_setting : FnScope ["_law_script", "_law_wheels_here", "_law_by", "_law_kind", "_law_found", "_law_k", "_law_size", "_law_number"] ["_law_script", "_law_wheels_here", "_law_by"] (defScope s_law_setting) := ⟨rfl, rfl, rfl, by decide +kernel, rfl, by decide +kernel, by decide +kernel⟩
abbrev s_law_count : Stmt := topS 45
theorem sc_law_count : FnScope ["_law_wheels_here", "_law_found", "_law_size"] ["_law_wheels_here"] (defScope s_law_count) := ⟨rfl, rfl, rfl, by decide +kernel, rfl, by decide +kernel, by decide +kernel⟩
abbrev s_law_is_setting : Stmt := topS 46
theorem sc_law_is_setting : FnScope ["_law_wheels_here", "_law_found", "_law_one", "_law_k"] ["_law_wheels_here", "_law_found"] (defScope s_law_is_setting) := ⟨rfl, rfl, rfl, by decide +kernel, rfl, by decide +kernel, by decide +kernel⟩
abbrev s_law_step : Stmt := topS 47
theorem sc_law_step : FnScope ["_law_one", "_law_other", "_law_k"] ["_law_one", "_law_other"] (defScope s_law_step) := ⟨rfl, rfl, rfl, by decide +kernel, rfl, by decide +kernel, by decide +kernel⟩
abbrev s_law_whole : Stmt := topS 48
theorem sc_law_whole : FnScope ["_law_number"] ["_law_number"] (defScope s_law_whole) := ⟨rfl, rfl, rfl, by decide +kernel, rfl, by decide +kernel, by decide +kernel⟩
abbrev s_law_kinds : Stmt := topS 49
theorem sc_law_kinds : FnScope ["_law_error", "_law_found"] ["_law_error"] (defScope s_law_kinds) := ⟨rfl, rfl, rfl, by decide +kernel, rfl, by decide +kernel, by decide +kernel⟩
abbrev s_law_with_wheels : Stmt := topS 50
theorem sc_law_with_wheels : FnScope ["_law_door", "_law_wheels_here"] ["_law_door", "_law_wheels_here"] (defScope s_law_with_wheels) := ⟨rfl, rfl, rfl, by decide +kernel, rfl, by decide +kernel, by decide +kernel⟩
abbrev s_law_with_setting : Stmt := topS 51
theorem sc_law_with_setting : FnScope ["_law_ask", "_law_wheels_here", "_law_setting_here"] ["_law_ask", "_law_wheels_here", "_law_setting_here"] (defScope s_law_with_setting) := ⟨rfl, rfl, rfl, by decide +kernel, rfl, by decide +kernel, by decide +kernel⟩
abbrev s_law_with_number : Stmt := topS 52
theorem sc_law_with_number : FnScope ["_law_wheels_here", "_law_number"] ["_law_wheels_here", "_law_number"] (defScope s_law_with_number) := ⟨rfl, rfl, rfl, by decide +kernel, rfl, by decide +kernel, by decide +kernel⟩
abbrev s_law_told : Stmt := topS 53
theorem sc_law_told : FnScope ["_law_ask", "_law_one", "_law_other", "_law_error"] ["_law_ask", "_law_one", "_law_other"] (defScope s_law_told) := ⟨rfl, rfl, rfl, by decide +kernel, rfl, by decide +kernel, by decide +kernel⟩
abbrev s_law_settings_refused : Stmt := topS 54
theorem sc_law_settings_refused : FnScope ["_law_wheels_here", "_law_setting_here", "_law_bad", "_law_due", "_law_ask", "_law_thing", "_law_error"] ["_law_wheels_here", "_law_setting_here", "_law_bad", "_law_due"] (defScope s_law_settings_refused) := ⟨rfl, rfl, rfl, by decide +kernel, rfl, by decide +kernel, by decide +kernel⟩
abbrev s_law_rings_right : Stmt := topS 55
theorem sc_law_rings_right : FnScope ["_law_due", "_law_far_here", "_law_wheels_here", "_law_number", "_law_setting_here"] ["_law_due", "_law_far_here"] (defScope s_law_rings_right) := ⟨rfl, rfl, rfl, by decide +kernel, rfl, by decide +kernel, by decide +kernel⟩
abbrev s_law : Stmt := topS 56
theorem sc_law : FnScope ["_law_script", "_law_far_here", "_law_due", "_law_k", "_law_wheels_here", "_law_setting_here", "_law_size", "_law_kept", "_law_bad", "_law_at", "_law_door", "_law_some", "_law_strange", "_law_whole_here", "_law_number", "_law_great", "_law_thing"] ["_law_script"] (defScope s_law) := ⟨rfl, rfl, rfl, by decide +kernel, rfl, by decide +kernel, by decide +kernel⟩
end Ww
/-! loops over enumerate and reversed, what a list's type is, products of many sizes -/
namespace Ww
open PySem PySem.Spec PyProof.Rows L2
theorem for_enumL {K : PySem.W.Frag} {a : Addr} {xs : List V} {g : TG} {tb : TS} {D : Ends} {σ : L2.St} {H : Hp} (Pv : Nat → L2.St → Hp → Prop) (h0 : Pv 0 σ H) (hq : ∀ i σ H, Pv i σ H → SqL K H a xs)
    (hs : ∀ (i : Nat) (x : V) (T : Addr) (σ : L2.St) (H : Hp), xs[i]? = some x → Pv i σ H → H T = none → g (.ref T) σ (upd H T (.tup [.int (i : Nat), x])) fun σ2 H2 => tb { D with nx := Pv (i + 1), ct := Pv (i + 1), bk := D.nx } σ2 H2) (hd : ∀ σ H, Pv xs.length σ H → D.nx σ H) :
    ∃ W : Nat → Nat → L2.St → Hp → Prop, (∃ m, W 0 m σ H) ∧ ∀ i m σ H, W i m σ H →
      ((Ite K a).stop i H ∧ D.nx σ H) ∨ ((Ite K a).go i H ∧ ∃ N : L2.St → Hp → Prop, (∀ σ' H', N σ' H' → ∃ m', m' < m ∧ W (i + 1) m' σ' H') ∧ ∀ v H', (Ite K a).yld i H v H' → g v σ H' fun σ2 H2 => tb { D with nx := N, ct := N, bk := D.nx } σ2 H2) := by
  refine ⟨fun i m σ H => i + m = xs.length ∧ Pv i σ H, ⟨xs.length, by omega, h0⟩, fun i m σ H h => ?_⟩
  obtain ⟨e, p⟩ := h
  have hx := hq i σ H p
  by_cases c : i < xs.length
  · have g1 : xs[i]? = some xs[i] := List.getElem?_eq_getElem c
    refine .inr ⟨⟨xs, xs[i], hx, g1⟩, Pv (i + 1), fun σ' H' n => ⟨m - 1, by omega, by omega, n⟩, fun v H' y => ?_⟩
    obtain ⟨T, z, rfl, nT, rfl, fz⟩ := y
    have ez : z = xs[i] := Option.some.inj ((fz _ hx).symm.trans g1)
    subst ez
    exact hs i _ T σ H g1 p nT
  · have ei : i = xs.length := by omega
    subst ei
    exact .inl ⟨⟨xs, hx, Nat.le_refl _⟩, hd σ H p⟩
theorem for_revL {K : PySem.W.Frag} {a : Addr} {xs : List V} {g : TG} {tb : TS} {D : Ends} {σ : L2.St} {H : Hp} (Pv : Nat → L2.St → Hp → Prop) (h0 : Pv 0 σ H) (hq : ∀ i σ H, Pv i σ H → SqL K H a xs)
    (hs : ∀ (i : Nat) (x : V) (σ : L2.St) (H : Hp), xs.reverse[i]? = some x → Pv i σ H → g x σ H fun σ2 H2 => tb { D with nx := Pv (i + 1), ct := Pv (i + 1), bk := D.nx } σ2 H2) (hd : ∀ σ H, Pv xs.length σ H → D.nx σ H) :
    ∃ W : Nat → Nat → L2.St → Hp → Prop, (∃ m, W 0 m σ H) ∧ ∀ i m σ H, W i m σ H →
      ((Itv K a xs.length).stop i H ∧ D.nx σ H) ∨ ((Itv K a xs.length).go i H ∧ ∃ N : L2.St → Hp → Prop, (∀ σ' H', N σ' H' → ∃ m', m' < m ∧ W (i + 1) m' σ' H') ∧ ∀ v H', (Itv K a xs.length).yld i H v H' → g v σ H' fun σ2 H2 => tb { D with nx := N, ct := N, bk := D.nx } σ2 H2) := by
  refine ⟨fun i m σ H => i + m = xs.length ∧ Pv i σ H, ⟨xs.length, by omega, h0⟩, fun i m σ H h => ?_⟩
  obtain ⟨e, p⟩ := h
  have hx := hq i σ H p
  by_cases c : i < xs.length
  · have g1 : xs[xs.length - 1 - i]? = some xs[xs.length - 1 - i] := List.getElem?_eq_getElem (by omega)
    have g2 : xs.reverse[i]? = some xs[xs.length - 1 - i] := by rw [List.getElem?_reverse c, g1]
    refine .inr ⟨⟨c, xs, _, hx, g1⟩, Pv (i + 1), fun σ' H' n => ⟨m - 1, by omega, by omega, n⟩, fun v H' y => ?_⟩
    obtain ⟨rfl, fz⟩ := y
    have ez : v = xs[xs.length - 1 - i] := Option.some.inj ((fz _ hx).symm.trans g1)
    subst ez
    exact hs i _ σ _ g2 p
  · have ei : i = xs.length := by omega
    subst ei
    exact .inl ⟨Nat.le_refl _, hd σ H p⟩
theorem tyx_list {K : PySem.W.Frag} {H : Hp} {a : Addr} {xs : List V} (h : SqL K H a xs) : TyX K H (.ref a) (.type "list") := by
  rcases h with (h | ⟨o, h⟩) | ⟨o, its, n, e, c, _⟩
  · exact .base (.lst h)
  · exact .base (.frz h)
  · exact .kList e c
theorem dec_int1 (x y : Int) : decide (V.int x = V.int y) = decide (x = y) := by
  by_cases c : x = y
  · subst c
    rw [decide_eq_true rfl, decide_eq_true rfl]
  · rw [decide_eq_false c, decide_eq_false fun q => c (V.int.inj q)]
/-! ### lists of ints compared -/
theorem dpAll_ints {K : PySem.W.Frag} {H : Hp} : ∀ ns : List Int, DpAll K H (ns.map V.int) (ns.map PyData.int)
  | [] => .nil
  | n :: r => .cons (.int n) (dpAll_ints r)
theorem dp_ints {K : PySem.W.Frag} {H : Hp} {a : Addr} {ns : List Int} (h : SqL K H a (ns.map V.int)) : Dp K H (.ref a) (.list (ns.map PyData.int)) := .lst h (dpAll_ints ns)
theorem eqvAll_ints : ∀ xs ys : List Int, PyData.eqvAll (xs.map PyData.int) (ys.map PyData.int) = decide (xs = ys)
  | [], [] => by simp [PyData.eqvAll]
  | [], _ :: _ => by simp [PyData.eqvAll]
  | _ :: _, [] => by simp [PyData.eqvAll]
  | x :: xs, y :: ys => by
    simp only [List.map_cons, PyData.eqvAll, PyData.eqv, eqvAll_ints xs ys]
    by_cases h : x = y <;> by_cases h2 : xs = ys <;> simp [h, h2]
theorem eqv_ints (xs ys : List Int) : PyData.eqv (.list (xs.map PyData.int)) (.list (ys.map PyData.int)) = decide (xs = ys) := by
  simp only [PyData.eqv]
  exact eqvAll_ints xs ys
def rEqI (K : PySem.W.Frag) : R2 := fun x y H Q => ∃ (a b : Addr) (xs ys : List Int), x = .ref a ∧ y = .ref b ∧ SqL K H a (xs.map V.int) ∧ SqL K H b (ys.map V.int) ∧ Q (.bl (decide (xs = ys))) H
def rNeI (K : PySem.W.Frag) : R2 := fun x y H Q => ∃ (a b : Addr) (xs ys : List Int), x = .ref a ∧ y = .ref b ∧ SqL K H a (xs.map V.int) ∧ SqL K H b (ys.map V.int) ∧ Q (.bl (!decide (xs = ys))) H
theorem eqIK {X : Cx} (K : PySem.W.Frag) (hu : X.A.units + 64 < cLine) (h : X.K = K := by rfl) : OpR X (compareOp .Eq) (rEqI K) := fun pins s σ H x y v u Q I rx ry q => by
  obtain ⟨a, b, xs, ys, rfl, rfl, h1, h2, q⟩ := q
  refine eqDK K hu h pins s σ H _ _ v u Q I rx ry ⟨_, _, dp_ints h1, dp_ints h2, PySem.W.shaped_ints xs, PySem.W.shaped_ints ys, ?_⟩
  rw [eqv_ints]
  exact q
theorem neIK {X : Cx} (K : PySem.W.Frag) (hu : X.A.units + 64 < cLine) (h : X.K = K := by rfl) : OpR X (compareOp .NotEq) (rNeI K) := fun pins s σ H x y v u Q I rx ry q => by
  obtain ⟨a, b, xs, ys, rfl, rfl, h1, h2, q⟩ := q
  refine neDK K hu h pins s σ H _ _ v u Q I rx ry ⟨_, _, dp_ints h1, dp_ints h2, PySem.W.shaped_ints xs, PySem.W.shaped_ints ys, ?_⟩
  rw [eqv_ints]
  exact q
theorem rep_flat (n : Nat) (z : Int) : (List.replicate n [V.int z]).flatten = (List.replicate n z).map V.int := by
  induction n with
  | zero => rfl
  | succ n ih => rw [List.replicate_succ, List.flatten_cons, ih, List.replicate_succ]; rfl
theorem rgV_ints (a b : Int) : ∃ ms : List Int, rgV a b = ms.map V.int ∧ ms.length = (b - a).toNat := by
  refine ⟨(List.range (b - a).toNat).map fun i => a + (i : Nat), ?_, by rw [List.length_map, List.length_range]⟩
  unfold rgV
  rw [List.map_map]
  rfl
/-! ### sizes -/
def big : Int := 10 ^ 59
theorem big_eq : (10 : Int) ^ (59 : Int).toNat = big := rfl
theorem big_ge : 1000 ≤ big := by decide +kernel
theorem big_bits : big.natAbs < 2 ^ 200 := by decide +kernel
def sizes (ws : List Int) : Prop := ∀ s ∈ ws, 1 ≤ s ∧ s ≤ big
theorem sizes_snoc {ws : List Int} {s : Int} (h : sizes ws) (h1 : 1 ≤ s) (h2 : s ≤ big) : sizes (ws ++ [s]) := fun x hx => by
  rcases List.mem_append.mp hx with e | e
  · exact h x e
  · rw [List.mem_singleton.mp e]
    exact ⟨h1, h2⟩
theorem sizes.ones {ws : List Int} (h : sizes ws) : ones ws := fun s hs => (h s hs).1
theorem sizes.reverse {ws : List Int} (h : sizes ws) : sizes ws.reverse := fun s hs => h s (List.mem_reverse.mp hs)
theorem sizes.take {ws : List Int} (h : sizes ws) (i : Nat) : sizes (ws.take i) := fun s hs => h s (List.mem_of_mem_take hs)
theorem sizes.at {ws : List Int} (h : sizes ws) {i : Nat} {s : Int} (e : ws[i]? = some s) : 1 ≤ s ∧ s ≤ big := h s (List.mem_of_getElem? e)
theorem size_bits {s : Int} (h : 1 ≤ s) (h2 : s ≤ big) : s.natAbs < 2 ^ 200 := wide_le (by omega) h2 big_bits
theorem prd_bits : ∀ {l : List Int}, sizes l → (prd l).natAbs < 2 ^ (200 * l.length + 1)
  | [], _ => by decide
  | s :: r, h => by
    have h1 := prd_bits (l := r) fun x hx => h x (List.mem_cons_of_mem _ hx)
    have h2 := h s List.mem_cons_self
    have h3 := wide_lt h1 (size_bits h2.1 h2.2)
    have e : 200 * (s :: r).length + 1 = 200 * r.length + 1 + 200 := by rw [List.length_cons]; omega
    rw [e]
    exact h3
theorem prd_snoc {ws : List Int} {i : Nat} {s : Int} (e : ws[i]? = some s) : prd (ws.take (i + 1)).reverse = prd (ws.take i).reverse * s := by
  rw [take_more e, List.reverse_append]
  rfl
theorem cut_all (xs : List V) {k : Nat} (h : xs.length ≤ k) : cutV xs none (some (k : Int)) = xs := by
  unfold cutV
  rw [HT.sIx_none, HT.sIx_nat, List.drop_zero, Nat.min_eq_right h, Nat.sub_zero, List.take_length]
end Ww
/-! within an except suite: any(..), isinstance of the held exception, a def that is handed the held exception -/
namespace Ww
open PySem PySem.Spec PyProof.Rows L2 HotX L2H
section
variable {prog : Program} {w : World} {A : Around} {E : Value → Shared → Prop} {s : Shared}
/-- a list's iterator at its end, while an exception is handled -/
theorem next_end_hot {it l x1 : Addr} {i : Nat} {items : Array Value} {Q : Option Value → Shared → Prop} (hot : HotAt A x1 s.heap) (hne : x1 ≠ it)
    (hit : s.heap.IsListIter it l i) (hl : s.heap.IsList l items) (hx : items[i]? = none) (hQ : ∀ h', Heap.ExtBut it s.heap h' → Q none { s with heap := h' }) : wpAny (model prog w) A (pyNext (.ref it)) Q E s := by
  obtain ⟨o, ho, hc, hd⟩ := id hit
  obtain ⟨ol, hol, _, nl, hdl⟩ := hl
  obtain ⟨hh, o1, vs1, h1, d1, c1⟩ := hot
  unfold pyNext
  refine wpAny_bind (wpAny_attempt (wpAny_callSpecial?_slot (name := Str.ofString "__next__") hit.typeIs slot_listiter_next (wpAny_call_entry slot_listiter_next hit.typeIs entry_listiter_next ?_ (args_listiter_next _))))
  show wpAny _ _ (field (.ref it) 0 >>= _) _ _ s; refine wpAny_bind (wpAny_field ho hd (x := .ref l) rfl ?_)
  show wpAny _ _ (if (Value.ref l == Value.none) = true then _ else _) _ _ s; rw [if_neg (show ¬ ((Value.ref l == Value.none) = true) from Bool.false_ne_true)]
  show wpAny _ _ (field (.ref it) 1 >>= _) _ _ s; refine wpAny_bind (wpAny_field ho hd (x := .int i 0) rfl ?_)
  show wpAny _ _ (seqItems? (.ref l) >>= _) _ _ s; refine wpAny_bind (wpAny_seqItems hol hdl ?_)
  simp only [Int.toNat_natCast, hx]
  refine wpAny_bind (wpAny_rule (wpAny_bind (wpAny_setField ho hd (by simp) ?_)))
  have h1' : ∀ f : Obj → Obj, (s.heap.update it f).get? x1 = some o1 := fun f => by rw [Heap.get?_update_other _ _ hne.symm]; exact h1
  show wpAny _ _ (newExc (.type "StopIteration") [] >>= _) _ _ _; refine wpAny_bind ?_
  simp only [newExc, newTuple]; refine wpAny_bind (wpAny_newObj_type ?_ (by size_fits))
  refine wpAny_bind (m := firstArgMember _ _) (wpAny_of_eq (a := Value.none) (by first | rfl | (simp only [firstArgMember]; rfl)) (wpAny_newObj_type ?_ (by size_fits)))
  have hx1 := Heap.get?_push_of_some { cls := .type "tuple", data := .seq #[] } (h1' (Obj.mapFields (·.setIfInBounds 0 .none)))
  refine raiseNew_hot ⟨hh, o1, vs1, Heap.get?_push_of_some _ hx1, d1, c1⟩ (Nat.ne_of_lt (Heap.lt_size hx1)) (Heap.get?_push_size _ rfl) rfl (by simp; omega) ?_
  refine wpAny_bind (wpAny_isInstance (T := "StopIteration") (b := true) ⟨_, Heap.get?_update_self _ (Heap.get?_push_size _ rfl) rfl, rfl⟩ isSubtype_stop (wpAny_pure (hQ _ fun b o hb e => ?_)))
  have e1 : (s.heap.update it (Obj.mapFields (·.setIfInBounds 0 .none))).get? b = some o := by rw [Heap.get?_update_other _ _ (Ne.symm hb)]; exact e
  have e2 := Heap.get?_push_of_some { cls := .type "tuple", data := .seq #[] } e1
  rw [Heap.get?_update_other _ _ (Nat.ne_of_gt (Heap.lt_size e2))]
  exact Heap.get?_push_of_some _ e2
/-- the turns over a list, while an exception is handled: x1 stands beside -/
theorem walks_hot {x1 : Addr} {o1 : Obj} {vs1 : Array Value} (hh : A.handled = some (.ref x1)) (d1 : o1.data = .fields vs1) (c1 : vs1[2]? = some .none) (I ax : Addr) (hne : ax ≠ I) (hx : x1 ≠ I) (items : Array Value) :
    Walks prog w A I [I, ax, x1] [I] items.size (fun i v => items[i]? = some v) (fun i h => h.IsListIter I ax i ∧ h.IsList ax items ∧ h.get? x1 = some o1) where
  sub := fun b hb => by rw [List.mem_singleton.mp hb]; exact List.mem_cons_self
  frame := fun _ _ _ st hk => ⟨st.1.at fun o e => hk I List.mem_cons_self o e, st.2.1.at fun o e => hk ax (List.mem_cons_of_mem _ List.mem_cons_self) o e, hk x1 (List.mem_cons_of_mem _ (List.mem_cons_of_mem _ List.mem_cons_self)) _ st.2.2⟩
  item := fun i s Q E hi st hQ => by
    refine wpAny_pyNext_list_item st.1 st.2.1 (x := items[i]) (Array.getElem?_eq_getElem hi) fun h' hit' hs' => hQ _ h' s.toks (Array.getElem?_eq_getElem hi) ⟨hit', st.2.1.extBut hs'.extBut hne, ?_⟩ fun b o hb e => ?_
    · exact hs'.extBut x1 o1 hx st.2.2
    · exact hs'.extBut b o (fun z => hb (List.mem_singleton.mpr z)) e
  done := fun s Q E st hQ => next_end_hot ⟨hh, o1, vs1, st.2.2, d1, c1⟩ hx st.1 st.2.1 (Array.getElem?_eq_none (Nat.le_refl _)) fun h' he' => hQ h' s.toks fun b o hb e => he' b o (fun z => hb (List.mem_singleton.mpr z)) e
  self := fun _ _ _ _ st hQ => wpAny_pyIter_listiter st.1 hQ
end
/-- any(xs) of a list of truths -/
theorem anyH {X : Cx} (K : PySem.W.Frag) (hc : HotC X) (hK : X.K = K := by rfl) : CallR X (.builtin "any") (rAny K) := by
  subst hK
  intro pins s σ H vs us Q I r h
  obtain ⟨a, bs, rfl, hs, q⟩ := h
  obtain ⟨its, rv, hl, _⟩ := I.list hs
  rw [Vals.ref1 r]
  have hb := rv.bls
  obtain ⟨p, ⟨hh, v1, d1, c1⟩, hp⟩ := hc
  have hget := (I.pin p (List.mem_append_left _ hp)).1
  refine call_any_walk (iter_any hl.isList fun s₂ e2 st hne => ?_)
  subst e2
  have hget2 := Heap.get?_push_of_some { cls := .type "list_iterator", data := .fields #[.ref a, .int 0 0] } hget
  refine ⟨_, _, _, _, _, _, _, rfl, walks_hot (A := X.A.in1) hh d1 c1 _ a hne (Nat.ne_of_lt (Heap.lt_size hget)) its.toArray, ⟨st.1, st.2, hget2⟩, truth_bools hb, fun h' tk hk => ⟨.bl _, H, I.kept fun b o eo => hk b o (fun hmem => ?_) (Heap.get?_push_of_some _ eo), ?_, q⟩⟩
  · exact absurd (List.mem_singleton.mp hmem ▸ Heap.lt_size eo) (Nat.lt_irrefl _)
  · show Value.bool _ = Value.bool _
    rw [← L2.any_range, hb, List.size_toArray, List.length_map]
/-! ### isinstance of the exception that is pinned -/
/-- isinstance(e, c), e the exception at a, of the class cls, whose object stands in the context's pins -/
def rIsP (K : PySem.W.Frag) (a : Addr) (cls : Value) (d : Option Addr) : List V → Hp → VK → Prop := fun xs H Q => ∃ (D : Addr) (c : V) (cv : Value) (b : Bool), cls = .ref D ∧ d = none ∧ ExcC K D ∧ xs = [.ref a, c] ∧ (∀ u, RelV c u → u = cv) ∧ PySem.W.kitOne K (.ref D) cv = some b ∧ Q (.bl b) H
theorem isP {X : Cx} {a : Addr} {oe : Obj} {cls : Value} {d : Option Addr} (K : PySem.W.Frag) (hm : (a, oe) ∈ X.pn) (hz : Zc cls d oe) (hf : ∃ vs, oe.data = .fields vs) (hK : X.K = K := by rfl) : CallR X (.builtin "isinstance") (rIsP K a cls d) := by
  subst hK
  intro pins s σ H xs us Q I r h
  obtain ⟨D, c, cv, b, rfl, rfl, C, rfl, hcv, e, q⟩ := h
  obtain ⟨u1, u2, rfl, r1, r2⟩ := vals2 r
  cases (show u1 = Value.ref a from r1)
  have ec := hcv _ r2
  subst ec
  have hget := (I.pin (a, oe) (List.mem_append_left _ hm)).1
  obtain ⟨vs, hv⟩ := hf
  obtain ⟨oc, od, oda, osl⟩ := oe
  obtain ⟨h1, h2⟩ := hz
  dsimp only at h1 h2 hv
  subst h1 h2 hv
  exact PySem.W.kia_one (PySem.W.handS_kitx_exc C.hg C.hk C.hs C.hd C.ha C.hn C.ht C.hm) I.kIn ⟨hget, rfl, rfl, trivial⟩ e (fun z => nomatch z) fun tk => ⟨.bl b, H, I.kept (t' := tk) fun _ _ z => z, rfl, q⟩
/-- the suite that holds an exception whose context is None -/
theorem hotC_suite {X : Cx} {a : Addr} {oe : Obj} {cls : Value} {d : Option Addr} {pn : List (Addr × Obj)} (hz : L2N.Zn cls d oe) (hf : ∃ vs, oe.data = .fields vs) : HotC (X.suite a ((a, oe) :: pn)) := by
  obtain ⟨vs, hv⟩ := hf
  exact ⟨(a, oe), ⟨rfl, vs, hv, hz.2.2 vs hv⟩, List.mem_cons_self⟩
/-! ### a def that is handed the held exception -/
/-- what the def at f promises when it is called in a suite; p: the exception's address, its object -/
structure FnE (P : Program) (w : World) (K : PySem.W.Frag) (mg : Str → Option Value) (base : Heap) (k : Nat) (f : Addr) (fd : FuncData) (ps : List Str) (sp : Addr → Value → Option Addr → Sp) : Prop where
  len : ∀ a c d vs H Q E, sp a c d vs H Q E → vs.length = ps.length
  run : ∀ (A : Around) (outer : List Env) (s : Shared) (H : Hp) (args : Args) (us : List Value) (vs : List V) (Q : VK) (E : XK) (p : Addr × Obj) (c : Value) (d : Option Addr), RoomH k A → PinOk outer H s p → Zc c d p.2 → (∃ vs, p.2.data = .fields vs) → Env0 P w K mg base A outer s H → BindsTo s fd args (ps.zip us) → Vals vs us → sp p.1 c d vs H Q E →
    codeAny (model P w) A (.call (.ref f) args) (CR CX0 outer P w H s Q E) s
structure OkE (P : Program) (w : World) (K : PySem.W.Frag) (mg : Str → Option Value) (base : Heap) (x : Str) (ps : List Str) (k : Nat) (sp : Addr → Value → Option Addr → Sp) : Prop where
  ex : ∃ (f : Addr) (fd : FuncData), mg x = some (.ref f) ∧ PySem.W.keepIn K (.ref f) = true ∧ Binds K fd ps [] ∧ FnE P w K mg base k f fd ps sp
theorem Df.okE {P : Program} {w : World} {K : PySem.W.Frag} {mg : Str → Option Value} {base : Heap} {x : Str} {st : Stmt} {N ps : List Str} {k : Nat} {sp : Addr → Value → Option Addr → Sp} (D : Df K mg x st ps) (S : FnScope N ps (defScope st)) (len : ∀ a c d vs H Q E, sp a c d vs H Q E → vs.length = ps.length)
    (hbody : ∀ (f : Addr) (cdv : Value) (A : Around) (outer : List Env) (s : Shared) (H : Hp) (vs : List V) (Q : VK) (E : XK) (p : Addr × Obj) (c : Value) (d : Option Addr), RoomH k (A.deeper (envOfC x (defScope st) s.heap.objs.size f cdv)) → Zc c d p.2 → (∃ vs, p.2.data = .fields vs) → sp p.1 c d vs H Q E →
      ∃ t, PSs (cxH CX0 P w K mg base N x (defScope st) f cdv A outer s H E p) (defBody st) t ∧ t { nx := fun _ H' => Q .non H', rt := Q } (L2.start N vs) H) : OkE P w K mg base x ps (k + 1) sp := by
  obtain ⟨f, fd, F, g, b⟩ := D
  refine ⟨f, fd, g, F.kp, b, len, fun A outer s H args us vs Q E p c d hr hpin hz hf e0 hb r hsp => ?_⟩
  obtain ⟨oc, od, kV, doc, pm, an, cdv, ct, osl, rfl, lk, hcd⟩ := F.ex
  have kk : ∀ c o, base.get? c = some o → s.heap.get? c = some o := fun c o e => (e0.bs c o e).1
  have KX : K.In s.heap := e0.mod.kin.keeps kk
  have lim : s.heap.NoLimit := e0.mod.nolimit.keeps kk
  obtain ⟨t, ht, hq⟩ := hbody f cdv A outer s H vs Q E p c d (hr.deeper _) hz hf hsp
  refine codeAny_call_function hr.depth (KX _ _ lk) rfl S.co S.gen rfl (PySem.W.codeRec_of KX hcd) (hb _ _ _ _ (wpAny_newFunctionEnv_cells S.kind (fun ⟨n, v⟩ hy => ?_) fun env he s1 x1 => ?_))
  · rcases S.par n (List.of_mem_zip hy).1 with q | q
    · exact .inl q
    · exact .inr ⟨q, PySem.W.cellsFrom_some _ _ _ (.inl q)⟩
  · subst he
    have I : Inv (cxH CX0 P w K mg base N x (defScope st) f cdv A outer s H E p) [] (L2.start N vs) H s1 := inv_startH S hpin e0 (len _ _ _ _ _ _ _ hsp) r x1
    refine ⟨lim.keeps x1.toInCall.keep, codeAny_func (wpAny_mono (ht.run [] s1 (L2.start N vs) H _ I hq) (fun fl s' hs => ?_) fun e s' hs => hs)⟩
    have fin : ∀ {σ' : L2.St} {H' : Hp} {v : V} {u : Value}, Inv (cxH CX0 P w K mg base N x (defScope st) f cdv A outer s H E p) [] σ' H' s' → RelV v u → Q v H' → CE outer P w H s Q u s' := fun {σ' H' v u} J rv q => ⟨v, H', J.os, J.bare, J.base, J.hok, rv, q⟩
    match fl, hs with
    | .ret u, ⟨v, σ', H', J, rv, q⟩ => exact fin J rv q
    | .next, ⟨σ', H', J, q⟩ => exact fin (v := V.non) (u := Value.none) J rfl q
    | .brk, ⟨_, _, _, q⟩ => exact False.elim q
    | .cont, ⟨_, _, _, q⟩ => exact False.elim q
/-- its call in the suite -/
theorem pe_okE {X : Cx} {x : Str} {ps : List Str} {k j : Nat} {sp : Addr → Value → Option Addr → Sp} {e : Expr} {es : List Expr} {t : TA} {q pos : Pos} {c : Value} {d : Option Addr} (p : Addr × Obj) (C : OkE X.prog X.w X.K X.mg X.base x ps k sp) (hr : RoomH j X.A) (hk : k ≤ j) (hp : p ∈ X.pn) (hz : Zc c d p.2) (hf : ∃ vs, p.2.data = .fields vs) (ha : PA X (e :: es) t) (hg : Gl X x := by rfl)
    (hdb : (x == ("__debug__" : Str)) = false := by decide) (he : starEach (e :: es) X.env = (false, eval e X.env) :: starEach es X.env := by rfl) (hpl : (backTo pos (starEach es X.env)).any (·.1) = false := by rfl) :
    PE X (.Call (.Name x q) (e :: es) [] pos) (tCall (sp p.1 c d) [] E0 t) := by
  obtain ⟨f, fd, g, kp, b, F⟩ := C.ex
  refine ⟨fun pins s σ H Q I h => wpAny_Call_Name_kw (ld_glob I hg g (PySem.W.callWith_K (h₀ := X.base) I.ok.mod.kin kp (thn (ha.run pos pins s σ H _ I h) fun us s1 ⟨vs, H1, I1, r, q⟩ => ⟨I1.kIn, ?_⟩) he hpl) hdb)⟩
  have q : sp p.1 c d vs H1 Q E0 := by
    have q2 : sp p.1 c d (vs ++ []) H1 Q E0 := q
    rw [List.append_nil] at q2
    exact q2
  have hl : us.length = ps.length := by rw [← r.length]; exact F.len _ _ _ _ _ _ _ q
  have bb := b s1 us I1.kIn (by rw [List.append_nil]; exact hl)
  rw [List.append_nil] at bb
  obtain ⟨z1, z2, z3, z4, z5⟩ := I1.pin p (List.mem_append_left _ hp)
  have hpin : PinOk X.stack H1 s1 p := ⟨z1, z2, fun hm => (List.mem_cons.mp (I1.stkSub p.1 hm)).elim z3 z4, z5⟩
  refine wpAny_call (codeAny_mono (F.run X.A X.stack s1 H1 ⟨us, []⟩ us vs Q E0 p c d (hr.mono hk) hpin hz hf I1.env0 bb r q) fun r s' hq => ?_)
  match r, hq with
  | .error _, hq => exact False.elim hq
  | .ok (.ret u), hq => exact I1.after hq
  | .ok .next, hq => exact False.elim hq
  | .ok .brk, hq => exact False.elim hq
  | .ok .cont, hq => exact False.elim hq
/-- nothing is let out -/
theorem takesN0 {X : Cx} : L2N.Takes X (fun _ _ _ _ => False) := fun _ _ x => by
  obtain ⟨_, _, _, _, _, _, _, _, _, _, _, _, _, _, _, _, z⟩ := x
  exact z.elim
end Ww
/-! defs that raise an own error (its context None), what is refused: values of any kind -/
namespace Ww
open PySem PySem.Spec PyProof.Rows L2
abbrev OkX (P : Program) (w : World) (K : PySem.W.Frag) (mg : Str → Option Value) (base : Heap) (x : Str) (ps : List Str) (k : Nat) (sp : Sp) : Prop := OkC P w K mg base (L2N.CX P w) x ps k sp
theorem Df.okX {P : Program} {w : World} {K : PySem.W.Frag} {mg : Str → Option Value} {base : Heap} {x : Str} {st : Stmt} {N ps : List Str} {k : Nat} {sp : Sp} (D : Df K mg x st ps) (S : FnScope N ps (defScope st)) (len : ∀ vs H Q E, sp vs H Q E → vs.length = ps.length)
    (hbody : ∀ (f : Addr) (cdv : Value) (A : Around) (outer : List Env) (s : Shared) (H : Hp) (vs : List V) (Q : VK) (E : XK), Room k (A.deeper (envOfC x (defScope st) s.heap.objs.size f cdv)) → sp vs H Q E →
      ∃ t, PSs (cxOf (L2N.CX P w) P w K mg base N x (defScope st) f cdv A outer s H E) (defBody st) t ∧ t { nx := fun _ H' => Q .non H', rt := Q } (start N vs) H) : OkX P w K mg base x ps (k + 1) sp := by
  obtain ⟨f, fd, F, g, b⟩ := D
  obtain ⟨oc, od, kV, doc, pm, an, cdv, ct, osl, rfl, lk, hcd⟩ := F.ex
  exact ⟨f, _, g, F.kp, b, fn_of lk hcd S len fun A outer s H vs Q E hr hsp => hbody f cdv A outer s H vs Q E hr hsp⟩
/-- the call of a def that may raise, in a def that lets it out -/
theorem pe_okX {X : Cx} {x : Str} {ps : List Str} {k j : Nat} {sp : Sp} {E : XK} {e : Expr} {es : List Expr} {t : TA} {p pos : Pos} (C : OkX X.prog X.w X.K X.mg X.base x ps k sp) (hr : Room j X.A) (hk : k ≤ j) (hx : Passes (L2N.CX X.prog X.w) X E) (ha : PA X (e :: es) t) (hg : Gl X x := by rfl)
    (hdb : (x == ("__debug__" : Str)) = false := by decide) (he : starEach (e :: es) X.env = (false, eval e X.env) :: starEach es X.env := by rfl) (hpl : (backTo pos (starEach es X.env)).any (·.1) = false := by rfl) :
    PE X (.Call (.Name x p) (e :: es) [] pos) (tCall sp [] E t) := by
  obtain ⟨f, fd, g, kp, b, F⟩ := C.ex
  exact pe_call F (hr.mono hk) hg g kp b .nil hx ha hdb he hpl
/-- the same within a try: what is wished of an error hangs on the slots -/
theorem pe_okS {X : Cx} {x : Str} {ps : List Str} {k j : Nat} {sp : Sp} {W : WX} {e : Expr} {es : List Expr} {t : TA} {p pos : Pos} (C : OkX X.prog X.w X.K X.mg X.base x ps k sp) (hr : Room j X.A) (hk : k ≤ j) (tk : L2N.Takes X W) (ha : PA X (e :: es) t) (hg : Gl X x := by rfl)
    (hdb : (x == ("__debug__" : Str)) = false := by decide) (he : starEach (e :: es) X.env = (false, eval e X.env) :: starEach es X.env := by rfl) (hpl : (backTo pos (starEach es X.env)).any (·.1) = false := by rfl) :
    PE X (.Call (.Name x p) (e :: es) [] pos) (tCallS sp (WE W) t) := by
  obtain ⟨f, fd, g, kp, b, F⟩ := C.ex
  exact pe_callS F (hr.mono hk) hg g kp b (fun σ => L2N.passAt tk σ) ha hdb he hpl
/-- a local name that holds a def, called within a try: the reading tells which def -/
def tCallLS (P : Program) (w : World) (K : PySem.W.Frag) (mg : Str → Option Value) (base : Heap) (j i : Nat) (W : WX) (t : TA) : TE := fun σ H Q => ∃ (f : Addr) (fd : FuncData) (ps : List Str) (k : Nat) (sp : Sp), σ[i]? = some (some (.ref f)) ∧ k ≤ j ∧ PySem.W.keepIn K (.ref f) = true ∧ Binds K fd ps [] ∧
  FnOk P w K mg base (L2N.CX P w) k f fd ps sp ∧ t σ H fun vs H1 => sp vs H1 Q (WE W σ)
theorem pe_okL {X : Cx} {x : Str} {i j : Nat} {W : WX} {e : Expr} {es : List Expr} {t : TA} {p pos : Pos} (hr : Room j X.A) (tk : L2N.Takes X W) (hN : X.N[i]? = some x) (hv : Vis X.env.scope x) (ha : PA X (e :: es) t)
    (hdb : (x == ("__debug__" : Str)) = false := by decide) (hcd : (x == ("__classdict__" : Str)) = false := by decide)
    (he : starEach (e :: es) X.env = (false, eval e X.env) :: starEach es X.env := by rfl) (hpl : (backTo pos (starEach es X.env)).any (·.1) = false := by rfl) :
    PE X (.Call (.Name x p) (e :: es) [] pos) (tCallLS X.prog X.w X.K X.mg X.base j i W t) := by
  refine ⟨fun pins s σ H Q I h => ?_⟩
  obtain ⟨f, fd, ps, k, sp, hσ, hk, kp, b, F, h⟩ := h
  refine wpAny_Call_Name_kw (thn ((pe_var (X := X) (pos := p) hN hv hdb hcd).run pins s σ H (fun v H1 => v = .ref f ∧ H1 = H) I ⟨_, hσ, rfl, rfl⟩) fun u s1 hu => ?_)
  obtain ⟨v, H1, I1, r1, rfl, rfl⟩ := hu
  cases r1
  refine PySem.W.callWith_K (h₀ := X.base) I.ok.mod.kin kp (thn (ha.run pos pins s1 σ _ _ I1 h) fun us s2 hz => ?_) he hpl
  obtain ⟨vs, H2, I2, r, q⟩ := hz
  exact ⟨I2.kIn, run_fnS F (hr.mono hk) b (L2N.passAt tk σ) I2 r q⟩
theorem pe_okLP (P : Program) (w : World) (K : PySem.W.Frag) (mg : Str → Option Value) (base : Heap) {X : Cx} {x : Str} {i j : Nat} {W : WX} {e : Expr} {es : List Expr} {t : TA} {p pos : Pos} (hr : Room j X.A) (tk : L2N.Takes X W) (hN : X.N[i]? = some x) (hv : Vis X.env.scope x) (ha : PA X (e :: es) t)
    (h1 : X.prog = P := by rfl) (h2 : X.w = w := by rfl) (h3 : X.K = K := by rfl) (h4 : X.mg = mg := by rfl) (h5 : X.base = base := by rfl)
    (hdb : (x == ("__debug__" : Str)) = false := by decide) (hcd : (x == ("__classdict__" : Str)) = false := by decide)
    (he : starEach (e :: es) X.env = (false, eval e X.env) :: starEach es X.env := by rfl) (hpl : (backTo pos (starEach es X.env)).any (·.1) = false := by rfl) :
    PE X (.Call (.Name x p) (e :: es) [] pos) (tCallLS P w K mg base j i W t) := by
  subst h1 h2 h3 h4 h5
  exact pe_okL hr tk hN hv ha hdb hcd he hpl
/-- try, with one clause 'except c as n', that lets nothing out -/
def tTryA (K : PySem.W.Frag) (c : Value) (i : Nat) (ts : Addr → Value → Option Addr → TS) (tb : WX → TS) : TS := fun D σ H => tb (wAs K c i ts (fun _ _ _ _ => False) D) D σ H
theorem ps_tryA {X : Cx} {x n : Str} {c : Value} {i : Nat} {body suite : List Stmt} {b₀ : Stmt} {np pos pos' : Pos} {tb : WX → TS} {ts : Addr → Value → Option Addr → TS} (hs : X.stack = X.env :: X.outer) (hf : X.env.frame = some X.env.locals) (hN : X.N.Nodup) (hi : X.N[i]? = some n) (hln : X.env.kindOf n = some .local) (hc : Names X x c)
    (hb : ∀ (W : WX) (pn : List (Addr × Obj)) (xe : Value → Shared → Prop), L2N.Takes (X.tr pn xe) W → PassesOwn (model X.prog X.w) X.A X.env xe → PSs (X.tr pn xe) body (tb W))
    (hsu : ∀ (a : Addr) (oe : Obj) (cls : Value) (d : Option Addr) (pn : List (Addr × Obj)), L2N.Zn cls d oe → (∃ vs, oe.data = .fields vs) → PSs (X.suite a ((a, oe) :: pn)) (b₀ :: suite) (ts a cls d)) :
    PS X (.Try body [.ExceptHandler (some (.Name x np)) (some n) (b₀ :: suite) pos'] [] [] pos) (tTryA X.K c i ts tb) := L2N.ps_try_as hs hf hN hi hln hc takesN0 hb hsu
/-! ### the errors -/
/-- an own error class, straight or not under ValueError, as the top has left it -/
structure Err (K : PySem.W.Frag) (mg : Str → Option Value) (x : Str) (C : Addr) : Prop where
  g : mg x = some (.ref C)
  kp : PySem.W.keepIn K (.ref C) = true
  ex : PySem.W.excIn K C [.type "ValueError", .type "Exception", .type "BaseException", .type "object"] "ValueError.__new__" = true
  sub : PySem.W.subIn K (.ref C) (.type "BaseException") = some true
  ty : PySem.W.typeIn K (.ref C) = some (.type "type")
  C : ExcC K C
/-- raise X('..') -/
theorem ps_err {X : Cx} {W : WX} {x m : Str} {C : Addr} {j : Nat} {p p2 pos pos2 : Pos} (T : Err X.K X.mg x C) (hc : X.calm = true) (tk : L2N.Takes X W) (hg : Gl X x := by rfl) (hdb : (x == ("__debug__" : Str)) = false := by decide) :
    PS X (.Raise (some (.Call (.Name x p) [.Constant (.str m) j p2] [] pos)) none pos2) (fun _ σ H => W (.ref C) none σ H) :=
  L2N.ps_raise hc tk (L2N.pmk_own PySem.F.excBase_ValueError T.ex T.g T.kp (raises_own T.sub T.ty) hg hdb)
/-! ### values of any kind -/
theorem tyx_same {K : PySem.W.Frag} {H H' : Hp} {x : V} {t : Value} (h : TyX K H x t) (s : Same H H') : TyX K H' x t := by
  cases h with
  | base b =>
    cases b with
    | non => exact .base .non
    | bl y => exact .base (.bl y)
    | int i => exact .base (.int i)
    | str y => exact .base (.str y)
    | flt y => exact .base (.flt y)
    | lst e => exact .base (.lst (s _ _ e))
    | frz e => exact .base (.frz (s _ _ e))
    | tup e => exact .base (.tup (s _ _ e))
    | dK e => exact .base (.dK (s _ _ e))
    | dT e => exact .base (.dT (s _ _ e))
    | ins e cl ha hn htk hm => exact .base (.ins (s _ _ e) cl ha hn htk hm)
  | byt b => exact .byt b
  | set e => exact .set (s _ _ e)
  | kList e c => exact .kList e c
  | kTuple e c => exact .kTuple e c
  | kDict e c => exact .kDict e c
  | fTuple e => exact .fTuple (s _ _ e)
  | fDict e => exact .fDict (s _ _ e)
/-- no whole number -/
def NoInt (K : PySem.W.Frag) (H : Hp) (v : V) : Prop := ∃ (t : String) (b1 b2 : Bool), TyX K H v (.type t) ∧ kitB t "int" = some b1 ∧ kitB t "bool" = some b2 ∧ (b1 && !b2) = false
/-- no list -/
def NoList (K : PySem.W.Frag) (H : Hp) (v : V) : Prop := ∃ t : String, TyX K H v (.type t) ∧ kitB t "list" = some false
/-- an int, or something else that the classes tell -/
def Cl (K : PySem.W.Frag) (H : Hp) (v : V) : Prop := (∃ z : Int, v = .int z) ∨ NoInt K H v
theorem NoInt.same {K : PySem.W.Frag} {H H' : Hp} {v : V} (h : NoInt K H v) (s : Same H H') : NoInt K H' v := by
  obtain ⟨t, b1, b2, h1, h2⟩ := h
  exact ⟨t, b1, b2, tyx_same h1 s, h2⟩
theorem NoList.same {K : PySem.W.Frag} {H H' : Hp} {v : V} (h : NoList K H v) (s : Same H H') : NoList K H' v := by
  obtain ⟨t, h1, h2⟩ := h
  exact ⟨t, tyx_same h1 s, h2⟩
theorem Cl.same {K : PySem.W.Frag} {H H' : Hp} {v : V} (h : Cl K H v) (s : Same H H') : Cl K H' v := by
  rcases h with h | h
  · exact .inl h
  · exact .inr (h.same s)
theorem noInt_non {K : PySem.W.Frag} {H : Hp} : NoInt K H .non := ⟨"NoneType", false, false, .base .non, by decide +kernel, by decide +kernel, rfl⟩
theorem noInt_bl {K : PySem.W.Frag} {H : Hp} (b : Bool) : NoInt K H (.bl b) := ⟨"bool", true, true, .base (.bl b), by decide +kernel, by decide +kernel, rfl⟩
theorem noInt_str {K : PySem.W.Frag} {H : Hp} (z : Str) : NoInt K H (.str z) := ⟨"str", false, false, .base (.str z), by decide +kernel, by decide +kernel, rfl⟩
theorem noInt_list {K : PySem.W.Frag} {H : Hp} {a : Addr} {xs : List V} (h : SqL K H a xs) : NoInt K H (.ref a) := ⟨"list", false, false, tyx_list h, by decide +kernel, by decide +kernel, rfl⟩
theorem noList_non {K : PySem.W.Frag} {H : Hp} : NoList K H .non := ⟨"NoneType", .base .non, by decide +kernel⟩
theorem noList_bl {K : PySem.W.Frag} {H : Hp} (b : Bool) : NoList K H (.bl b) := ⟨"bool", .base (.bl b), by decide +kernel⟩
theorem noList_int {K : PySem.W.Frag} {H : Hp} (i : Int) : NoList K H (.int i) := ⟨"int", .base (.int i), by decide +kernel⟩
theorem noList_str {K : PySem.W.Frag} {H : Hp} (z : Str) : NoList K H (.str z) := ⟨"str", .base (.str z), by decide +kernel⟩
theorem noList_tup {K : PySem.W.Frag} {H : Hp} {a : Addr} {xs : List V} (h : H a = some (.tup xs)) : NoList K H (.ref a) := ⟨"tuple", .base (.tup h), by decide +kernel⟩
theorem noList_dict {K : PySem.W.Frag} {H : Hp} {a : Addr} {kvs : List (Key × V)} (h : H a = some (.dK kvs)) : NoList K H (.ref a) := ⟨"dict", .base (.dK h), by decide +kernel⟩
/-- no wheels -/
def BadW (K : PySem.W.Frag) (H : Hp) (v : V) : Prop := NoList K H v ∨ ∃ (a : Addr) (xs : List V), v = .ref a ∧ SqL K H a xs ∧ (∀ x ∈ xs, Cl K H x) ∧ ∃ x ∈ xs, ∀ z : Int, x = .int z → z < 1
/-- no setting of the wheels ws -/
def BadS (K : PySem.W.Frag) (H : Hp) (ws : List Int) (v : V) : Prop := NoList K H v ∨ ∃ (a : Addr) (xs : List V), v = .ref a ∧ SqL K H a xs ∧
  (xs.length ≠ ws.length ∨ (xs.length = ws.length ∧ (∀ x ∈ xs, Cl K H x) ∧ ∃ (i : Nat) (x : V) (s : Int), xs[i]? = some x ∧ ws[i]? = some s ∧ ∀ z : Int, x = .int z → ¬ (0 ≤ z ∧ z < s)))
/-- no number below many -/
def BadN (K : PySem.W.Frag) (H : Hp) (many : Int) (v : V) : Prop := NoInt K H v ∨ ∃ z : Int, v = .int z ∧ ¬ (0 ≤ z ∧ z < many)
theorem BadW.same {K : PySem.W.Frag} {H H' : Hp} {v : V} (h : BadW K H v) (s : Same H H') : BadW K H' v := by
  rcases h with h | ⟨a, xs, e, h1, h2, h3⟩
  · exact .inl (h.same s)
  · exact .inr ⟨a, xs, e, s.seq h1, fun x hx => (h2 x hx).same s, h3⟩
theorem BadS.same {K : PySem.W.Frag} {H H' : Hp} {ws : List Int} {v : V} (h : BadS K H ws v) (s : Same H H') : BadS K H' ws v := by
  rcases h with h | ⟨a, xs, e, h1, h2⟩
  · exact .inl (h.same s)
  · refine .inr ⟨a, xs, e, s.seq h1, ?_⟩
    rcases h2 with h2 | ⟨h2, h3, h4⟩
    · exact .inl h2
    · exact .inr ⟨h2, fun x hx => (h3 x hx).same s, h4⟩
theorem BadN.same {K : PySem.W.Frag} {H H' : Hp} {many : Int} {v : V} (h : BadN K H many v) (s : Same H H') : BadN K H' many v := by
  rcases h with h | h
  · exact .inl (h.same s)
  · exact .inr h
/-- there is no ring of all settings -/
def noRing (ws : List Int) : Prop := ¬ (prd ws % 2 = 0 ∧ 2 ≤ (ws.filter fun s => decide (1 < s)).length)
instance (ws : List Int) : Decidable (noRing ws) := inferInstanceAs (Decidable (¬ _))
def sp_no_ring (K : PySem.W.Frag) (PT CR : Addr) : Sp := fun vs H _ E => ∃ (a : Addr) (u : V) (ws : List Int), vs = [.ref a, u] ∧ GxR.TabG H PT ∧ SqL K H a (ws.map V.int) ∧ sizes ws ∧ ws.length ≤ 63 ∧ noRing ws ∧ ∀ H' : Hp, Same H H' → E (.ref CR) none H'
/-- a state without one place, which changes while all else stays -/
def off (H : Hp) (q : Addr) : Hp := fun b => if b = q then none else H b
theorem off_same {H : Hp} {q : Addr} : Same (off H q) H := fun b o e => by
  unfold off at e
  split at e
  · cases e
  · exact .self e
theorem off_upd {H : Hp} {q : Addr} {o : HO} : off (upd H q o) q = off H q := funext fun b => by
  unfold off
  split
  · rfl
  · rename_i h
    exact upd_ne h
theorem off_of {H : Hp} {q p : Addr} {o : HO} (e : H p = some o) (h : p ≠ q) : off H q p = some o := by
  unfold off
  rw [if_neg h]
  exact e
theorem off_mono {H H' : Hp} {q : Addr} (s : Same H H') : Same (off H q) (off H' q) := fun b o e => by
  by_cases h : b = q
  · unfold off at e
    rw [if_pos h] at e
    cases e
  · unfold off at e
    rw [if_neg h] at e
    unfold off
    rw [if_neg h]
    exact s b o e
theorem same_off {H H' : Hp} {q : Addr} (s : Same H H') (n : H q = none) : Same H (off H' q) := fun b o e => by
  unfold off
  rw [if_neg (ne_of_none e n)]
  exact s b o e
/-- over a place that changes meanwhile -/
theorem Same.over {H V W X : Hp} {x : Addr} (s : Same H V) (n : V x = none) (u : Same V W) (sx : Same (off W x) (off X x)) : Same H X := (same_off (s.trans u) (s.free n)).trans (sx.trans off_same)
end Ww
namespace Ww
open PySem PySem.Spec PyProof.Rows L2 L2H
section
variable {P : Program} {w : World} {K : PySem.W.Frag} {mg : Str → Option Value} {base : Heap}
/-- which of six classes an error of the class at D is of -/
structure Kinds (K : PySem.W.Frag) (D CW CS CN CR CT : Addr) (b1 b2 b3 b4 b5 : Bool) : Prop where
  c : ExcC K D
  k1 : PySem.W.kitOne K (.ref D) (.ref CW) = some b1
  k2 : PySem.W.kitOne K (.ref D) (.ref CS) = some b2
  k3 : PySem.W.kitOne K (.ref D) (.ref CN) = some b3
  k4 : PySem.W.kitOne K (.ref D) (.ref CR) = some b4
  k5 : PySem.W.kitOne K (.ref D) (.ref CT) = some b5
  k6 : PySem.W.kitOne K (.ref D) (.type "ValueError") = some true
def sp_kinds (K : PySem.W.Frag) (CW CS CN CR CT : Addr) : Addr → Value → Option Addr → Sp := fun a c d vs H Q _ => ∃ (D : Addr) (b1 b2 b3 b4 b5 : Bool), vs = [.ref a] ∧ c = .ref D ∧ d = none ∧ Kinds K D CW CS CN CR CT b1 b2 b3 b4 b5 ∧
  ∀ (p : Addr) (H' : Hp), Same H H' → H p = none → H' p = some (.lst [.bl b1, .bl b2, .bl b3, .bl b4, .bl b5, .bl true]) → Q (.ref p) H'
theorem ref_only {C : Addr} : ∀ u, RelV (.ref C) u → u = .ref C := fun _ h => h
theorem ty_only {n : String} : ∀ u, RelV (.ty n) u → u = .type n := fun _ h => h
theorem ok_kinds {CW CS CN CR CT : Addr} (D : Df K mg "_law_kinds" s_law_kinds ["_law_error"]) (B : Bi mg) (gW : mg "BadWheels" = some (.ref CW)) (gS : mg "BadSetting" = some (.ref CS)) (gN : mg "BadNumber" = some (.ref CN)) (gR : mg "NoRing" = some (.ref CR)) (gT : mg "BadText" = some (.ref CT))
    (vE : mg "ValueError" = none) : OkE P w K mg base "_law_kinds" ["_law_error"] 1 (sp_kinds K CW CS CN CR CT) := by
  refine D.okE sc_law_kinds (fun a c d vs H Q E h => ?_) (fun f cdv A outer s H vs Q E p c d hr hz hf h => ?_)
  · obtain ⟨D, b1, b2, b3, b4, b5, rfl, _⟩ := h
    rfl
  · obtain ⟨D, b1, b2, b3, b4, b5, rfl, rfl, rfl, T, q⟩ := h
    have R : ∀ {X : Cx} (_ : X.pn = [p]) (_ : X.K = K), CallR X (.builtin "isinstance") (rIsP K p.1 (.ref D) none) := fun {X} h1 h2 => isP (oe := p.2) K (by rw [h1]; exact List.mem_cons_self) hz hf h2
    refine ⟨_, (pss_cons (ps_set (i := 1) sc_law_kinds.nd rfl (.inl rfl) (pe_lst
        (pa_cons (pe_callB (R rfl rfl) (by rfl) B.isinstance (by decide +kernel) (pa_cons (pv 0) (pa_cons (pe_glob (by rfl) gW (v := .ref CW) rfl) pa_nil)))
        (pa_cons (pe_callB (R rfl rfl) (by rfl) B.isinstance (by decide +kernel) (pa_cons (pv 0) (pa_cons (pe_glob (by rfl) gS (v := .ref CS) rfl) pa_nil)))
        (pa_cons (pe_callB (R rfl rfl) (by rfl) B.isinstance (by decide +kernel) (pa_cons (pv 0) (pa_cons (pe_glob (by rfl) gN (v := .ref CN) rfl) pa_nil))) pa_nil)))))
      (pss_one (ps_ret (pe_op op_cat (pv 1) (pe_lst
        (pa_cons (pe_callB (R rfl rfl) (by rfl) B.isinstance (by decide +kernel) (pa_cons (pv 0) (pa_cons (pe_glob (by rfl) gR (v := .ref CR) rfl) pa_nil)))
        (pa_cons (pe_callB (R rfl rfl) (by rfl) B.isinstance (by decide +kernel) (pa_cons (pv 0) (pa_cons (pe_glob (by rfl) gT (v := .ref CT) rfl) pa_nil)))
        (pa_cons (pe_callB (R rfl rfl) (by rfl) B.isinstance (by decide +kernel) (pa_cons (pv 0) (pa_cons (pe_bltn (v := .ty "ValueError") (by rfl) vE (by decide +kernel) rfl) pa_nil))) pa_nil)))))))), ?_⟩
    refine ⟨_, rfl, D, _, _, b1, rfl, rfl, T.c, rfl, ref_only, T.k1, _, rfl, D, _, _, b2, rfl, rfl, T.c, rfl, ref_only, T.k2, _, rfl, D, _, _, b3, rfl, rfl, T.c, rfl, ref_only, T.k3, (by show 3 ≤ sizeLine; decide), fun p1 n1 => ?_⟩
    refine ⟨_, rfl, _, rfl, D, _, _, b4, rfl, rfl, T.c, rfl, ref_only, T.k4, _, rfl, D, _, _, b5, rfl, rfl, T.c, rfl, ref_only, T.k5, _, rfl, D, _, _, true, rfl, rfl, T.c, rfl, ty_only, T.k6, (by show 3 ≤ sizeLine; decide), fun p2 n2 => ?_⟩
    refine ⟨p1, p2, _, _, rfl, rfl, (same_upd n2) _ _ upd_same, upd_same, (by show 6 ≤ sizeLine; decide), fun p3 n3 => ?_⟩
    have ss := (same_upd n1).trans ((same_upd n2).trans (same_upd n3 (o := .lst ([.bl b1, .bl b2, .bl b3] ++ [.bl b4, .bl b5, .bl true]))))
    exact q p3 _ ss (((same_upd n1).trans (same_upd n2)).free n3) upd_same
end
end Ww
namespace Ww
open PySem PySem.Spec PyProof.Rows L2 L2H
section
variable {P : Program} {w : World} {K : PySem.W.Frag} {mg : Str → Option Value} {base : Heap}
theorem pe_okEa {X : Cx} {x : Str} {ps : List Str} {k j : Nat} {sp : Addr → Value → Option Addr → Sp} {e : Expr} {es : List Expr} {t : TA} {q pos : Pos} {c : Value} {d : Option Addr} {a : Addr} {oe : Obj} (C : OkE X.prog X.w X.K X.mg X.base x ps k sp) (hr : RoomH j X.A) (hk : k ≤ j) (hp : (a, oe) ∈ X.pn) (hz : Zc c d oe) (hf : ∃ vs, oe.data = .fields vs) (ha : PA X (e :: es) t) (hg : Gl X x := by rfl)
    (hdb : (x == ("__debug__" : Str)) = false := by decide) (he : starEach (e :: es) X.env = (false, eval e X.env) :: starEach es X.env := by rfl) (hpl : (backTo pos (starEach es X.env)).any (·.1) = false := by rfl) :
    PE X (.Call (.Name x q) (e :: es) [] pos) (tCall (sp a c d) [] E0 t) := pe_okE (a, oe) C hr hk hp hz hf ha hg hdb he hpl
/-- the six truths of an error of the class at D, for law 6 and its like -/
abbrev six (b1 b2 b3 b4 b5 : Bool) : HO := .lst [.bl b1, .bl b2, .bl b3, .bl b4, .bl b5, .bl true]
/-- what is wished of an error: that it is one of the kinds, and what then holds of the list that is told -/
def XKinds (K : PySem.W.Frag) (CW CS CN CR CT CE : Addr) (Q : VK) : XK := fun c d H' => ∃ (D : Addr) (b1 b2 b3 b4 b5 : Bool), c = .ref D ∧ d = none ∧ Kinds K D CW CS CN CR CT b1 b2 b3 b4 b5 ∧ PySem.W.exmOne K (.ref D) (.ref CE) = some true ∧
  ∀ (p : Addr) (H2 : Hp), Same H' H2 → H' p = none → H2 p = some (six b1 b2 b3 b4 b5) → Q (.ref p) H2
/-- a def f of two that raises -/
def sp_told (P : Program) (w : World) (K : PySem.W.Frag) (mg : Str → Option Value) (base : Heap) (k : Nat) (CW CS CN CR CT CE : Addr) : Sp := fun vs H Q _ => ∃ (f : Addr) (fd : FuncData) (ps : List Str) (sp : Sp) (u v : V), vs = [.ref f, u, v] ∧ PySem.W.keepIn K (.ref f) = true ∧ Binds K fd ps [] ∧
  FnOk P w K mg base (L2N.CX P w) k f fd ps sp ∧ ∀ (Q2 : VK) (E2 : XK), (∀ c d H2, XKinds K CW CS CN CR CT CE Q c d H2 → E2 c d H2) → sp [u, v] H Q2 E2
theorem ok_told {CW CS CN CR CT CE : Addr} {k : Nat} (hk1 : 1 ≤ k) (D : Df K mg "_law_told" s_law_told ["_law_ask", "_law_one", "_law_other"]) (gE : mg "WheelError" = some (.ref CE)) (G : OkE P w K mg base "_law_kinds" ["_law_error"] 1 (sp_kinds K CW CS CN CR CT)) :
    Ok P w K mg base "_law_told" ["_law_ask", "_law_one", "_law_other"] (k + 1) (sp_told P w K mg base k CW CS CN CR CT CE) := by
  refine D.ok sc_law_told (fun vs H Q E h => ?_) (fun f cdv A outer s H vs Q E hr h => ?_)
  · obtain ⟨_, _, _, _, u, v, rfl, _⟩ := h
    rfl
  · obtain ⟨f, fd, ps, sp, u, v, rfl, kp, bi, F, h⟩ := h
    refine ⟨_, pss_cons (L2N.ps_try_as (i := 3) (Wout := fun _ _ _ _ => False) (c := .ref CE) rfl rfl sc_law_told.nd rfl rfl ⟨by rfl, by decide, .inl gE⟩ takesN0
        (fun W pn xe tk ow => pss_one (ps_expr (pe_okLP P w K mg base (i := 0) (j := k) hr tk rfl (.inl rfl) (pa_cons (pv 1) (pa_cons (pv 2) pa_nil)))))
        (fun a oe cls d pn hz hf => by exact pss_one (ps_ret (pe_okEa (a := a) (oe := oe) G ⟨hr.dp, hr.un⟩ hk1 List.mem_cons_self hz.zc hf (pa_cons (pv 3) pa_nil)))))
      (pss_one (ps_ret (pe_lst pa_nil))), ?_⟩
    refine ⟨f, fd, ps, k, sp, rfl, Nat.le_refl _, kp, bi, F, _, rfl, _, rfl, h _ _ ?_⟩
    rintro c d H2 ⟨D2, b1, b2, b3, b4, b5, rfl, rfl, T, hx, q⟩
    refine ⟨true, hx, fun _ a na => ?_, fun h => absurd h (by decide)⟩
    refine ⟨_, rfl, D2, b1, b2, b3, b4, b5, rfl, rfl, rfl, T, fun p H3 ss np hp => ?_⟩
    exact q p H3 ss np hp
end
end Ww
namespace Ww
open PySem PySem.Spec PyProof.Rows L2
section
variable {P : Program} {w : World} {K : PySem.W.Frag} {mg : Str → Option Value} {base : Heap}
/-! ### _law_cell_at: some number -/
def sp_cell_at (K : PySem.W.Frag) : Sp := fun vs H Q _ => ∃ (a : Addr) (ns : List Int) (k : Nat), vs = [.ref a, .int k] ∧ SqL K H a (ns.map V.int) ∧ ∀ z : Int, Q (.int z) H
theorem ok_cell_at (D : Df K mg "_law_cell_at" s_law_cell_at ["_law_script", "_law_k"]) (B : Bi mg) : Ok P w K mg base "_law_cell_at" ["_law_script", "_law_k"] 1 (sp_cell_at K) := by
  refine D.ok sc_law_cell_at (fun vs H Q E h => ?_) (fun f cdv A outer s H vs Q E hr h => ?_)
  · obtain ⟨a, ns, k, rfl, _⟩ := h
    rfl
  · obtain ⟨a, ns, k, rfl, hS, q⟩ := h
    refine ⟨_, (pss_cons (ps_if (pt_cmpR op_lt (pv 1) (pe_callB (lenK K) (by rfl) B.len PySem.boot_len (pa_cons (pv 0) pa_nil)) (nomark _))
        (pss_one (ps_ret (pe_ix (ixL K) (pv 0) (pv 1) (fun _ _ => rfl))))
        pss_nil)
      (pss_one (ps_ret pe_int))), ?_⟩
    walk_at "w"
    refine ⟨a, _, rfl, .inl hS, ?_⟩
    walk_at "w"
    refine ite2 (fun c => ?_) (fun _ => q _)
    have c2 : k < ns.length := by
      have := of_decide_eq_true c
      rw [List.length_map] at this
      omega
    walk_at "w"
    exact ⟨a, _, _, _, rfl, rfl, hS, atI_nat (at_map_int (List.getElem?_eq_getElem c2)), q _⟩
/-! ### _law_draw: some number from 0 to one below the most -/
def primes : List Int := [1000003, 1000033, 1000037, 1000039, 1000081, 1000099, 1000117, 1000121, 1000133, 1000151, 1000159, 1000171, 1000183, 1000187, 1000193, 1000199]
theorem primes_pos : ∀ z ∈ primes, 0 < z := by decide
def sp_draw : Sp := fun vs H Q _ => ∃ c k m : Int, vs = [.int c, .int k, .int m] ∧ 0 < m ∧ ∀ (z : Int) (H' : Hp), 0 ≤ z → z < m → Same H H' → Q (.int z) H'
theorem ok_draw (D : Df K mg "_law_draw" s_law_draw ["_law_cell", "_law_k", "_law_many"]) (B : Bi mg) : Ok P w K mg base "_law_draw" ["_law_cell", "_law_k", "_law_many"] 1 sp_draw := by
  refine D.ok sc_law_draw (fun vs H Q E h => ?_) (fun f cdv A outer s H vs Q E hr h => ?_)
  · obtain ⟨c, k, m, rfl, _⟩ := h
    rfl
  · obtain ⟨c, k, m, rfl, hm, q⟩ := h
    refine ⟨_, (pss_cons (ps_set (i := 3) sc_law_draw.nd rfl (.inl rfl) (pe_tup (pa_cons pe_int (pa_cons pe_int (pa_cons pe_int (pa_cons pe_int (pa_cons pe_int (pa_cons pe_int (pa_cons pe_int (pa_cons pe_int (pa_cons pe_int (pa_cons pe_int (pa_cons pe_int (pa_cons pe_int (pa_cons pe_int (pa_cons pe_int (pa_cons pe_int (pa_cons pe_int pa_nil))))))))))))))))))
      (pss_one (ps_ret (pe_op op_mod (pe_op op_mod (pe_op op_add (pe_op op_mul (pv 0) pe_int) (pe_op op_mul (pv 1) pe_int)) (pe_ix (ixT K) (pv 3) (pe_op op_mod (pv 1) pe_int) (fun _ _ => rfl))) (pv 2))))), ?_⟩
    refine ⟨by show 16 ≤ sizeLine; decide, fun p np => ?_⟩
    refine ⟨_, rfl, _, _, rfl, rfl, .inr ⟨by decide, by decide⟩, _, rfl, _, _, rfl, rfl, .inr ⟨by decide, by decide⟩, _, _, rfl, rfl, _, rfl, _, rfl, _, _, rfl, rfl, by show (0 : Int) < 16; decide, ?_⟩
    have h0 : 0 ≤ k % 16 := Int.emod_nonneg _ (by decide)
    have h1 : k % 16 < 16 := Int.emod_lt_of_pos _ (by decide)
    obtain ⟨j, ej⟩ : ∃ j : Nat, k % 16 = (j : Int) := ⟨(k % 16).toNat, by omega⟩
    have hj : j < primes.length := by show j < 16; omega
    have hp : 0 < primes[j] := primes_pos _ (List.getElem_mem hj)
    have hi : (primes.map V.int)[j]? = some (V.int primes[j]) := at_map_int (List.getElem?_eq_getElem hj)
    refine ⟨p, primes.map V.int, _, _, rfl, rfl, SqT.of upd_same, at_of ej hi, _, _, rfl, rfl, hp, _, rfl, _, _, rfl, rfl, hm, ?_⟩
    exact q _ _ (Int.emod_nonneg _ (by omega)) (Int.emod_lt_of_pos _ hm) (same_upd np)
/-! ### _law_wheels: some sizes, one for each number -/
def kinds : List Int := [4, 2, 9, 40, 3, 1]
theorem kinds_in : ∀ z ∈ kinds, 0 < z ∧ z ≤ 40 := by decide
def sp_wheels (K : PySem.W.Frag) : Sp := fun vs H Q _ => ∃ (a : Addr) (ns : List Int), vs = [.ref a] ∧ SqL K H a (ns.map V.int) ∧ ns.length ≤ 63 ∧
  ∀ (ws : List Int) (p : Addr) (H' : Hp), sizes ws → ws.length = ns.length → Same H H' → H p = none → H' p = some (.lst (ws.map V.int)) → Q (.ref p) H'
theorem ok_wheels (D : Df K mg "_law_wheels" s_law_wheels ["_law_script"]) (B : Bi mg) (G_law_cell_at : Ok P w K mg base "_law_cell_at" ["_law_script", "_law_k"] 1 (sp_cell_at K))
    (G_law_draw : Ok P w K mg base "_law_draw" ["_law_cell", "_law_k", "_law_many"] 1 sp_draw) : Ok P w K mg base "_law_wheels" ["_law_script"] 2 (sp_wheels K) := by
  refine D.ok sc_law_wheels (fun vs H Q E h => ?_) (fun f cdv A outer s H vs Q E hr h => ?_)
  · obtain ⟨a, ns, rfl, _⟩ := h
    rfl
  · obtain ⟨a, ns, rfl, hS, hlen, q⟩ := h
    refine ⟨_, (pss_cons (ps_set (i := 0) sc_law_wheels.nd rfl (.inl rfl) (pe_slice (slL K) (pv 0) po_none (po_some pe_int)))
      (pss_cons (ps_set (i := 1) sc_law_wheels.nd rfl (.inl rfl) (pe_ok G_law_draw hr (by decide) (pa_cons (pe_ok G_law_cell_at hr (by decide) (pa_cons (pv 0) (pa_cons pe_int pa_nil))) (pa_cons pe_int (pa_cons pe_int pa_nil)))))
      (pss_cons (ps_set (i := 2) sc_law_wheels.nd rfl (.inl rfl) (pe_lst pa_nil))
      (pss_cons (ps_for PassesOwn.never rfl (pi_range1 (by rfl) B.range (pa_cons (pe_callB (lenK K) (by rfl) B.len PySem.boot_len (pa_cons (pv 0) pa_nil)) pa_nil)) (pg_name (i := 3) sc_law_wheels.nd rfl (.inl rfl))
        (pss_cons (ps_set (i := 4) sc_law_wheels.nd rfl (.inl rfl) (pe_op op_add pe_int (pe_ok G_law_draw hr (by decide) (pa_cons (pe_ix (ixL K) (pv 0) (pv 3) (fun _ _ => rfl)) (pa_cons (pe_op op_add (pe_op op_mod (pv 3) pe_int) pe_int) (pa_cons (pe_ix (ixT K) (pe_tup (pa_cons pe_int (pa_cons pe_int (pa_cons pe_int (pa_cons pe_int (pa_cons pe_int (pa_cons pe_int pa_nil))))))) (pv 1) (fun _ _ => rfl)) pa_nil))))))
        (pss_cons (ps_if (pt_cmpR op_eq (pv 1) pe_int (nomark _))
          (pss_one (ps_set (i := 4) sc_law_wheels.nd rfl (.inl rfl) (pe_op op_add (pe_op op_mul (pe_op op_fdiv (pv 4) pe_int) pe_int) pe_int)))
          pss_nil)
        (pss_cons (ps_if (PW.pt (pw_and (pt_cmpR op_eq (pv 1) pe_int (nomark _)) (pw_and1 (pt_cmpR op_gt (pv 3) pe_int (nomark _)))))
          (pss_one (ps_set (i := 4) sc_law_wheels.nd rfl (.inl rfl) pe_int))
          pss_nil)
        (pss_cons (ps_if (pt_cmpR op_eq (pv 1) pe_int (nomark _))
          (pss_one (ps_set (i := 4) sc_law_wheels.nd rfl (.inl rfl) (pe_op op_add pe_int (pe_op op_mod (pe_op op_fdiv (pe_ix (ixL K) (pv 0) (pv 3) (fun _ _ => rfl)) pe_int) (pe_op op_pow pe_int pe_int)))))
          pss_nil)
        (pss_one (ps_expr (pe_bm PySem.F.plainAttrs_list PySem.F.slot_list_append PySem.F.type_list_append mt_append (pv 2) (pa_cons (pv 4) pa_nil)))))))))
      (pss_one (ps_ret (pv 2))))))), ?_⟩
    -- _law_script = _law_script[:63]
    refine ⟨_, rfl, _, rfl, a, _, rfl, hS, fun c nc => ?_⟩
    have e63 : cutV (ns.map V.int) none (some 63) = ns.map V.int := cut_all _ (k := 63) (by rw [List.length_map]; exact hlen)
    rw [e63]
    have sc : Same H (upd H c (.lst (ns.map V.int))) := same_upd nc
    -- kind
    refine ⟨_, rfl, c, ns, 0, rfl, SqL.of upd_same, fun cl => ?_⟩
    refine ⟨_, _, _, rfl, (by decide), fun kd H1 k0 k1 s1 => ?_⟩
    have hC : SqL K H1 c (ns.map V.int) := s1.seq (SqL.of upd_same)
    -- found = []
    refine ⟨Nat.zero_le _, fun o no => ?_⟩
    have sH : Same H H1 := sc.trans s1
    -- the loop
    refine ⟨_, rfl, c, _, rfl, .inl ((same_upd no).seq hC), _, rfl, (by omega), (by rw [List.length_map]; omega), ?_⟩
    refine for_range (lo := 0) (fun i σ H3 => ∃ (ws : List Int) (y3 y4 : Option V), σ = [some (.ref c), some (.int kd), some (.ref o), y3, y4] ∧ ws.length = i ∧ sizes ws ∧ Same H1 H3 ∧ H3 o = some (.lst (ws.map V.int)))
      ⟨[], none, none, rfl, rfl, (fun _ h => by cases h), same_upd no, upd_same⟩ ?_ ?_
    · rintro i σ H3 hi ⟨ws, y3, y4, rfl, ew, hw, s3, eo⟩
      rw [List.length_map, Int.toNat_natCast] at hi
      have hC3 : SqL K H3 c (ns.map V.int) := s3.seq hC
      have g : (ns.map V.int)[i]? = some (.int ns[i]) := at_map_int (List.getElem?_eq_getElem hi)
      -- size = 1 + draw(..)
      refine ⟨_, rfl, _, rfl, c, _, _, _, rfl, rfl, hC3, at_of (j := i) (by omega) g, _, rfl, _, _, rfl, rfl, (by show (0 : Int) < 5; decide), _, _, rfl, rfl, (by show 6 ≤ sizeLine; decide), fun t nt => ?_⟩
      obtain ⟨j, ej⟩ : ∃ j : Nat, kd = (j : Int) := ⟨kd.toNat, by omega⟩
      have hj : j < kinds.length := by show j < 6; omega
      have hp := kinds_in _ (List.getElem_mem hj)
      have hk : (kinds.map V.int)[j]? = some (V.int kinds[j]) := at_map_int (List.getElem?_eq_getElem hj)
      refine ⟨_, rfl, t, kinds.map V.int, _, _, rfl, rfl, SqT.of upd_same, at_of ej hk, _, _, _, rfl, hp.1, fun z H4 z0 z1 s4 => ?_⟩
      have st : Same H3 H4 := (same_upd nt).trans s4
      have eo4 : H4 o = some (.lst (ws.map V.int)) := st _ _ eo
      have hC4 : SqL K H4 c (ns.map V.int) := st.seq hC3
      have bg := big_ge
      refine ⟨_, _, rfl, rfl, ?_⟩
      have fin : ∀ sz : Int, 1 ≤ sz → sz ≤ big → ∃ (ws' : List Int) (y3 y4 : Option V), [some (.ref c), some (.int kd), some (.ref o), some (.int (0 + (i : Int))), some (.int sz)] = [some (.ref c), some (.int kd), some (.ref o), y3, y4] ∧ ws'.length = i + 1 ∧ sizes ws' ∧ Same H1 (upd H4 o (.lst (ws.map V.int ++ [.int sz]))) ∧ (upd H4 o (.lst (ws.map V.int ++ [.int sz]))) o = some (.lst (ws'.map V.int)) := by
        intro sz h1 h2
        refine ⟨ws ++ [sz], _, _, rfl, by rw [List.length_append, ew]; rfl, sizes_snoc hw h1 h2, fun b u e => ?_, by rw [upd_same, List.map_append]; rfl⟩
        rw [upd_ne (ne_of_none e no)]
        exact (s3.trans st) _ _ e
      have hz : ∀ sz : Int, (ws.map V.int).length < sizeLine := fun _ => by rw [List.length_map]; exact lt_line (by omega)
      -- kind == 2
      refine ⟨_, rfl, rfl, _, rfl, ite2 (fun c2 => ?_) (fun _ => ?_)⟩
      all_goals first
        | (refine ⟨_, rfl, _, _, rfl, rfl, ⟨by decide, by decide⟩, _, _, rfl, rfl, .inr ⟨by decide, by decide⟩, _, _, rfl, rfl, ?_⟩
           have b1 : 1 ≤ (1 + z) / 2 * 2 + 1 := by omega
           have b2 : (1 + z) / 2 * 2 + 1 ≤ big := by omega)
        | (have b1 : 1 ≤ 1 + z := by omega
           have b2 : 1 + z ≤ big := by omega)
      -- kind == 4 and k > 2
      all_goals refine ⟨_, rfl, rfl, _, rfl, ite2 (fun c4 => ?_) (fun _ => iteF ?_)⟩
      all_goals try (refine ⟨_, rfl, _, _, rfl, rfl, _, rfl, ite2 (fun _ => ?_) (fun _ => ?_)⟩)
      -- kind == 5
      all_goals refine ⟨_, rfl, rfl, _, rfl, ite2 (fun c5 => ?_) (fun _ => ?_)⟩
      all_goals first
        | exact ⟨_, rfl, .inl ⟨rfl, _, SqL.of eo4⟩, _, rfl, o, _, _, rfl, rfl, eo4, hz 0, fin _ b1 b2⟩
        | exact ⟨_, rfl, .inl ⟨rfl, _, SqL.of eo4⟩, _, rfl, o, _, _, rfl, rfl, eo4, hz 0, fin 1 (by decide) (by omega)⟩
        | (refine ⟨_, rfl, _, rfl, c, _, _, _, rfl, rfl, hC4, at_of (j := i) (by omega) g, _, _, rfl, rfl, ⟨by decide, by decide⟩, _, _, rfl, rfl, ⟨by decide, by decide, by decide⟩, _, _, rfl, rfl, (by show 0 < big; omega), _, _, rfl, rfl, ?_⟩
           have hb0 : 0 < big := by omega
           have m0 := Int.emod_nonneg (ns[i] / 7) (show big ≠ 0 by omega)
           have m1 := Int.emod_lt_of_pos (ns[i] / 7) hb0
           exact ⟨_, rfl, .inl ⟨rfl, _, SqL.of eo4⟩, _, rfl, o, _, _, rfl, rfl, eo4, hz 0, fin (1 + ns[i] / 7 % big) (by omega) (by omega)⟩)
    · rintro σ H3 ⟨ws, y3, y4, rfl, ew, hw, s3, eo⟩
      rw [List.length_map, Int.toNat_natCast] at ew
      exact ⟨_, rfl, q ws o H3 hw ew (sH.trans s3) (sH.free no) eo⟩
end
end Ww
namespace Ww
open PySem PySem.Spec PyProof.Rows L2
section
variable {P : Program} {w : World} {K : PySem.W.Frag} {mg : Str → Option Value} {base : Heap}
/-! ### _law_setting: some setting -/
def sp_setting (K : PySem.W.Frag) : Sp := fun vs H Q _ => ∃ (a b : Addr) (ns ws : List Int) (by_ : Int), vs = [.ref a, .ref b, .int by_] ∧ SqL K H a (ns.map V.int) ∧ SqL K H b (ws.map V.int) ∧ ws.length ≤ ns.length ∧ ws.length ≤ 1000 ∧ ones ws ∧
  ∀ (st : List Int) (p : Addr) (H' : Hp), okS ws st → Same H H' → H p = none → H' p = some (.lst (st.map V.int)) → Q (.ref p) H'
theorem okS_snoc {ws st : List Int} {i : Nat} {s v : Int} (h : okS (ws.take i) st) (e : ws[i]? = some s) (h0 : 0 ≤ v) (h1 : v < s) : okS (ws.take (i + 1)) (st ++ [v]) := by
  rw [take_more e]
  exact okS_append h ⟨h0, h1, trivial⟩
theorem ok_setting (D : Df K mg "_law_setting" s_law_setting ["_law_script", "_law_wheels_here", "_law_by"]) (B : Bi mg) (G_law_cell_at : Ok P w K mg base "_law_cell_at" ["_law_script", "_law_k"] 1 (sp_cell_at K))
    (G_law_draw : Ok P w K mg base "_law_draw" ["_law_cell", "_law_k", "_law_many"] 1 sp_draw) : Ok P w K mg base "_law_setting" ["_law_script", "_law_wheels_here", "_law_by"] 2 (sp_setting K) := by
  refine D.ok sc_law_setting (fun vs H Q E h => ?_) (fun f cdv A outer s H vs Q E hr h => ?_)
  · obtain ⟨a, b, ns, ws, by_, rfl, _⟩ := h
    rfl
  · obtain ⟨a, b, ns, ws, by_, rfl, hS, hW, hle, hlen, ho, q⟩ := h
    refine ⟨_, (pss_cons (ps_set (i := 3) sc_law_setting.nd rfl (.inl rfl) (pe_ok G_law_draw hr (by decide) (pa_cons (pe_ok G_law_cell_at hr (by decide) (pa_cons (pv 0) (pa_cons pe_int pa_nil))) (pa_cons (pv 2) (pa_cons pe_int pa_nil)))))
      (pss_cons (ps_set (i := 4) sc_law_setting.nd rfl (.inl rfl) (pe_lst pa_nil))
      (pss_cons (ps_for PassesOwn.never rfl (pi_enum (by rfl) B.enumerate (pa_cons (pv 1) pa_nil)) (pg_tup rfl (pgs_cons (pg_name (i := 5) sc_law_setting.nd rfl (.inl rfl)) (pgs_cons (pg_name (i := 6) sc_law_setting.nd rfl (.inl rfl)) pgs_nil)))
        (pss_cons (ps_set (i := 7) sc_law_setting.nd rfl (.inl rfl) (pe_op op_mod (pe_op op_add (pe_op op_fdiv (pe_ix (ixL K) (pv 0) (pv 5) (fun _ _ => rfl)) pe_int) (pe_ok G_law_draw hr (by decide) (pa_cons (pe_ix (ixL K) (pv 0) (pv 5) (fun _ _ => rfl)) (pa_cons (pe_op op_add (pe_op op_mod (pv 5) pe_int) (pv 2)) (pa_cons pe_int pa_nil))))) (pv 6)))
        (pss_cons (ps_if (PW.pt (pw_and (pt_cmpR op_eq (pv 3) pe_int (nomark _)) (pw_and1 (pt_cmpR op_gt (pe_op op_mod (pv 7) pe_int) pe_int (nomark _)))))
          (pss_one (ps_set (i := 7) sc_law_setting.nd rfl (.inl rfl) (pe_op op_sub (pv 6) pe_int)))
          pss_nil)
        (pss_cons (ps_if (PW.pt (pw_and (pt_cmpR op_eq (pv 3) pe_int (nomark _)) (pw_and1 (pt_cmpR op_gt (pe_op op_mod (pv 7) pe_int) pe_int (nomark _)))))
          (pss_one (ps_set (i := 7) sc_law_setting.nd rfl (.inl rfl) pe_int))
          pss_nil)
        (pss_one (ps_expr (pe_bm PySem.F.plainAttrs_list PySem.F.slot_list_append PySem.F.type_list_append mt_append (pv 4) (pa_cons (pv 7) pa_nil))))))))
      (pss_one (ps_ret (pv 4)))))), ?_⟩
    refine ⟨_, rfl, a, ns, 1, rfl, hS, fun cl => ?_⟩
    refine ⟨_, rfl, _, _, _, rfl, (by decide), fun kd H1 k0 k1 s1 => ?_⟩
    refine ⟨Nat.zero_le _, fun o no => ?_⟩
    have s2 : Same H (upd H1 o (.lst [])) := s1.trans (same_upd no)
    refine ⟨_, rfl, b, _, rfl, s2.seq hW, ?_⟩
    refine for_enumL (K := K) (a := b) (xs := ws.map V.int) (fun i σ H3 => ∃ (st : List Int) (y5 y6 y7 : Option V), σ = [some (.ref a), some (.ref b), some (.int by_), some (.int kd), some (.ref o), y5, y6, y7] ∧ okS (ws.take i) st ∧ Same H1 H3 ∧ H3 o = some (.lst (st.map V.int)))
      ⟨[], none, none, none, rfl, trivial, same_upd no, upd_same⟩ (fun i σ H3 ⟨_, _, _, _, _, _, s3, _⟩ => (s1.trans s3).seq hW) ?_ ?_
    · rintro i x T σ H3 hx ⟨st, y5, y6, y7, rfl, hok, s3, eo⟩ nT
      obtain ⟨sz, hsz, rfl⟩ := map_int_at hx
      have hone : 1 ≤ sz := ho _ (List.mem_of_getElem? hsz)
      have hiw : i < ws.length := (List.getElem?_eq_some_iff.mp hsz).1
      have hi : i < ns.length := by omega
      have sT : Same H3 (upd H3 T (.tup [.int (i : Nat), .int sz])) := same_upd nT
      have sHT : Same H (upd H3 T (.tup [.int (i : Nat), .int sz])) := (s1.trans s3).trans sT
      have hS3 := sHT.seq hS
      have g : (ns.map V.int)[i]? = some (.int ns[i]) := at_map_int (List.getElem?_eq_getElem hi)
      refine ⟨T, [.int (i : Nat), .int sz], rfl, SqT.of upd_same, rfl, .int (i : Nat), [.int sz], rfl, .int sz, [], rfl, rfl, ?_⟩
      refine ⟨_, rfl, _, rfl, a, _, _, _, rfl, rfl, hS3, at_of (j := i) rfl g, _, _, rfl, rfl, ⟨by decide, by decide⟩, ?_⟩
      refine ⟨_, rfl, _, rfl, a, _, _, _, rfl, rfl, hS3, at_of (j := i) rfl g, _, rfl, _, _, rfl, rfl, (by show (0 : Int) < 4; decide), _, rfl, _, _, rfl, rfl, ?_⟩
      refine ⟨_, _, _, rfl, (by decide), fun z H4 z0 z1 s4 => ?_⟩
      refine ⟨_, _, rfl, rfl, _, rfl, _, _, rfl, rfl, (by show 0 < sz; omega), ?_⟩
      have eo4 : H4 o = some (.lst (st.map V.int)) := s4 _ _ (sT _ _ eo)
      have s14 : Same H1 H4 := (s3.trans sT).trans s4
      have hlst : st.length = i := by
        have := okS_len hok
        rw [List.length_take] at this
        omega
      have hz : (st.map V.int).length < sizeLine := by rw [List.length_map]; exact lt_line (by omega)
      have b0 : 0 ≤ (ns[i] / 3 + z) % sz := Int.emod_nonneg _ (by omega)
      have b1 : (ns[i] / 3 + z) % sz < sz := Int.emod_lt_of_pos _ (by omega)
      have fin : ∀ v : Int, 0 ≤ v → v < sz → ∃ (st' : List Int) (y5 y6 y7 : Option V), [some (.ref a), some (.ref b), some (.int by_), some (.int kd), some (.ref o), some (.int (i : Nat)), some (.int sz), some (.int v)] = [some (.ref a), some (.ref b), some (.int by_), some (.int kd), some (.ref o), y5, y6, y7] ∧ okS (ws.take (i + 1)) st' ∧ Same H1 (upd H4 o (.lst (st.map V.int ++ [.int v]))) ∧ (upd H4 o (.lst (st.map V.int ++ [.int v]))) o = some (.lst (st'.map V.int)) := by
        intro v h0 h1
        refine ⟨st ++ [v], _, _, _, rfl, okS_snoc hok hsz h0 h1, fun c u e => ?_, by rw [upd_same, List.map_append]; rfl⟩
        rw [upd_ne (ne_of_none e no)]
        exact s14 _ _ e
      refine ⟨_, rfl, rfl, _, rfl, ite2 (fun c1 => ?_) (fun _ => iteF ?_)⟩
      all_goals try (refine ⟨_, rfl, _, _, rfl, rfl, (by show (0 : Int) < 3; decide), _, _, rfl, rfl, _, rfl, ite2 (fun _ => ⟨_, rfl, _, _, rfl, rfl, ?_⟩) (fun _ => ?_)⟩)
      all_goals refine ⟨_, rfl, rfl, _, rfl, ite2 (fun c2 => ?_) (fun _ => iteF ?_)⟩
      all_goals try (refine ⟨_, rfl, _, _, rfl, rfl, (by show (0 : Int) < 3; decide), _, _, rfl, rfl, _, rfl, ite2 (fun _ => ?_) (fun _ => ?_)⟩)
      all_goals first
        | exact ⟨_, rfl, .inl ⟨rfl, _, SqL.of eo4⟩, _, rfl, o, _, _, rfl, rfl, eo4, hz, fin _ b0 b1⟩
        | exact ⟨_, rfl, .inl ⟨rfl, _, SqL.of eo4⟩, _, rfl, o, _, _, rfl, rfl, eo4, hz, fin (sz - 1) (by omega) (by omega)⟩
        | exact ⟨_, rfl, .inl ⟨rfl, _, SqL.of eo4⟩, _, rfl, o, _, _, rfl, rfl, eo4, hz, fin 0 (by omega) (by omega)⟩
    · rintro σ H3 ⟨st, y5, y6, y7, rfl, hok, s3, eo⟩
      rw [List.length_map, List.take_length] at hok
      exact ⟨_, rfl, q st o H3 hok (s1.trans s3) (s1.free no) eo⟩
/-! ### _law_count: the product -/
def sp_count (K : PySem.W.Frag) : Sp := fun vs H Q _ => ∃ (a : Addr) (ws : List Int), vs = [.ref a] ∧ SqL K H a (ws.map V.int) ∧ sizes ws ∧ ws.length ≤ 1000 ∧ Q (.int (prd ws)) H
theorem ok_count (D : Df K mg "_law_count" s_law_count ["_law_wheels_here"]) (B : Bi mg) : Ok P w K mg base "_law_count" ["_law_wheels_here"] 1 (sp_count K) := by
  refine D.ok sc_law_count (fun vs H Q E h => ?_) (fun f cdv A outer s H vs Q E hr h => ?_)
  · obtain ⟨a, ws, rfl, _⟩ := h
    rfl
  · obtain ⟨a, ws, rfl, hW, hs, hlen, q⟩ := h
    refine ⟨_, (pss_cons (ps_set (i := 1) sc_law_count.nd rfl (.inl rfl) pe_int)
      (pss_cons (ps_for PassesOwn.never rfl (pi_list (pv 0)) (pg_name (i := 2) sc_law_count.nd rfl (.inl rfl))
        (pss_one (ps_set (i := 1) sc_law_count.nd rfl (.inl rfl) (pe_op op_mulX (pv 1) (pv 2)))))
      (pss_one (ps_ret (pv 1))))), ?_⟩
    refine ⟨_, rfl, a, rfl, ⟨_, hW⟩, for_list (K := K) (a := a) (xs := ws.map V.int) (fun i σ H3 => ∃ y2 : Option V, σ = [some (.ref a), some (.int (prd (ws.take i).reverse)), y2] ∧ H3 = H)
      ⟨none, rfl, rfl⟩ (fun i σ H3 _ ⟨_, _, e⟩ => by rw [e]; exact hW) ?_ ?_⟩
    · rintro i x σ H3 hx ⟨y2, rfl, rfl⟩
      obtain ⟨sz, hsz, rfl⟩ := map_int_at hx
      have hi : i < ws.length := (List.getElem?_eq_some_iff.mp hsz).1
      have b1 := prd_bits (l := (ws.take i).reverse) (hs.take i).reverse
      have b2 := size_bits (hs.at hsz).1 (hs.at hsz).2
      refine ⟨_, rfl, _, rfl, _, _, rfl, rfl, mulx_ok b1 b2 ?_, some (.int sz), ?_, rfl⟩
      · rw [List.length_reverse, List.length_take]
        omega
      · rw [prd_snoc hsz]
        rfl
    · rintro σ H3 ⟨y2, rfl, rfl⟩
      refine ⟨_, rfl, ?_⟩
      rw [List.length_map, List.take_length, prd_reverse]
      exact q
/-! ### _law_is_setting -/
def chk (ws fs : List Int) (i : Nat) : List Bool := (List.range i).map fun k => decide (0 ≤ fs.getD k 0) && decide (fs.getD k 0 < ws.getD k 0)
def isB (ws fs : List Int) : Bool := decide (fs.length = ws.length) && (chk ws fs ws.length).all id
theorem isB_of {ws fs : List Int} (h : okS ws fs) : isB ws fs = true := by
  have e := okS_len h
  unfold isB
  rw [decide_eq_true e, Bool.true_and, List.all_eq_true]
  intro b hb
  unfold chk at hb
  rw [List.mem_map] at hb
  obtain ⟨k, hk, rfl⟩ := hb
  have hk2 := List.mem_range.mp hk
  have g1 : ws[k]? = some ws[k] := List.getElem?_eq_getElem hk2
  have g2 : fs[k]? = some (fs[k]'(by omega)) := List.getElem?_eq_getElem (by omega)
  have z := okS_at h g1 g2
  rw [List.getD_eq_getElem?_getD, List.getD_eq_getElem?_getD, g1, g2]
  show (decide (0 ≤ fs[k]'(by omega)) && decide (fs[k]'(by omega) < ws[k])) = true
  rw [decide_eq_true z.1, decide_eq_true z.2]
  rfl
theorem of_isB {ws fs : List Int} (h : isB ws fs = true) : okS ws fs := by
  unfold isB at h
  rw [Bool.and_eq_true] at h
  have e := of_decide_eq_true h.1
  refine okS_of e fun i s p e1 e2 => ?_
  have hi : i < ws.length := (List.getElem?_eq_some_iff.mp e1).1
  have h2 := List.all_eq_true.mp h.2 _ (List.mem_map.mpr ⟨i, List.mem_range.mpr hi, rfl⟩)
  rw [List.getD_eq_getElem?_getD, List.getD_eq_getElem?_getD, e1, e2] at h2
  have h3 : (decide (0 ≤ p) && decide (p < s)) = true := h2
  rw [Bool.and_eq_true] at h3
  exact ⟨of_decide_eq_true h3.1, of_decide_eq_true h3.2⟩
def sp_is_setting (K : PySem.W.Frag) : Sp := fun vs H Q _ => ∃ (a b : Addr) (ws fs : List Int), vs = [.ref a, .ref b] ∧ SqL K H a (ws.map V.int) ∧ SqL K H b (fs.map V.int) ∧ ws.length ≤ 1000 ∧ fs.length ≤ 1000 ∧
  ∀ H' : Hp, Same H H' → Q (.bl (isB ws fs)) H'
theorem any_rep (n : Nat) : (List.replicate n false).any id = false := by
  induction n with
  | zero => rfl
  | succ n ih => rw [List.replicate_succ, List.any_cons, ih]; rfl
theorem ok_is_setting (D : Df K mg "_law_is_setting" s_law_is_setting ["_law_wheels_here", "_law_found"]) (B : Bi mg) : Ok P w K mg base "_law_is_setting" ["_law_wheels_here", "_law_found"] 1 (sp_is_setting K) := by
  refine D.ok sc_law_is_setting (fun vs H Q E h => ?_) (fun f cdv A outer s H vs Q E hr h => ?_)
  · obtain ⟨a, b, ws, fs, rfl, _⟩ := h
    rfl
  · obtain ⟨a, b, ws, fs, rfl, hW, hF, lw, lf, q⟩ := h
    refine ⟨_, (pss_cons (ps_if (PW.pt (pw_or (pt_not (pt_val (pe_callB (isiK K) (by rfl) B.isinstance (by decide +kernel) (pa_cons (pv 1) (pa_cons (pe_bltn (v := .ty "list") (by rfl) B.list boot_list rfl) pa_nil))))) (pw_or1 (pt_cmpR op_ne (pe_callB (lenK K) (by rfl) B.len PySem.boot_len (pa_cons (pv 1) pa_nil)) (pe_callB (lenK K) (by rfl) B.len PySem.boot_len (pa_cons (pv 0) pa_nil)) (nomark _)))))
        (pss_one (ps_ret pe_bl))
        pss_nil)
      (pss_cons (ps_if (pt_val (pe_callB (anyK K rfl) (by rfl) B.any (by decide +kernel) (pa_cons (pe_lc (own := [("_law_one", 2)]) (g := gName 2) (tt := tYes) rfl sc_law_is_setting.nd (pi_list (pv 1)) (blkOk_by (own := [("_law_one", 2)]) (N := ["_law_wheels_here", "_law_found", "_law_one", "_law_k"]) (sc := defScope s_law_is_setting) (by decide +kernel)) (fun _ _ _ _ _ => pg_name (i := 2) sc_law_is_setting.nd rfl (.inl rfl)) (fun _ _ _ _ _ => pts_nil) (fun _ _ _ _ _ => (pe_or (pe_callB (isiK K) (by rfl) B.isinstance (by decide +kernel) (pa_cons (pv 2) (pa_cons (pe_bltn (v := .ty "bool") (by rfl) B.bool boot_bool rfl) pa_nil))) (pe_one (pe_not (pe_callB (isiK K) (by rfl) B.isinstance (by decide +kernel) (pa_cons (pv 2) (pa_cons (pe_bltn (v := .ty "int") (by rfl) B.int boot_int rfl) pa_nil)))))))) pa_nil)))
        (pss_one (ps_ret pe_bl))
        pss_nil)
      (pss_one (ps_ret (pe_callB (allK K rfl) (by rfl) B.all (by decide +kernel) (pa_cons (pe_lc (own := [("_law_k", 3)]) (g := gName 3) (tt := tYes) rfl sc_law_is_setting.nd (pi_range1 (by rfl) B.range (pa_cons (pe_callB (lenK K) (by rfl) B.len PySem.boot_len (pa_cons (pv 0) pa_nil)) pa_nil)) (blkOk_by (own := [("_law_k", 3)]) (N := ["_law_wheels_here", "_law_found", "_law_one", "_law_k"]) (sc := defScope s_law_is_setting) (by decide +kernel)) (fun _ _ _ _ _ => pg_name (i := 3) sc_law_is_setting.nd rfl (.inl rfl)) (fun _ _ _ _ _ => pts_nil) (fun _ _ _ _ _ => (pe_chain op_le op_lt pe_int (pe_ix (ixL K) (pv 1) (pv 3) (fun _ _ => rfl)) (pe_ix (ixL K) (pv 0) (pv 3) (fun _ _ => rfl))))) pa_nil)))))), ?_⟩
    refine ⟨_, rfl, _, _, _, _, true, rfl, .ty "list", tyx_list hF, kit_ty (by decide +kernel), _, rfl, iteF ?_⟩
    refine ⟨_, rfl, b, _, rfl, .inl hF, _, rfl, a, _, rfl, .inl hW, rfl, _, rfl, ?_⟩
    rw [List.length_map, List.length_map, dec_int1]
    by_cases el : fs.length = ws.length
    · have el2 : (fs.length : Int) = (ws.length : Int) := by omega
      rw [decide_eq_true el2]
      refine iteF ?_
      -- any([isinstance(one, bool) or not isinstance(one, int) for one in found])
      refine ⟨_, rfl, b, rfl, ⟨_, hF⟩, fun D nD => ?_⟩
      refine lc_list (K := K) (a := b) (xs := fs.map V.int) (fun i H3 => Same H H3 ∧ H3 D = some (.lst ((List.replicate i false).map V.bl))) ⟨same_upd nD, upd_same⟩ (fun i H3 _ h => h.1.seq hF) ?_ ?_
      · rintro i x H3 hx ⟨s3, eD⟩
        obtain ⟨z, hz, rfl⟩ := map_int_at hx
        have hi : i < fs.length := (List.getElem?_eq_some_iff.mp hz).1
        refine ⟨rfl, _, rfl, _, _, _, _, false, rfl, .ty "bool", .base (.int _), kit_ty (by decide +kernel), _, rfl, iteF ?_⟩
        refine ⟨_, rfl, _, _, _, _, true, rfl, .ty "int", .base (.int _), kit_ty (by decide +kernel), _, rfl, ?_⟩
        refine ⟨_, eD, ?_, ?_, ?_⟩
        · rw [List.length_map, List.length_replicate]; exact lt_line (by omega)
        · intro c u e
          rw [upd_ne (ne_of_none e nD)]
          exact s3 _ _ e
        · rw [upd_same, List.replicate_succ', List.map_append]
          rfl
      · rintro H3 ⟨s3, eD⟩
        refine ⟨D, _, rfl, SqL.of eD, _, rfl, ?_⟩
        rw [any_rep]
        refine iteF ?_
        -- all([0 <= found[k] < wheels[k] for k in range(len(wheels))])
        refine ⟨_, rfl, a, _, rfl, .inl (s3.seq hW), _, rfl, (by omega), (by rw [List.length_map]; omega), fun D2 nD2 => ?_⟩
        refine lc_range (lo := 0) (fun i H4 => Same H H4 ∧ H4 D2 = some (.lst ((chk ws fs i).map V.bl))) ⟨s3.trans (same_upd nD2), upd_same⟩ ?_ ?_
        · rintro i H4 hi ⟨s4, eD2⟩
          rw [List.length_map, Int.toNat_natCast] at hi
          have g1 : (ws.map V.int)[i]? = some (.int ws[i]) := at_map_int (List.getElem?_eq_getElem hi)
          have g2 : (fs.map V.int)[i]? = some (.int (fs[i]'(by omega))) := at_map_int (List.getElem?_eq_getElem (by omega))
          have ec : chk ws fs (i + 1) = chk ws fs i ++ [decide (0 ≤ fs[i]'(by omega)) && decide (fs[i]'(by omega) < ws[i])] := by
            unfold chk
            rw [List.range_succ, List.map_append, List.map_singleton, List.getD_eq_getElem?_getD, List.getD_eq_getElem?_getD, List.getElem?_eq_getElem hi, List.getElem?_eq_getElem (show i < fs.length by omega)]
            rfl
          have fin : ∀ c : Bool, c = (decide (0 ≤ fs[i]'(by omega)) && decide (fs[i]'(by omega) < ws[i])) → ∃ acc, H4 D2 = some (.lst acc) ∧ acc.length < sizeLine ∧ Same H (upd H4 D2 (.lst (acc ++ [.bl c]))) ∧ (upd H4 D2 (.lst (acc ++ [.bl c]))) D2 = some (.lst ((chk ws fs (i + 1)).map V.bl)) := by
            intro c hc
            refine ⟨_, eD2, ?_, ?_, ?_⟩
            · unfold chk
              rw [List.length_map, List.length_map, List.length_range]; exact lt_line (by omega)
            · intro c u e
              rw [upd_ne (s3.ne e nD2)]
              exact s4 _ _ e
            · rw [upd_same, ec, List.map_append, hc]
              rfl
          refine ⟨rfl, _, rfl, _, rfl, b, _, _, _, rfl, rfl, s4.seq hF, at_of (j := i) (by omega) g2, _, _, rfl, rfl, _, rfl, ite2 (fun c => ?_) (fun c => ?_)⟩
          · have c2 := of_decide_eq_true c
            refine ⟨_, rfl, _, rfl, a, _, _, _, rfl, rfl, s4.seq hW, at_of (j := i) (by omega) g1, _, _, rfl, rfl, fin _ ?_⟩
            rw [decide_eq_true c2]
            rfl
          · refine fin _ ?_
            have c2 : ¬ 0 ≤ fs[i]'(by omega) := fun z => c (decide_eq_true z)
            rw [decide_eq_false c2]
            rfl
        · rintro H4 ⟨s4, eD2⟩
          rw [List.length_map, Int.toNat_natCast] at eD2
          refine ⟨D2, _, rfl, SqL.of eD2, ?_⟩
          have e : isB ws fs = (chk ws fs ws.length).all id := by
            unfold isB
            rw [decide_eq_true el]
            rfl
          rw [← e]
          exact q H4 s4
    · have el2 : ¬ (fs.length : Int) = (ws.length : Int) := by omega
      rw [decide_eq_false el2]
      refine iteT ?_
      have e : isB ws fs = false := by
        unfold isB
        rw [decide_eq_false el]
        rfl
      have := q H (Same.refl H)
      rw [e] at this
      exact this
end
end Ww
namespace Ww
open PySem PySem.Spec PyProof.Rows L2
section
variable {P : Program} {w : World} {K : PySem.W.Frag} {mg : Str → Option Value} {base : Heap}
/-! ### is_whole -/
def sp_is_whole : Sp := fun vs H Q _ => ∃ z : Int, vs = [.int z] ∧ Q (.bl true) H
theorem ok_is_whole (D : Df K mg "is_whole" s_is_whole ["thing"]) (B : Bi mg) : Ok P w K mg base "is_whole" ["thing"] 1 sp_is_whole := by
  refine D.ok sc_is_whole (fun vs H Q E h => ?_) (fun f cdv A outer s H vs Q E hr h => ?_)
  · obtain ⟨z, rfl, _⟩ := h
    rfl
  · obtain ⟨z, rfl, q⟩ := h
    refine ⟨_, (pss_one (ps_ret (pe_and (pe_callB (isiK K) (by rfl) B.isinstance (by decide +kernel) (pa_cons (pv 0) (pa_cons (pe_bltn (v := .ty "int") (by rfl) B.int boot_int rfl) pa_nil))) (pe_one (pe_not (pe_callB (isiK K) (by rfl) B.isinstance (by decide +kernel) (pa_cons (pv 0) (pa_cons (pe_bltn (v := .ty "bool") (by rfl) B.bool boot_bool rfl) pa_nil)))))))), ?_⟩
    refine ⟨_, rfl, _, _, _, _, true, rfl, .ty "int", .base (.int _), kit_ty (by decide +kernel), _, rfl, iteT ?_⟩
    exact ⟨_, rfl, _, _, _, _, false, rfl, .ty "bool", .base (.int _), kit_ty (by decide +kernel), _, rfl, q⟩
end
end Ww
namespace Ww
open PySem PySem.Spec PyProof.Rows L2
section
variable {P : Program} {w : World} {K : PySem.W.Frag} {mg : Str → Option Value} {base : Heap}
/-- whether a list of ints is a setting of a list of ints, whatever the ints -/
def sp_is_set (K : PySem.W.Frag) : Sp := fun vs H Q _ => ∃ (a b : Addr) (ws st : List Int), vs = [.ref a, .ref b] ∧ SqL K H a (ws.map V.int) ∧ SqL K H b (st.map V.int) ∧ ∀ H' : Hp, Same H H' → Q (.bl (isB ws st)) H'
theorem isB_not {ws st : List Int} (h : ¬ okS ws st) : isB ws st = false := by
  cases e : isB ws st with
  | false => rfl
  | true => exact absurd (of_isB e) h
theorem ok_is_set (D : Df K mg "is_setting" s_is_setting ["wheels", "setting"]) (B : Bi mg) (G_is_whole : Ok P w K mg base "is_whole" ["thing"] 1 sp_is_whole) : Ok P w K mg base "is_setting" ["wheels", "setting"] 2 (sp_is_set K) := by
  refine D.ok sc_is_setting (fun vs H Q E h => ?_) (fun f cdv A outer s H vs Q E hr h => ?_)
  · obtain ⟨a, b, ws, st, rfl, _⟩ := h
    rfl
  · obtain ⟨a, b, ws, st, rfl, hW, hS, q⟩ := h
    refine ⟨_, (pss_cons (ps_if (PW.pt (pw_or (pt_not (pt_val (pe_callB (isiK K) (by rfl) B.isinstance (by decide +kernel) (pa_cons (pv 1) (pa_cons (pe_bltn (v := .ty "list") (by rfl) B.list boot_list rfl) pa_nil))))) (pw_or1 (pt_cmpR op_ne (pe_callB (lenK K) (by rfl) B.len PySem.boot_len (pa_cons (pv 1) pa_nil)) (pe_callB (lenK K) (by rfl) B.len PySem.boot_len (pa_cons (pv 0) pa_nil)) (nomark _)))))
        (pss_one (ps_ret pe_bl))
        pss_nil)
      (pss_cons (ps_for PassesOwn.never rfl (pi_zip (by rfl) B.zip (pa_cons (pv 0) (pa_cons (pv 1) pa_nil))) (pg_tup rfl (pgs_cons (pg_name (i := 2) sc_is_setting.nd rfl (.inl rfl)) (pgs_cons (pg_name (i := 3) sc_is_setting.nd rfl (.inl rfl)) pgs_nil)))
        (pss_one (ps_if (PW.pt (pw_or (pt_not (pt_val (pe_ok G_is_whole hr (by decide) (pa_cons (pv 3) pa_nil)))) (pw_or1 (pt_not (pt_chain op_le op_lt pe_int (pv 3) (pv 2))))))
          (pss_one (ps_ret pe_bl))
          pss_nil)))
      (pss_one (ps_ret pe_bl)))), ?_⟩
    refine ⟨_, rfl, _, _, _, _, true, rfl, .ty "list", tyx_list hS, kit_ty (by decide +kernel), _, rfl, ?_⟩
    refine ⟨_, rfl, b, _, rfl, .inl hS, _, rfl, a, _, rfl, .inl hW, rfl, _, rfl, ?_⟩
    rw [List.length_map, List.length_map, dec_int1]
    by_cases el : st.length = ws.length
    rotate_left
    · rw [decide_eq_false (show ¬ (st.length : Int) = (ws.length : Int) by omega)]
      rw [isB_not fun h => el (okS_len h)] at q
      exact q H (Same.refl H)
    rw [decide_eq_true (show (st.length : Int) = (ws.length : Int) by omega)]
    refine ⟨_, rfl, _, rfl, a, b, _, _, rfl, hW, hS, RZ.for_zipL (K := K) (a := a) (b := b) (by rw [List.length_map, List.length_map, el]) (fun i σ H3 => (∃ y2 y3 : Option V, σ = [some (.ref a), some (.ref b), y2, y3] ∧ Same H H3) ∧ ∀ (j : Nat) (s p : Int), j < i → ws[j]? = some s → st[j]? = some p → 0 ≤ p ∧ p < s)
      ⟨⟨none, none, rfl, Same.refl H⟩, fun _ _ _ h => absurd h (Nat.not_lt_zero _)⟩ (fun i σ H3 ⟨⟨_, _, _, s3⟩, _⟩ => ⟨s3.seq hW, s3.seq hS⟩) ?_ ?_⟩
    · rintro i x y T σ H3 hx hy ⟨⟨y2, y3, rfl, s3⟩, hall⟩ nT
      obtain ⟨sz, hsz, rfl⟩ := map_int_at hx
      obtain ⟨p, hp, rfl⟩ := map_int_at hy
      have sT : Same H (upd H3 T (.tup [.int sz, .int p])) := s3.trans (same_upd nT)
      refine ⟨T, [.int sz, .int p], rfl, SqT.of upd_same, rfl, .int sz, [.int p], rfl, .int p, [], rfl, rfl, ?_⟩
      refine ⟨_, rfl, p, rfl, _, rfl, ?_⟩
      have out : ¬ (0 ≤ p ∧ p < sz) → Q (.bl false) (upd H3 T (.tup [.int sz, .int p])) := fun hn => by
        rw [isB_not fun h => hn (okS_at h hsz hp)] at q
        exact q _ sT
      refine ⟨_, rfl, _, _, rfl, rfl, _, rfl, ite2 (fun c0 => ?_) (fun c0 => ⟨_, rfl, out fun h => c0 (decide_eq_true h.1)⟩)⟩
      refine ⟨_, rfl, _, _, rfl, rfl, _, rfl, ?_⟩
      by_cases c1 : p < sz
      · rw [decide_eq_true c1]
        refine ⟨⟨_, _, rfl, sT⟩, fun j s q hj e1 e2 => ?_⟩
        by_cases hji : j = i
        · subst hji
          have e3 := Option.some.inj (hsz.symm.trans e1)
          have e4 := Option.some.inj (hp.symm.trans e2)
          subst e3 e4
          exact ⟨of_decide_eq_true c0, c1⟩
        · exact hall j s q (by omega) e1 e2
      · rw [decide_eq_false c1]
        exact out fun h => c1 h.2
    · rintro σ H3 ⟨⟨y2, y3, rfl, s3⟩, hall⟩
      rw [List.length_map] at hall
      have hok : okS ws st := okS_of el fun i s p e1 e2 => hall i s p (List.getElem?_eq_some_iff.mp e1).1 e1 e2
      rw [isB_of hok] at q
      exact q H3 s3
end
end Ww
namespace Ww
open PySem PySem.Spec PyProof.Rows L2
section
variable {P : Program} {w : World} {K : PySem.W.Frag} {mg : Str → Option Value} {base : Heap}
/-! ### the checks, of what passes them -/
def sp_check_wheels (K : PySem.W.Frag) : Sp := fun vs H Q _ => ∃ (a : Addr) (ws : List Int), vs = [.ref a] ∧ SqL K H a (ws.map V.int) ∧ ones ws ∧ Q .non H
theorem ok_check_wheels (D : Df K mg "check_wheels" s_check_wheels ["wheels"]) (B : Bi mg) (G_is_whole : Ok P w K mg base "is_whole" ["thing"] 1 sp_is_whole) : Ok P w K mg base "check_wheels" ["wheels"] 2 (sp_check_wheels K) := by
  refine D.ok sc_check_wheels (fun vs H Q E h => ?_) (fun f cdv A outer s H vs Q E hr h => ?_)
  · obtain ⟨a, ws, rfl, _⟩ := h
    rfl
  · obtain ⟨a, ws, rfl, hS, ho, q⟩ := h
    refine ⟨_, (pss_cons (ps_if (pt_not (pt_val (pe_callB (isiK K) (by rfl) B.isinstance (by decide +kernel) (pa_cons (pv 0) (pa_cons (pe_bltn (v := .ty "list") (by rfl) B.list boot_list rfl) pa_nil)))))
        (pss_one ps_never)
        pss_nil)
      (pss_one (ps_for PassesOwn.never rfl (pi_list (pv 0)) (pg_name (i := 1) sc_check_wheels.nd rfl (.inl rfl))
        (pss_one (ps_if (PW.pt (pw_or (pt_not (pt_val (pe_ok G_is_whole hr (by decide) (pa_cons (pv 1) pa_nil)))) (pw_or1 (pt_cmpR op_lt (pv 1) pe_int (nomark _)))))
          (pss_one ps_never)
          pss_nil))))), ?_⟩
    refine ⟨_, rfl, _, _, _, _, true, rfl, .ty "list", tyx_list hS, kit_ty (by decide +kernel), _, rfl, ?_⟩
    refine ⟨_, rfl, a, rfl, ⟨_, hS⟩, for_list (K := K) (a := a) (xs := ws.map V.int) (fun i σ H3 => ∃ y1 : Option V, σ = [some (.ref a), y1] ∧ H3 = H) ⟨none, rfl, rfl⟩ (fun i σ H3 _ ⟨_, _, e⟩ => by rw [e]; exact hS) ?_ ?_⟩
    · rintro i x σ H3 hx ⟨y1, rfl, rfl⟩
      obtain ⟨z, hz, rfl⟩ := map_int_at hx
      have h1 := ho z (List.mem_of_getElem? hz)
      refine ⟨_, rfl, z, rfl, _, rfl, ?_⟩
      refine ⟨_, rfl, _, _, rfl, rfl, _, rfl, ite2 (fun c => ?_) (fun _ => ⟨_, rfl, rfl⟩)⟩
      have := of_decide_eq_true c
      omega
    · rintro σ H3 ⟨y1, rfl, rfl⟩
      exact q
def sp_check_setting (K : PySem.W.Frag) : Sp := fun vs H Q _ => ∃ (a b : Addr) (ws st : List Int), vs = [.ref a, .ref b] ∧ SqL K H a (ws.map V.int) ∧ SqL K H b (st.map V.int) ∧ okS ws st ∧ ∀ H' : Hp, Same H H' → Q .non H'
theorem ok_check_setting (D : Df K mg "check_setting" s_check_setting ["wheels", "setting"]) (G_is_setting : Ok P w K mg base "is_setting" ["wheels", "setting"] 2 (sp_is_set K)) : Ok P w K mg base "check_setting" ["wheels", "setting"] 3 (sp_check_setting K) := by
  refine D.ok sc_check_setting (fun vs H Q E h => ?_) (fun f cdv A outer s H vs Q E hr h => ?_)
  · obtain ⟨a, b, ws, st, rfl, _⟩ := h
    rfl
  · obtain ⟨a, b, ws, st, rfl, hW, hS, hok, q⟩ := h
    refine ⟨_, (pss_one (ps_if (pt_not (pt_val (pe_ok G_is_setting hr (by decide) (pa_cons (pv 0) (pa_cons (pv 1) pa_nil)))))
        (pss_one ps_never)
        pss_nil)), ?_⟩
    refine ⟨_, rfl, _, rfl, a, b, ws, st, rfl, hW, hS, fun H1 s1 => ?_⟩
    rw [isB_of hok]
    exact ⟨_, rfl, q H1 s1⟩
end
end Ww
namespace Ww
open PySem PySem.Spec PyProof.Rows L2
section
variable {P : Program} {w : World} {K : PySem.W.Frag} {mg : Str → Option Value} {base : Heap}
/-! ### _mirrored -/
def sp_mirrored : Sp := fun vs H Q _ => ∃ s p a : Int, vs = [.int s, .int p, .int a] ∧ Q (.int (mir s p a)) H
theorem ok_mirrored (D : Df K mg "_mirrored" s_mirrored ["size", "place", "ahead"]) (B : Bi mg) : Ok P w K mg base "_mirrored" ["size", "place", "ahead"] 1 sp_mirrored := by
  refine D.ok sc_mirrored (fun vs H Q E h => ?_) (fun f cdv A outer s H vs Q E hr h => ?_)
  · obtain ⟨s, p, a, rfl, _⟩ := h
    rfl
  · obtain ⟨s, p, a, rfl, q⟩ := h
    refine ⟨_, (pss_cons (ps_if (pt_truth (pe_op op_andM (pv 2) pe_int) (fun _ => rfl))
        (pss_one (ps_ret (pe_op op_sub (pe_op op_sub (pv 0) pe_int) (pv 1))))
        pss_nil)
      (pss_one (ps_ret (pv 1)))), ?_⟩
    refine ⟨_, rfl, a, 1, rfl, rfl, _, rfl, ?_⟩
    show if (a % 2 != 0) = true then _ else _
    rcases mir_cases s p a with ⟨h, e⟩ | ⟨h, e⟩
    · rw [h]
      rw [e] at q
      refine iteF ?_
      exact ⟨_, rfl, q⟩
    · rw [h]
      rw [e] at q
      refine iteT ?_
      exact ⟨_, rfl, _, _, rfl, rfl, _, rfl, _, _, rfl, rfl, q⟩
def sp_check_number : Sp := fun vs H Q _ => ∃ n m : Int, vs = [.int n, .int m] ∧ 0 ≤ n ∧ n < m ∧ Q .non H
theorem ok_check_number (D : Df K mg "check_number" s_check_number ["number", "many"]) (B : Bi mg) (G_is_whole : Ok P w K mg base "is_whole" ["thing"] 1 sp_is_whole) : Ok P w K mg base "check_number" ["number", "many"] 2 sp_check_number := by
  refine D.ok sc_check_number (fun vs H Q E h => ?_) (fun f cdv A outer s H vs Q E hr h => ?_)
  · obtain ⟨n, m, rfl, _⟩ := h
    rfl
  · obtain ⟨n, m, rfl, h0, h1, q⟩ := h
    refine ⟨_, (pss_one (ps_if (PW.pt (pw_or (pt_not (pt_val (pe_ok G_is_whole hr (by decide) (pa_cons (pv 0) pa_nil)))) (pw_or1 (pt_not (pt_chain op_le op_lt pe_int (pv 0) (pv 1))))))
        (pss_one ps_never)
        pss_nil)), ?_⟩
    refine ⟨_, rfl, n, rfl, _, rfl, ?_⟩
    refine ⟨_, rfl, _, _, rfl, rfl, _, rfl, ?_⟩
    rw [decide_eq_true h0]
    refine ⟨_, rfl, _, _, rfl, rfl, _, rfl, ?_⟩
    rw [decide_eq_true h1]
    exact q
/-! ### settings -/
theorem ok_settings (D : Df K mg "settings" s_settings ["wheels"]) (B : Bi mg) (G_check_wheels : Ok P w K mg base "check_wheels" ["wheels"] 2 (sp_check_wheels K)) : Ok P w K mg base "settings" ["wheels"] 3 (sp_count K) := by
  refine D.ok sc_settings (fun vs H Q E h => ?_) (fun f cdv A outer s H vs Q E hr h => ?_)
  · obtain ⟨a, ws, rfl, _⟩ := h
    rfl
  · obtain ⟨a, ws, rfl, hW, hs, hlen, q⟩ := h
    refine ⟨_, (pss_cons (ps_expr (pe_ok G_check_wheels hr (by decide) (pa_cons (pv 0) pa_nil)))
      (pss_cons (ps_set (i := 1) sc_settings.nd rfl (.inl rfl) pe_int)
      (pss_cons (ps_for PassesOwn.never rfl (pi_list (pv 0)) (pg_name (i := 2) sc_settings.nd rfl (.inl rfl))
        (pss_one (ps_set (i := 1) sc_settings.nd rfl (.inl rfl) (pe_op op_mulX (pv 1) (pv 2)))))
      (pss_one (ps_ret (pv 1)))))), ?_⟩
    refine ⟨_, rfl, a, ws, rfl, hW, hs.ones, ?_⟩
    refine ⟨_, rfl, a, rfl, ⟨_, hW⟩, for_list (K := K) (a := a) (xs := ws.map V.int) (fun i σ H3 => ∃ y2 : Option V, σ = [some (.ref a), some (.int (prd (ws.take i).reverse)), y2] ∧ H3 = H)
      ⟨none, rfl, rfl⟩ (fun i σ H3 _ ⟨_, _, e⟩ => by rw [e]; exact hW) ?_ ?_⟩
    · rintro i x σ H3 hx ⟨y2, rfl, rfl⟩
      obtain ⟨sz, hsz, rfl⟩ := map_int_at hx
      have hi : i < ws.length := (List.getElem?_eq_some_iff.mp hsz).1
      have b1 := prd_bits (l := (ws.take i).reverse) (hs.take i).reverse
      have b2 := size_bits (hs.at hsz).1 (hs.at hsz).2
      refine ⟨_, rfl, _, rfl, _, _, rfl, rfl, mulx_ok b1 b2 ?_, some (.int sz), ?_, rfl⟩
      · rw [List.length_reverse, List.length_take]
        omega
      · rw [prd_snoc hsz]
        rfl
    · rintro σ H3 ⟨y2, rfl, rfl⟩
      refine ⟨_, rfl, ?_⟩
      rw [List.length_map, List.take_length, prd_reverse]
      exact q
/-! ### the way forth -/
def setF (ws : List Int) (n : Int) : List Int := (sof ws.reverse n).reverse
def numF (ws st : List Int) : Int := nofR ws.reverse st.reverse
def sp_setting_of (K : PySem.W.Frag) : Sp := fun vs H Q _ => ∃ (a : Addr) (ws : List Int) (n : Int), vs = [.ref a, .int n] ∧ SqL K H a (ws.map V.int) ∧ sizes ws ∧ ws.length ≤ 1000 ∧ 0 ≤ n ∧ n < prd ws ∧
  ∀ (p : Addr) (H' : Hp), Same H H' → H p = none → H' p = some (.lst ((setF ws n).map V.int)) → Q (.ref p) H'
theorem ok_setting_of (D : Df K mg "setting_of" s_setting_of ["wheels", "number"]) (B : Bi mg) (G_settings : Ok P w K mg base "settings" ["wheels"] 3 (sp_count K))
    (G_check_number : Ok P w K mg base "check_number" ["number", "many"] 2 sp_check_number) (G_mirrored : Ok P w K mg base "_mirrored" ["size", "place", "ahead"] 1 sp_mirrored) :
    Ok P w K mg base "setting_of" ["wheels", "number"] 4 (sp_setting_of K) := by
  refine D.ok sc_setting_of (fun vs H Q E h => ?_) (fun f cdv A outer s H vs Q E hr h => ?_)
  · obtain ⟨a, ws, n, rfl, _⟩ := h
    rfl
  · obtain ⟨a, ws, n, rfl, hW, hs, hlen, h0, h1, q⟩ := h
    refine ⟨_, (pss_cons (ps_set (i := 2) sc_setting_of.nd rfl (.inl rfl) (pe_ok G_settings hr (by decide) (pa_cons (pv 0) pa_nil)))
      (pss_cons (ps_expr (pe_ok G_check_number hr (by decide) (pa_cons (pv 1) (pa_cons (pv 2) pa_nil))))
      (pss_cons (ps_set (i := 3) sc_setting_of.nd rfl (.inl rfl) (pe_lst pa_nil))
      (pss_cons (ps_set (i := 4) sc_setting_of.nd rfl (.inl rfl) (pv 1))
      (pss_cons (ps_for PassesOwn.never rfl (pi_reversed (by rfl) B.reversed (pa_cons (pv 0) pa_nil)) (pg_name (i := 5) sc_setting_of.nd rfl (.inl rfl))
        (pss_cons (ps_asg (pe_callB call_divmodW (by rfl) B.divmod (by decide +kernel) (pa_cons (pv 4) (pa_cons (pv 5) pa_nil))) (pg_tup rfl (pgs_cons (pg_name (i := 4) sc_setting_of.nd rfl (.inl rfl)) (pgs_cons (pg_name (i := 6) sc_setting_of.nd rfl (.inl rfl)) pgs_nil))))
        (pss_one (ps_expr (pe_bm PySem.F.plainAttrs_list PySem.F.slot_list_append PySem.F.type_list_append mt_append (pv 3) (pa_cons (pe_ok G_mirrored hr (by decide) (pa_cons (pv 5) (pa_cons (pv 6) (pa_cons (pv 4) pa_nil)))) pa_nil))))))
      (pss_one (ps_ret (pe_revL (pv 3))))))))), ?_⟩
    refine ⟨_, rfl, a, ws, rfl, hW, hs, hlen, ?_⟩
    refine ⟨_, rfl, _, rfl, n, _, rfl, h0, h1, ?_⟩
    refine ⟨Nat.zero_le _, fun o no => ?_⟩
    refine ⟨_, rfl, ?_⟩
    have sO : Same H (upd H o (.lst [])) := same_upd no
    refine ⟨_, rfl, a, ws.map V.int, rfl, sO.seq hW, for_revL (K := K) (a := a) (xs := ws.map V.int)
      (fun i σ H3 => ∃ y5 y6 : Option V, σ = [some (.ref a), some (.int n), some (.int (prd ws)), some (.ref o), some (.int (ahd (ws.reverse.take i) n)), y5, y6] ∧ Same H H3 ∧ H3 o = some (.lst ((sof (ws.reverse.take i) n).map V.int)))
      ⟨none, none, rfl, sO, upd_same⟩ (fun i σ H3 ⟨_, _, _, s3, _⟩ => s3.seq hW) ?_ ?_⟩
    · rintro i x σ H3 hx ⟨y5, y6, rfl, s3, eo⟩
      rw [← List.map_reverse] at hx
      obtain ⟨sz, hsz, rfl⟩ := map_int_at hx
      have hin := hs.reverse.at hsz
      have hi : i < ws.length := by
        have := (List.getElem?_eq_some_iff.mp hsz).1
        rw [List.length_reverse] at this
        exact this
      have b2 := size_bits hin.1 hin.2
      refine ⟨_, rfl, _, rfl, _, _, rfl, ⟨by omega, PyProof.noPylong_of_log2 (Nat.lt_of_lt_of_le (PySem.Flt.log2_lt_of (by decide) b2) (by decide))⟩, fun T nT => ?_⟩
      refine ⟨T, _, rfl, SqT.of upd_same, rfl, _, _, rfl, _, _, rfl, rfl, ?_⟩
      have sT : Same H3 (upd H3 T (.tup [.int (ahd (ws.reverse.take i) n / sz), .int (ahd (ws.reverse.take i) n % sz)])) := same_upd nT
      have eoT := sT _ _ eo
      refine ⟨_, rfl, .inl ⟨rfl, _, SqL.of eoT⟩, _, rfl, _, rfl, _, rfl, _, _, _, rfl, o, _, _, rfl, rfl, eoT, ?_, ?_⟩
      · rw [List.length_map, sof_len, List.length_take]
        exact lt_line (by omega)
      · refine ⟨some (.int sz), some (.int (ahd (ws.reverse.take i) n % sz)), ?_, fun c u e => ?_, ?_⟩
        · rw [take_more hsz, ahd_snoc]
          rfl
        · rw [upd_ne (ne_of_none e no)]
          exact (s3.trans sT) _ _ e
        · rw [upd_same, take_more hsz, sof_snoc, List.map_append]
          rfl
    · rintro σ H3 ⟨y5, y6, rfl, s3, eo⟩
      rw [List.length_map, ← List.length_reverse, List.take_length] at eo
      refine ⟨_, rfl, o, _, rfl, SqL.of eo, fun p np => ?_⟩
      refine q p _ (s3.trans (same_upd np)) (s3.free np) ?_
      rw [upd_same, ← List.map_reverse]
      rfl
theorem nofR_snoc {ws st : List Int} {i : Nat} {s p : Int} (e1 : ws[i]? = some s) (e2 : st[i]? = some p) :
    nofR (ws.take (i + 1)).reverse (st.take (i + 1)).reverse = nofR (ws.take i).reverse (st.take i).reverse * s + mir s p (nofR (ws.take i).reverse (st.take i).reverse) := by
  rw [take_more e1, take_more e2, List.reverse_append, List.reverse_append]
  rfl
theorem okS_take : ∀ {ws st : List Int} (i : Nat), okS ws st → okS (ws.take i) (st.take i)
  | [], [], i, _ => by simp [okS]
  | [], _ :: _, _, h => h.elim
  | _ :: _, [], _, h => h.elim
  | _ :: _, _ :: _, 0, _ => trivial
  | _ :: _, _ :: _, i + 1, h => ⟨h.1, h.2.1, okS_take i h.2.2⟩
def sp_number_of (K : PySem.W.Frag) : Sp := fun vs H Q _ => ∃ (a b : Addr) (ws st : List Int), vs = [.ref a, .ref b] ∧ SqL K H a (ws.map V.int) ∧ SqL K H b (st.map V.int) ∧ sizes ws ∧ ws.length ≤ 1000 ∧ okS ws st ∧
  ∀ H' : Hp, Same H H' → Q (.int (numF ws st)) H'
theorem ok_number_of (D : Df K mg "number_of" s_number_of ["wheels", "setting"]) (B : Bi mg) (G_check_wheels : Ok P w K mg base "check_wheels" ["wheels"] 2 (sp_check_wheels K))
    (G_check_setting : Ok P w K mg base "check_setting" ["wheels", "setting"] 3 (sp_check_setting K)) (G_mirrored : Ok P w K mg base "_mirrored" ["size", "place", "ahead"] 1 sp_mirrored) :
    Ok P w K mg base "number_of" ["wheels", "setting"] 4 (sp_number_of K) := by
  refine D.ok sc_number_of (fun vs H Q E h => ?_) (fun f cdv A outer s H vs Q E hr h => ?_)
  · obtain ⟨a, b, ws, st, rfl, _⟩ := h
    rfl
  · obtain ⟨a, b, ws, st, rfl, hW, hS, hs, hlen, hok, q⟩ := h
    have el := okS_len hok
    refine ⟨_, (pss_cons (ps_expr (pe_ok G_check_wheels hr (by decide) (pa_cons (pv 0) pa_nil)))
      (pss_cons (ps_expr (pe_ok G_check_setting hr (by decide) (pa_cons (pv 0) (pa_cons (pv 1) pa_nil))))
      (pss_cons (ps_set (i := 2) sc_number_of.nd rfl (.inl rfl) pe_int)
      (pss_cons (ps_for PassesOwn.never rfl (pi_zip (by rfl) B.zip (pa_cons (pv 0) (pa_cons (pv 1) pa_nil))) (pg_tup rfl (pgs_cons (pg_name (i := 3) sc_number_of.nd rfl (.inl rfl)) (pgs_cons (pg_name (i := 4) sc_number_of.nd rfl (.inl rfl)) pgs_nil)))
        (pss_one (ps_set (i := 2) sc_number_of.nd rfl (.inl rfl) (pe_op op_add (pe_op op_mulX (pv 2) (pv 3)) (pe_ok G_mirrored hr (by decide) (pa_cons (pv 3) (pa_cons (pv 4) (pa_cons (pv 2) pa_nil))))))))
      (pss_one (ps_ret (pv 2))))))), ?_⟩
    refine ⟨_, rfl, a, ws, rfl, hW, hs.ones, ?_⟩
    refine ⟨_, rfl, _, rfl, a, b, ws, st, rfl, hW, hS, hok, fun H1 s1 => ?_⟩
    refine ⟨_, rfl, _, rfl, a, b, _, _, rfl, s1.seq hW, s1.seq hS, RZ.for_zipL (K := K) (a := a) (b := b) (by rw [List.length_map, List.length_map, el])
      (fun i σ H3 => ∃ y3 y4 : Option V, σ = [some (.ref a), some (.ref b), some (.int (nofR (ws.take i).reverse (st.take i).reverse)), y3, y4] ∧ Same H H3)
      ⟨none, none, rfl, s1⟩ (fun i σ H3 ⟨_, _, _, s3⟩ => ⟨s3.seq hW, s3.seq hS⟩) ?_ ?_⟩
    · rintro i x y T σ H3 hx hy ⟨y3, y4, rfl, s3⟩ nT
      obtain ⟨sz, hsz, rfl⟩ := map_int_at hx
      obtain ⟨p, hp, rfl⟩ := map_int_at hy
      have hi : i < ws.length := (List.getElem?_eq_some_iff.mp hsz).1
      have hn := nof_in (okS_reverse (okS_take i hok))
      have b1 : (nofR (ws.take i).reverse (st.take i).reverse).natAbs < 2 ^ (200 * (ws.take i).reverse.length + 1) := wide_le hn.1 (Int.le_of_lt hn.2) (prd_bits (hs.take i).reverse)
      have b2 := size_bits (hs.at hsz).1 (hs.at hsz).2
      refine ⟨T, [.int sz, .int p], rfl, SqT.of upd_same, rfl, .int sz, [.int p], rfl, .int p, [], rfl, rfl, ?_⟩
      refine ⟨_, rfl, _, rfl, _, _, rfl, rfl, mulx_ok b1 b2 ?_, _, rfl, _, rfl, _, rfl, _, _, _, rfl, _, _, rfl, rfl, some (.int sz), some (.int p), ?_, s3.trans (same_upd nT)⟩
      · rw [List.length_reverse, List.length_take]
        omega
      · rw [nofR_snoc hsz hp]
        rfl
    · rintro σ H3 ⟨y3, y4, rfl, s3⟩
      refine ⟨_, rfl, ?_⟩
      rw [List.length_map, List.take_length, ← el, List.take_length]
      exact q H3 s3
end
end Ww
/-! sorted of a list of rows: lists of whole numbers -/
namespace Ww
open PySem PySem.Spec PyProof.Rows L2
def rowV (L : List (Addr × List Int)) : List V := L.map fun q => V.ref q.1
theorem alike_rows (b b' : Addr × List Int) : PySem.W.alike (.list (b.2.map PyData.int)) (.list (b'.2.map PyData.int)) = true := by
  rw [PySem.W.alike]
  exact PySem.W.alike_ints _ _
theorem rows_each {α : Type} {R : Value → α → Prop} {f : α → V} : ∀ {L : List α} {its : List Value}, Vals (L.map f) its → (∀ q ∈ L, ∀ v, RelV (f q) v → R v q) → PySem.W.EachIs R its L
  | [], [], _, _ => .nil
  | [], _ :: _, r, _ => by cases r
  | _ :: _, [], r, _ => by cases r
  | q :: L, v :: its, r, h => by
    cases r with
    | cons r1 r2 => exact .cons (h q List.mem_cons_self v r1) (rows_each r2 fun q hq => h q (List.mem_cons_of_mem _ hq))
theorem vals_rows : ∀ {L : List (Addr × List Int)} {its : List Value}, PySem.W.EachIs (fun v (q : Addr × List Int) => v = .ref q.1) its L → Vals (rowV L) its
  | [], [], _ => .nil
  | [], _ :: _, r => by cases r
  | _ :: _, [], r => by cases r
  | q :: L, v :: its, r => by
    cases r with
    | cons r1 r2 => exact .cons r1 (vals_rows r2)
def rSortedR (K : PySem.W.Frag) : List V → Hp → VK → Prop := fun vs H Q => ∃ (a : Addr) (L : List (Addr × List Int)), vs = [V.ref a] ∧ SqL K H a (rowV L) ∧ (∀ q ∈ L, SqL K H q.1 (q.2.map V.int)) ∧
  ∀ p : Addr, H p = none → Q (.ref p) (upd H p (.lst (rowV (L.mergeSort fun q r => decide (q.2 ≤ r.2)))))
theorem cr_sortedR {X : Cx} (K : PySem.W.Frag) (hu : X.A.units + 64 < cLine) (h : X.K = K := by rfl) : CallR X (.builtin "sorted") (rSortedR K) := by
  subst h
  intro pins s σ H vs us Q I r h
  obtain ⟨a, L, rfl, hs, hL, q⟩ := h
  obtain ⟨its, rv, hl, hz⟩ := I.list hs
  rw [Vals.ref1 r]
  have e1 : PySem.W.EachIs (fun v (q : Addr × List Int) => v = .ref q.1) its L := rows_each rv fun q _ v hv => hv
  have e2 : PySem.W.EachIs (fun v (q : Addr × List Int) => ∃ as, Reads s.heap v (.list (q.2.map PyData.int)) as) its L := rows_each rv fun q hq v hv => by
    obtain ⟨its2, rv2, hl2, _⟩ := I.list (hL q hq)
    have ev : v = .ref q.1 := hv
    subst ev
    exact ⟨_, PySem.W.reads_of_ints hl2.isList rv2.ints⟩
  have hln : L.length ≤ sizeLine := by
    unfold rowV at hz
    rw [List.length_map] at hz
    exact hz
  refine PySem.W.sorted_data (enc := fun q : Addr × List Int => .list (q.2.map PyData.int)) hl.isList e1 e2 (PySem.W.AllAlike.of alike_rows) (PySem.W.Sortable.others fun b => ⟨(fun x => nomatch x), fun xs x => nomatch x⟩) hln (fun b _ => ?_) fun out h1 h2 => ?_
  · have hd := PySem.W.depthAll_ints b.2
    simp only [PyData.depth]
    omega
  · rw [PySem.W.dataLe_rows (fun q : Addr × List Int => q.2)] at h2
    obtain ⟨ep, he'⟩ := PyProof.Rows.sortedAll_at s.heap its out.toArray
    have hlen : (rowV (L.mergeSort fun q r => decide (q.2 ≤ r.2))).length ≤ sizeLine := by
      unfold rowV
      rw [List.length_map, List.length_mergeSort]
      exact hln
    exact ⟨.ref _, upd H (s.heap.objs.size + 1) (.lst (rowV (L.mergeSort fun q r => decide (q.2 ≤ r.2)))), I.laid (t' := s.toks) (fun _ _ => PyProof.Rows.sortedAll_old) (Nat.le_succ _) ⟨hlen, out, ep, vals_rows h2, he'⟩, rfl, q _ (I.hok.fresh (Nat.le_succ _))⟩
/-- a list at o of rows, all laid since H1 -/
structure Rows (H1 H3 : Hp) (o : Addr) (L : List (Addr × List Int)) : Prop where
  same : Same H1 H3
  lst : H3 o = some (.lst (rowV L))
  each : ∀ q ∈ L, q.1 ≠ o ∧ H1 q.1 = none ∧ H3 q.1 = some (.lst (q.2.map V.int))
theorem Rows.nil {H1 : Hp} {o : Addr} (no : H1 o = none) : Rows H1 (upd H1 o (.lst [])) o [] := ⟨same_upd no, upd_same, fun _ h => by cases h⟩
theorem Rows.keep {H1 H3 H4 : Hp} {o : Addr} {L : List (Addr × List Int)} (R : Rows H1 H3 o L) (s : Same H3 H4) : Rows H1 H4 o L :=
  ⟨R.same.trans s, s _ _ R.lst, fun q hq => ⟨(R.each q hq).1, (R.each q hq).2.1, s _ _ (R.each q hq).2.2⟩⟩
theorem Rows.more {H1 H3 H4 : Hp} {o p : Addr} {r : List Int} {L : List (Addr × List Int)} (R : Rows H1 H3 o L) (no : H1 o = none) (s4 : Same H3 H4) (np : H3 p = none) (ep : H4 p = some (.lst (r.map V.int))) :
    Rows H1 (upd H4 o (.lst (rowV L ++ [.ref p]))) o (L ++ [(p, r)]) := by
  refine ⟨fun c u e => ?_, ?_, fun q hm => ?_⟩
  · rw [upd_ne (ne_of_none e no)]
    exact (R.same.trans s4) _ _ e
  · rw [upd_same]
    unfold rowV
    rw [List.map_append]
    rfl
  · rcases List.mem_append.mp hm with hm | hm
    · obtain ⟨q1, q2, q3⟩ := R.each q hm
      refine ⟨q1, q2, ?_⟩
      rw [upd_ne q1]
      exact s4 _ _ q3
    · rw [List.mem_singleton.mp hm]
      have npo : p ≠ o := (ne_of_none R.lst np).symm
      refine ⟨npo, R.same.free np, ?_⟩
      show upd H4 o _ p = some (.lst (r.map V.int))
      rw [upd_ne npo]
      exact ep
theorem Rows.seqs {K : PySem.W.Frag} {H1 H3 : Hp} {o : Addr} {L : List (Addr × List Int)} (R : Rows H1 H3 o L) : ∀ q ∈ L, SqL K H3 q.1 (q.2.map V.int) := fun q hq => SqL.of (R.each q hq).2.2
theorem cut_to (xs : List V) (k : Nat) : cutV xs none (some (k : Int)) = xs.take k := by
  unfold cutV
  rw [HT.sIx_none, HT.sIx_nat, List.drop_zero, Nat.sub_zero]
  by_cases h : k ≤ xs.length
  · rw [Nat.min_eq_left h]
  · rw [Nat.min_eq_right (by omega), List.take_length, List.take_of_length_le (by omega)]
theorem cut_from (xs : List V) (k : Nat) : cutV xs (some (k : Int)) none = xs.drop k := by
  unfold cutV
  rw [HT.sIx_none, HT.sIx_nat]
  by_cases h : k ≤ xs.length
  · rw [Nat.min_eq_left h, List.take_of_length_le (by rw [List.length_drop]; exact Nat.le_refl _)]
  · rw [Nat.min_eq_right (by omega), Nat.sub_self, List.take_zero, List.drop_of_length_le (by omega)]
theorem cut_set {st : List Int} {k : Nat} (z : Int) (h : k < st.length) : cutV (st.map V.int) none (some (k : Int)) ++ [V.int z] ++ cutV (st.map V.int) (some ((k + 1 : Nat) : Int)) none = (st.set k z).map V.int := by
  rw [cut_to, cut_from, List.set_eq_take_append_cons_drop, if_pos h, List.map_append, List.map_cons, List.map_take, List.map_drop, List.append_assoc]
  rfl
/-! lists of rows compared -/
theorem dpAll_rows {K : PySem.W.Frag} {H : Hp} : ∀ {L : List (Addr × List Int)}, (∀ q ∈ L, SqL K H q.1 (q.2.map V.int)) → DpAll K H (rowV L) ((L.map (·.2)).map fun r => PyData.list (r.map PyData.int))
  | [], _ => .nil
  | q :: L, h => .cons (dp_ints (h q List.mem_cons_self)) (dpAll_rows fun r hr => h r (List.mem_cons_of_mem _ hr))
theorem dp_rows {K : PySem.W.Frag} {H : Hp} {a : Addr} {L : List (Addr × List Int)} (h : SqL K H a (rowV L)) (h2 : ∀ q ∈ L, SqL K H q.1 (q.2.map V.int)) : Dp K H (.ref a) (.list ((L.map (·.2)).map fun r => PyData.list (r.map PyData.int))) := .lst h (dpAll_rows h2)
theorem canLay_rows : ∀ rs : List (List Int), PyData.canLayAll0 (rs.map fun r => PyData.list (r.map PyData.int)) = true
  | [] => by simp [PyData.canLayAll0]
  | r :: rs => by simp [PyData.canLayAll0, PyData.canLay0, canLay_rows rs, PySem.W.canLayAll0_ints r]
theorem depth_rows : ∀ rs : List (List Int), PyData.depthAll (rs.map fun r => PyData.list (r.map PyData.int)) ≤ 3
  | [] => by simp [PyData.depthAll]
  | r :: rs => by
    have h1 := depth_rows rs
    have h2 := PySem.W.depthAll_ints r
    simp only [List.map_cons, PyData.depthAll, PyData.depth]
    omega
theorem shaped_rows (rs : List (List Int)) : SeqAt.shaped (.list (rs.map fun r => PyData.list (r.map PyData.int))) = true := by
  have h1 := depth_rows rs
  have h2 : PyData.depth (.list (rs.map fun r => PyData.list (r.map PyData.int))) ≤ 64 := by simp only [PyData.depth]; omega
  show (PyData.canLay0 (.list (rs.map fun r => PyData.list (r.map PyData.int))) && decide (PyData.depth (.list (rs.map fun r => PyData.list (r.map PyData.int))) ≤ 64)) = true
  rw [Bool.and_eq_true]
  exact ⟨by simp only [PyData.canLay0]; exact canLay_rows rs, decide_eq_true h2⟩
theorem eqv_refl_rows (rs : List (List Int)) : PyData.eqv (.list (rs.map fun r => PyData.list (r.map PyData.int))) (.list (rs.map fun r => PyData.list (r.map PyData.int))) = true :=
  SeqAt.eqv_refl _ (SeqAt.canLay_of_shaped (shaped_rows rs))
end Ww
/-! neighbours: who they are, in which order, how far from another setting -/
namespace Ww
/-- one less by the wheel k, one more -/
def decA (st : List Int) (k : Nat) : List (List Int) := if 0 < st.getD k 0 then [st.set k (st.getD k 0 - 1)] else []
def incA (ws st : List Int) (k : Nat) : List (List Int) := if st.getD k 0 < ws.getD k 0 - 1 then [st.set k (st.getD k 0 + 1)] else []
def decs (st : List Int) (i : Nat) : List (List Int) := (List.range i).flatMap (decA st)
def incs (ws st : List Int) (n i : Nat) : List (List Int) := (List.range i).flatMap fun j => incA ws st (n - 1 - j)
def nearL (ws st : List Int) : List (List Int) := decs st ws.length ++ incs ws st ws.length ws.length
def dueL (ws st : List Int) (i : Nat) : List (List Int) := (List.range i).flatMap fun k => decA st k ++ incA ws st k
theorem decs_succ (st : List Int) (i : Nat) : decs st (i + 1) = decs st i ++ decA st i := by
  unfold decs
  rw [List.range_succ, List.flatMap_append, List.flatMap_singleton]
theorem incs_succ (ws st : List Int) (n i : Nat) : incs ws st n (i + 1) = incs ws st n i ++ incA ws st (n - 1 - i) := by
  unfold incs
  rw [List.range_succ, List.flatMap_append, List.flatMap_singleton]
theorem dueL_succ (ws st : List Int) (i : Nat) : dueL ws st (i + 1) = dueL ws st i ++ (decA st i ++ incA ws st i) := by
  unfold dueL
  rw [List.range_succ, List.flatMap_append, List.flatMap_singleton]
theorem decA_len (st : List Int) (k : Nat) : (decA st k).length ≤ 1 := by
  unfold decA
  split <;> simp
theorem incA_len (ws st : List Int) (k : Nat) : (incA ws st k).length ≤ 1 := by
  unfold incA
  split <;> simp
theorem decs_len (st : List Int) : ∀ i, (decs st i).length ≤ i
  | 0 => Nat.le_refl 0
  | i + 1 => by
    rw [decs_succ, List.length_append]
    have := decs_len st i
    have := decA_len st i
    omega
theorem incs_len (ws st : List Int) (n : Nat) : ∀ i, (incs ws st n i).length ≤ i
  | 0 => Nat.le_refl 0
  | i + 1 => by
    rw [incs_succ, List.length_append]
    have := incs_len ws st n i
    have := incA_len ws st (n - 1 - i)
    omega
theorem dueL_len (ws st : List Int) : ∀ i, (dueL ws st i).length ≤ 2 * i
  | 0 => Nat.le_refl 0
  | i + 1 => by
    rw [dueL_succ, List.length_append, List.length_append]
    have := dueL_len ws st i
    have := decA_len st i
    have := incA_len ws st i
    omega
/-! ### the same ones -/
theorem flatMap_two {α β : Type} (f g : α → List β) : ∀ l : List α, (l.flatMap fun x => f x ++ g x).Perm (l.flatMap f ++ l.flatMap g)
  | [] => List.Perm.refl _
  | x :: l => by
    have ih := flatMap_two f g l
    rw [List.flatMap_cons, List.flatMap_cons, List.flatMap_cons]
    have h1 : (f x ++ g x ++ List.flatMap (fun x => f x ++ g x) l).Perm (f x ++ g x ++ (l.flatMap f ++ l.flatMap g)) := ih.append_left _
    have h2 : (f x ++ g x ++ (l.flatMap f ++ l.flatMap g)).Perm (f x ++ l.flatMap f ++ (g x ++ l.flatMap g)) := by
      rw [List.append_assoc, List.append_assoc]
      refine List.Perm.append_left _ ?_
      rw [← List.append_assoc, ← List.append_assoc]
      exact List.perm_append_comm.append_right _
    exact h1.trans h2
theorem range_rev : ∀ n : Nat, (List.range n).map (fun i => n - 1 - i) = (List.range n).reverse := fun n => by
  refine List.ext_getElem ?_ fun i h1 h2 => ?_
  · rw [List.length_map, List.length_reverse]
  · rw [List.getElem_map, List.getElem_reverse, List.getElem_range, List.getElem_range, List.length_range]
theorem due_perm (ws st : List Int) : (dueL ws st ws.length).Perm (nearL ws st) := by
  unfold dueL nearL decs incs
  refine (flatMap_two _ _ _).trans (List.Perm.append_left _ ?_)
  have e : (List.range ws.length).flatMap (fun j => incA ws st (ws.length - 1 - j)) = ((List.range ws.length).map fun i => ws.length - 1 - i).flatMap (incA ws st) := by
    rw [List.flatMap_map]
  rw [e, range_rev]
  exact ((List.reverse_perm _).flatMap_right _).symm
/-! ### in order -/
theorem set_low : ∀ {st : List Int} {i j : Nat} {a b : Int}, i < j → i < st.length → a < st.getD i 0 → st.set i a < st.set j b
  | [], i, j, a, b, _, h, _ => by simp at h
  | x :: r, 0, j + 1, a, b, _, _, h => by
    show a :: r < x :: r.set j b
    exact List.cons_lt_cons_iff.mpr (.inl h)
  | x :: r, i + 1, j + 1, a, b, h1, h2, h => by
    show x :: r.set i a < x :: r.set j b
    exact List.cons_lt_cons_iff.mpr (.inr ⟨rfl, set_low (by omega) (by simpa using h2) (by simpa using h)⟩)
  | _ :: _, _, 0, _, _, h, _, _ => absurd h (Nat.not_lt_zero _)
theorem set_high : ∀ {st : List Int} {i j : Nat} {a b : Int}, i < j → i < st.length → st.getD i 0 < a → st.set j b < st.set i a
  | [], i, j, a, b, _, h, _ => by simp at h
  | x :: r, 0, j + 1, a, b, _, _, h => by
    show x :: r.set j b < a :: r
    exact List.cons_lt_cons_iff.mpr (.inl h)
  | x :: r, i + 1, j + 1, a, b, h1, h2, h => by
    show x :: r.set j b < x :: r.set i a
    exact List.cons_lt_cons_iff.mpr (.inr ⟨rfl, set_high (by omega) (by simpa using h2) (by simpa using h)⟩)
  | _ :: _, _, 0, _, _, h, _, _ => absurd h (Nat.not_lt_zero _)
theorem set_same : ∀ {st : List Int} {i : Nat} {a b : Int}, i < st.length → a < b → st.set i a < st.set i b
  | [], i, a, b, h, _ => by simp at h
  | x :: r, 0, a, b, _, h => by
    show a :: r < b :: r
    exact List.cons_lt_cons_iff.mpr (.inl h)
  | x :: r, i + 1, a, b, h, h2 => by
    show x :: r.set i a < x :: r.set i b
    exact List.cons_lt_cons_iff.mpr (.inr ⟨rfl, set_same (by simpa using h) h2⟩)
theorem mem_decA {st x : List Int} {k : Nat} (h : x ∈ decA st k) : 0 < st.getD k 0 ∧ x = st.set k (st.getD k 0 - 1) := by
  unfold decA at h
  split at h
  · rename_i c
    exact ⟨c, List.mem_singleton.mp h⟩
  · cases h
theorem mem_incA {ws st x : List Int} {k : Nat} (h : x ∈ incA ws st k) : st.getD k 0 < ws.getD k 0 - 1 ∧ x = st.set k (st.getD k 0 + 1) := by
  unfold incA at h
  split at h
  · rename_i c
    exact ⟨c, List.mem_singleton.mp h⟩
  · cases h
theorem mem_decs {st x : List Int} {i : Nat} (h : x ∈ decs st i) : ∃ k, k < i ∧ 0 < st.getD k 0 ∧ x = st.set k (st.getD k 0 - 1) := by
  unfold decs at h
  obtain ⟨k, hk, hx⟩ := List.mem_flatMap.mp h
  exact ⟨k, List.mem_range.mp hk, mem_decA hx⟩
theorem mem_incs {ws st x : List Int} {n i : Nat} (h : x ∈ incs ws st n i) : ∃ j, j < i ∧ st.getD (n - 1 - j) 0 < ws.getD (n - 1 - j) 0 - 1 ∧ x = st.set (n - 1 - j) (st.getD (n - 1 - j) 0 + 1) := by
  unfold incs at h
  obtain ⟨k, hk, hx⟩ := List.mem_flatMap.mp h
  exact ⟨k, List.mem_range.mp hk, mem_incA hx⟩
theorem small_pair {α : Type} {R : α → α → Prop} {l : List α} (h : l.length ≤ 1) : l.Pairwise R := by
  match l, h with
  | [], _ => exact .nil
  | [x], _ => exact List.pairwise_singleton _ _
theorem near_sorted {ws st : List Int} (hl : st.length = ws.length) : (nearL ws st).Pairwise (· ≤ ·) := by
  have hd : ∀ i, i ≤ ws.length → (decs st i).Pairwise (· ≤ ·) := by
    intro i
    induction i with
    | zero => intro _; exact .nil
    | succ i ih =>
      intro hi
      rw [decs_succ]
      refine List.pairwise_append.mpr ⟨ih (by omega), small_pair (decA_len st i), fun x hx y hy => ?_⟩
      obtain ⟨k, hk, hk0, rfl⟩ := mem_decs hx
      obtain ⟨_, rfl⟩ := mem_decA hy
      exact List.le_of_lt (set_low hk (by omega) (by omega))
  have hu : ∀ i, i ≤ ws.length → (incs ws st ws.length i).Pairwise (· ≤ ·) := by
    intro i
    induction i with
    | zero => intro _; exact .nil
    | succ i ih =>
      intro hi
      rw [incs_succ]
      refine List.pairwise_append.mpr ⟨ih (by omega), small_pair (incA_len ws st _), fun x hx y hy => ?_⟩
      obtain ⟨j, hj, hj0, rfl⟩ := mem_incs hx
      obtain ⟨_, rfl⟩ := mem_incA hy
      exact List.le_of_lt (set_high (by omega) (by omega) (by omega))
  unfold nearL
  refine List.pairwise_append.mpr ⟨hd _ (Nat.le_refl _), hu _ (Nat.le_refl _), fun x hx y hy => ?_⟩
  obtain ⟨k, hk, hk0, rfl⟩ := mem_decs hx
  obtain ⟨j, hj, hj0, rfl⟩ := mem_incs hy
  rcases Nat.lt_trichotomy k (ws.length - 1 - j) with c | c | c
  · exact List.le_of_lt (set_low c (by omega) (by omega))
  · rw [← c]
    exact List.le_of_lt (set_same (by omega) (by omega))
  · exact List.le_of_lt (set_high c (by omega) (by omega))
theorem merge_due {ws st : List Int} (hl : st.length = ws.length) : (dueL ws st ws.length).mergeSort (fun p q => decide (p ≤ q)) = nearL ws st := by
  refine List.Perm.eq_of_pairwise (le := (· ≤ ·)) (fun a b _ _ h1 h2 => List.le_antisymm h1 h2) ?_ (near_sorted hl) ((List.mergeSort_perm _ _).trans (due_perm ws st))
  have h := List.pairwise_mergeSort (le := fun p q : List Int => decide (p ≤ q)) (fun a b c h1 h2 => decide_eq_true (List.le_trans (of_decide_eq_true h1) (of_decide_eq_true h2)))
    (fun a b => by
      rcases List.le_total a b with h | h
      · rw [decide_eq_true h]; rfl
      · rw [decide_eq_true h, Bool.or_true]) (dueL ws st ws.length)
  exact h.imp fun h => of_decide_eq_true h
/-! ### settings, and how far -/
theorem okS_getD {ws st : List Int} (h : okS ws st) {k : Nat} (hk : k < ws.length) : 0 ≤ st.getD k 0 ∧ st.getD k 0 < ws.getD k 0 := by
  have e := okS_len h
  have z := okS_at h (List.getElem?_eq_getElem hk) (List.getElem?_eq_getElem (show k < st.length by omega))
  rw [List.getD_eq_getElem?_getD, List.getD_eq_getElem?_getD, List.getElem?_eq_getElem hk, List.getElem?_eq_getElem (show k < st.length by omega)]
  exact z
theorem okS_set : ∀ {ws st : List Int} {k : Nat} {v : Int}, okS ws st → 0 ≤ v → v < ws.getD k 0 → okS ws (st.set k v)
  | [], [], _, _, _, _, _ => trivial
  | [], _ :: _, _, _, h, _, _ => h.elim
  | _ :: _, [], _, _, h, _, _ => h.elim
  | s :: ws, p :: st, 0, v, h, h0, h1 => ⟨h0, h1, h.2.2⟩
  | s :: ws, p :: st, k + 1, v, h, h0, h1 => ⟨h.1, h.2.1, okS_set h.2.2 h0 (by simpa using h1)⟩
theorem near_ok {ws st x : List Int} (h : okS ws st) (hx : x ∈ nearL ws st) : ∃ k d, k < ws.length ∧ (d = 1 ∨ d = -1) ∧ x = st.set k (st.getD k 0 + d) ∧ okS ws x := by
  unfold nearL at hx
  rcases List.mem_append.mp hx with hx | hx
  · obtain ⟨k, hk, h0, rfl⟩ := mem_decs hx
    have z := okS_getD h hk
    exact ⟨k, -1, hk, .inr rfl, rfl, okS_set h (by omega) (by omega)⟩
  · obtain ⟨j, hj, h0, rfl⟩ := mem_incs hx
    have z := okS_getD h (show ws.length - 1 - j < ws.length by omega)
    exact ⟨_, 1, by omega, .inl rfl, rfl, okS_set h (by omega) (by omega)⟩
theorem dist_set : ∀ {st o : List Int} {k : Nat} {v : Int}, st.length = o.length → k < st.length → dist (st.set k v) o = dist st o - absI (st.getD k 0 - o.getD k 0) + absI (v - o.getD k 0)
  | [], _, _, _, _, h => by simp at h
  | _ :: _, [], _, _, h, _ => by simp at h
  | x :: st, y :: o, 0, v, _, _ => by
    show absI (v - y) + dist st o = absI (x - y) + dist st o - absI (x - y) + absI (v - y)
    omega
  | x :: st, y :: o, k + 1, v, h, h2 => by
    have ih := dist_set (st := st) (o := o) (k := k) (v := v) (by simpa using h) (by simpa using h2)
    show absI (x - y) + dist (st.set k v) o = absI (x - y) + dist st o - absI (st.getD k 0 - o.getD k 0) + absI (v - o.getD k 0)
    omega
theorem near_step {ws st o x : List Int} (h : okS ws st) (ho : okS ws o) (hx : x ∈ nearL ws st) : dist x o - dist st o = 1 ∨ dist x o - dist st o = -1 := by
  obtain ⟨k, d, hk, hd, rfl, _⟩ := near_ok h hx
  rw [dist_set (by rw [okS_len h, okS_len ho]) (by rw [okS_len h]; exact hk), absI_eq, absI_eq]
  generalize st.getD k 0 = a
  generalize o.getD k 0 = b
  rcases hd with rfl | rfl <;> omega
theorem dist_pos : ∀ {st o : List Int}, st.length = o.length → 0 < dist st o → ∃ k, k < st.length ∧ st.getD k 0 ≠ o.getD k 0
  | [], o, _, h => by
    have : dist [] o = 0 := rfl
    omega
  | _ :: _, [], h, _ => by simp at h
  | x :: st, y :: o, h, h2 => by
    by_cases c : x = y
    · subst c
      have e : dist (x :: st) (x :: o) = absI (x - x) + dist st o := rfl
      rw [Int.sub_self] at e
      have e0 : absI 0 = 0 := rfl
      obtain ⟨k, hk, hne⟩ := dist_pos (st := st) (o := o) (by simpa using h) (by omega)
      exact ⟨k + 1, by rw [List.length_cons]; omega, by simpa using hne⟩
    · exact ⟨0, by rw [List.length_cons]; omega, c⟩
theorem near_less {ws st o : List Int} (h : okS ws st) (ho : okS ws o) (hp : 0 < dist st o) : ∃ x, x ∈ nearL ws st ∧ dist x o - dist st o = -1 := by
  have e1 := okS_len h
  have e2 := okS_len ho
  obtain ⟨k, hk, hne⟩ := dist_pos (by omega) hp
  have z1 := okS_getD h (show k < ws.length by omega)
  have z2 := okS_getD ho (show k < ws.length by omega)
  by_cases c : o.getD k 0 < st.getD k 0
  · refine ⟨st.set k (st.getD k 0 - 1), ?_, ?_⟩
    · unfold nearL decs
      refine List.mem_append_left _ (List.mem_flatMap.mpr ⟨k, List.mem_range.mpr (by omega), ?_⟩)
      unfold decA
      rw [if_pos (by omega)]
      exact List.mem_singleton.mpr rfl
    · rw [dist_set (by omega) hk, absI_eq, absI_eq]
      omega
  · refine ⟨st.set k (st.getD k 0 + 1), ?_, ?_⟩
    · unfold nearL incs
      refine List.mem_append_right _ (List.mem_flatMap.mpr ⟨ws.length - 1 - k, List.mem_range.mpr (by omega), ?_⟩)
      have ek : ws.length - 1 - (ws.length - 1 - k) = k := by omega
      rw [ek]
      unfold incA
      rw [if_pos (by omega)]
      exact List.mem_singleton.mpr rfl
    · rw [dist_set (by omega) hk, absI_eq, absI_eq]
      omega
theorem dist_nn : ∀ (a b : List Int), 0 ≤ dist a b
  | [], _ => Int.le_refl 0
  | _ :: _, [] => Int.le_refl 0
  | x :: a, y :: b => by
    have := dist_nn a b
    show 0 ≤ absI (x - y) + dist a b
    rw [absI_eq]
    omega
end Ww
namespace Ww
open PySem PySem.Spec PyProof.Rows L2
theorem ixN_nat {n j : Nat} (h : j < n) : ixN n (j : Int) = some j := by
  unfold ixN
  rw [if_pos (by omega), if_pos (by omega), Int.toNat_natCast]
theorem getD_at {ns : List Int} {k : Nat} (h : k < ns.length) : ns[k]? = some (ns.getD k 0) := by
  rw [List.getD_eq_getElem?_getD, List.getElem?_eq_getElem h]
  rfl
theorem dist_snoc {xs ys : List Int} {i : Nat} {x y : Int} (hx : xs[i]? = some x) (hy : ys[i]? = some y) : dist (xs.take (i + 1)) (ys.take (i + 1)) = dist (xs.take i) (ys.take i) + absI (x - y) := by
  have h1 : i < xs.length := (List.getElem?_eq_some_iff.mp hx).1
  have h2 : i < ys.length := (List.getElem?_eq_some_iff.mp hy).1
  rw [take_more hx, take_more hy, dist_append (by rw [List.length_take, List.length_take]; omega)]
  show _ + (absI (x - y) + 0) = _
  omega
section
variable {P : Program} {w : World} {K : PySem.W.Frag} {mg : Str → Option Value} {base : Heap}
/-! ### _stepped -/
def sp_stepped (K : PySem.W.Frag) : Sp := fun vs H Q _ => ∃ (a : Addr) (st : List Int) (k : Nat) (z d : Int), vs = [.ref a, .int z, .int d] ∧ z = (k : Int) ∧ SqL K H a (st.map V.int) ∧ k < st.length ∧
  ∀ (p : Addr) (H' : Hp), Same H H' → H p = none → H' p = some (.lst ((st.set k (st.getD k 0 + d)).map V.int)) → Q (.ref p) H'
theorem ok_stepped (D : Df K mg "_stepped" s_stepped ["setting", "at", "step"]) (B : Bi mg) : Ok P w K mg base "_stepped" ["setting", "at", "step"] 1 (sp_stepped K) := by
  refine D.ok sc_stepped (fun vs H Q E h => ?_) (fun f cdv A outer s H vs Q E hr h => ?_)
  · obtain ⟨a, st, k, z, d, rfl, _⟩ := h
    rfl
  · obtain ⟨a, st, k, z, d, rfl, rfl, hS, hk, q⟩ := h
    refine ⟨_, (pss_cons (ps_set (i := 3) sc_stepped.nd rfl (.inl rfl) (pe_callTy (listK K) (by rfl) B.list boot_list (pa_cons (pv 0) pa_nil)))
      (pss_cons (ps_asg (pe_op op_add (pe_ix (ixL K) (pv 3) (pv 1) (fun _ _ => rfl)) (pv 2)) (pg_sub (pv 3) (pv 1) set_list))
      (pss_one (ps_ret (pv 3))))), ?_⟩
    refine ⟨_, rfl, a, _, rfl, .inl hS, fun p np => ?_⟩
    have g := at_map_int (getD_at hk)
    refine ⟨_, rfl, _, rfl, p, _, _, _, rfl, rfl, SqL.of upd_same, atI_nat g, _, rfl, _, _, rfl, rfl, _, rfl, _, rfl, p, _, _, _, rfl, rfl, upd_same, ixN_nat (by rw [List.length_map]; exact hk), ?_⟩
    refine ⟨_, rfl, q p _ (fun c u e => ?_) np ?_⟩
    · rw [upd_ne (ne_of_none e np), upd_ne (ne_of_none e np)]
      exact .self e
    · rw [upd_same, List.map_set]
/-! ### near -/
def sp_near (K : PySem.W.Frag) : Sp := fun vs H Q _ => ∃ (a b : Addr) (ws st : List Int), vs = [.ref a, .ref b] ∧ SqL K H a (ws.map V.int) ∧ SqL K H b (st.map V.int) ∧ ones ws ∧ ws.length ≤ 1000 ∧ okS ws st ∧
  ∀ (L : List (Addr × List Int)) (p : Addr) (H' : Hp), L.map (·.2) = nearL ws st → Same H H' → H p = none → H' p = some (.lst (rowV L)) → (∀ q ∈ L, q.1 ≠ p ∧ H q.1 = none ∧ H' q.1 = some (.lst (q.2.map V.int))) → Q (.ref p) H'
theorem ok_near (D : Df K mg "near" s_near ["wheels", "setting"]) (B : Bi mg) (G_check_wheels : Ok P w K mg base "check_wheels" ["wheels"] 2 (sp_check_wheels K))
    (G_check_setting : Ok P w K mg base "check_setting" ["wheels", "setting"] 3 (sp_check_setting K)) (G_stepped : Ok P w K mg base "_stepped" ["setting", "at", "step"] 1 (sp_stepped K)) :
    Ok P w K mg base "near" ["wheels", "setting"] 4 (sp_near K) := by
  refine D.ok sc_near (fun vs H Q E h => ?_) (fun f cdv A outer s H vs Q E hr h => ?_)
  · obtain ⟨a, b, ws, st, rfl, _⟩ := h
    rfl
  · obtain ⟨a, b, ws, st, rfl, hW, hS, ho, hlen, hok, q⟩ := h
    have el := okS_len hok
    refine ⟨_, (pss_cons (ps_expr (pe_ok G_check_wheels hr (by decide) (pa_cons (pv 0) pa_nil)))
      (pss_cons (ps_expr (pe_ok G_check_setting hr (by decide) (pa_cons (pv 0) (pa_cons (pv 1) pa_nil))))
      (pss_cons (ps_set (i := 2) sc_near.nd rfl (.inl rfl) (pe_lst pa_nil))
      (pss_cons (ps_for PassesOwn.never rfl (pi_range1 (by rfl) B.range (pa_cons (pe_callB (lenK K) (by rfl) B.len PySem.boot_len (pa_cons (pv 0) pa_nil)) pa_nil)) (pg_name (i := 3) sc_near.nd rfl (.inl rfl))
        (pss_one (ps_if (pt_cmpR op_gt (pe_ix (ixL K) (pv 1) (pv 3) (fun _ _ => rfl)) pe_int (nomark _))
          (pss_one (ps_expr (pe_bm PySem.F.plainAttrs_list PySem.F.slot_list_append PySem.F.type_list_append mt_append (pv 2) (pa_cons (pe_ok G_stepped hr (by decide) (pa_cons (pv 1) (pa_cons (pv 3) (pa_cons (pe_un un_neg pe_int) pa_nil)))) pa_nil))))
          pss_nil)))
      (pss_cons (ps_for PassesOwn.never rfl (pi_revR (by rfl) B.reversed (prg_1 (by rfl) B.range (pe_callB (lenK K) (by rfl) B.len PySem.boot_len (pa_cons (pv 0) pa_nil)))) (pg_name (i := 3) sc_near.nd rfl (.inl rfl))
        (pss_one (ps_if (pt_cmpR op_lt (pe_ix (ixL K) (pv 1) (pv 3) (fun _ _ => rfl)) (pe_op op_sub (pe_ix (ixL K) (pv 0) (pv 3) (fun _ _ => rfl)) pe_int) (nomark _))
          (pss_one (ps_expr (pe_bm PySem.F.plainAttrs_list PySem.F.slot_list_append PySem.F.type_list_append mt_append (pv 2) (pa_cons (pe_ok G_stepped hr (by decide) (pa_cons (pv 1) (pa_cons (pv 3) (pa_cons pe_int pa_nil)))) pa_nil))))
          pss_nil)))
      (pss_one (ps_ret (pv 2)))))))), ?_⟩
    refine ⟨_, rfl, a, ws, rfl, hW, ho, ?_⟩
    refine ⟨_, rfl, _, rfl, a, b, ws, st, rfl, hW, hS, hok, fun H1 s1 => ?_⟩
    refine ⟨Nat.zero_le _, fun o no => ?_⟩
    have sO : Same H1 (upd H1 o (.lst [])) := same_upd no
    -- one list more, its list appended
    have more : ∀ (L : List (Addr × List Int)) (H3 H4 : Hp) (p : Addr) (r : List Int), Same H1 H3 → H3 o = some (.lst (rowV L)) → (∀ q ∈ L, q.1 ≠ o ∧ H1 q.1 = none ∧ H3 q.1 = some (.lst (q.2.map V.int))) →
        Same H3 H4 → H3 p = none → H4 p = some (.lst (r.map V.int)) →
        Same H1 (upd H4 o (.lst (rowV L ++ [.ref p]))) ∧ (upd H4 o (.lst (rowV L ++ [.ref p]))) o = some (.lst (rowV (L ++ [(p, r)]))) ∧
          (∀ q ∈ L ++ [(p, r)], q.1 ≠ o ∧ H1 q.1 = none ∧ (upd H4 o (.lst (rowV L ++ [.ref p]))) q.1 = some (.lst (q.2.map V.int))) := by
      intro L H3 H4 p r s3 eo hq s4 np ep
      refine ⟨fun c u e => ?_, ?_, fun q hm => ?_⟩
      · rw [upd_ne (ne_of_none e no)]
        exact (s3.trans s4) _ _ e
      · rw [upd_same]
        unfold rowV
        rw [List.map_append]
        rfl
      · rcases List.mem_append.mp hm with hm | hm
        · obtain ⟨q1, q2, q3⟩ := hq q hm
          refine ⟨q1, q2, ?_⟩
          rw [upd_ne q1]
          exact s4 _ _ q3
        · rw [List.mem_singleton.mp hm]
          have npo : p ≠ o := (ne_of_none eo np).symm
          refine ⟨npo, s3.free np, ?_⟩
          show upd H4 o _ p = some (.lst (r.map V.int))
          rw [upd_ne npo]
          exact ep
    refine ⟨_, rfl, a, _, rfl, .inl (sO.seq (s1.seq hW)), _, rfl, (by omega), (by rw [List.length_map]; omega), ?_⟩
    refine for_range (lo := 0) (fun i σ H3 => ∃ (L : List (Addr × List Int)) (y3 : Option V), σ = [some (.ref a), some (.ref b), some (.ref o), y3] ∧ L.map (·.2) = decs st i ∧ Same H1 H3 ∧ H3 o = some (.lst (rowV L)) ∧ (∀ q ∈ L, q.1 ≠ o ∧ H1 q.1 = none ∧ H3 q.1 = some (.lst (q.2.map V.int))))
      ⟨[], none, rfl, rfl, sO, upd_same, (fun _ h => by cases h)⟩ ?_ ?_
    · rintro i σ H3 hi ⟨L, y3, rfl, eL, s3, eo, hq⟩
      rw [List.length_map, Int.toNat_natCast] at hi
      have g : (st.map V.int)[i]? = some (.int (st.getD i 0)) := at_map_int (getD_at (by omega))
      have hS3 : SqL K H3 b (st.map V.int) := s3.seq (s1.seq hS)
      refine ⟨_, rfl, _, rfl, b, _, _, _, rfl, rfl, hS3, at_of (j := i) (by omega) g, _, _, rfl, rfl, _, rfl, ite2 (fun c => ?_) (fun c => ?_)⟩
      · have c2 := of_decide_eq_true c
        refine ⟨_, rfl, .inl ⟨rfl, _, SqL.of eo⟩, _, rfl, _, rfl, _, rfl, b, st, i, _, -1, rfl, by omega, hS3, by omega, fun p H4 s4 np ep => ?_⟩
        obtain ⟨m1, m2, m3⟩ := more L H3 H4 p _ s3 eo hq s4 np ep
        refine ⟨o, _, _, rfl, rfl, s4 _ _ eo, ?_, L ++ [(p, st.set i (st.getD i 0 + -1))], _, rfl, ?_, m1, m2, m3⟩
        · have h1 : L.length = (decs st i).length := by rw [← eL, List.length_map]
          have h2 := decs_len st i
          unfold rowV
          rw [List.length_map]
          exact lt_line (by omega)
        · rw [List.map_append, eL, decs_succ]
          unfold decA
          rw [if_pos c2]
          rfl
      · have c2 : ¬ 0 < st.getD i 0 := fun z => c (decide_eq_true z)
        refine ⟨L, _, rfl, ?_, s3, eo, hq⟩
        rw [eL, decs_succ]
        unfold decA
        rw [if_neg c2, List.append_nil]
    · rintro σ H2 ⟨L, y3, rfl, eL, s2, eo, hq⟩
      rw [List.length_map, Int.toNat_natCast] at eL
      refine ⟨_, rfl, a, _, rfl, .inl (s2.seq (s1.seq hW)), _, rfl, (by omega), (by omega), (by omega), (by rw [List.length_map]; omega), ?_⟩
      rw [List.length_map]
      refine for_rangeC (fun i σ H3 => ∃ (L : List (Addr × List Int)) (y3 : Option V), σ = [some (.ref a), some (.ref b), some (.ref o), y3] ∧ L.map (·.2) = decs st ws.length ++ incs ws st ws.length i ∧ Same H1 H3 ∧ H3 o = some (.lst (rowV L)) ∧ (∀ q ∈ L, q.1 ≠ o ∧ H1 q.1 = none ∧ H3 q.1 = some (.lst (q.2.map V.int))))
        ⟨L, y3, rfl, (by rw [eL]; exact (List.append_nil _).symm), s2, eo, hq⟩ ?_ ?_
      · rintro i σ H3 hi ⟨L, y3, rfl, eL, s3, eo, hq⟩
        have hi2 : i < ws.length := by omega
        have ez : (0 + (((ws.length : Int) - 0).toNat : Int) - 1 + (i : Nat) * (-1)) = ((ws.length - 1 - i : Nat) : Int) := by omega
        have g : (st.map V.int)[ws.length - 1 - i]? = some (.int (st.getD (ws.length - 1 - i) 0)) := at_map_int (getD_at (by omega))
        have g2 : (ws.map V.int)[ws.length - 1 - i]? = some (.int (ws.getD (ws.length - 1 - i) 0)) := at_map_int (getD_at (by omega))
        have hS3 : SqL K H3 b (st.map V.int) := s3.seq (s1.seq hS)
        refine ⟨_, rfl, _, rfl, b, _, _, _, rfl, rfl, hS3, at_of ez g, _, rfl, _, rfl, a, _, _, _, rfl, rfl, s3.seq (s1.seq hW), at_of ez g2, _, _, rfl, rfl, _, _, rfl, rfl, _, rfl, ite2 (fun c => ?_) (fun c => ?_)⟩
        · have c2 := of_decide_eq_true c
          refine ⟨_, rfl, .inl ⟨rfl, _, SqL.of eo⟩, _, rfl, _, rfl, b, st, ws.length - 1 - i, _, 1, rfl, ez, hS3, by omega, fun p H4 s4 np ep => ?_⟩
          obtain ⟨m1, m2, m3⟩ := more L H3 H4 p _ s3 eo hq s4 np ep
          refine ⟨o, _, _, rfl, rfl, s4 _ _ eo, ?_, L ++ [(p, st.set (ws.length - 1 - i) (st.getD (ws.length - 1 - i) 0 + 1))], _, rfl, ?_, m1, m2, m3⟩
          · have h1 : L.length = (decs st ws.length ++ incs ws st ws.length i).length := by rw [← eL, List.length_map]
            rw [List.length_append] at h1
            have h2 := decs_len st ws.length
            have h3 := incs_len ws st ws.length i
            unfold rowV
            rw [List.length_map]
            exact lt_line (by omega)
          · rw [List.map_append, eL, incs_succ, List.append_assoc]
            unfold incA
            rw [if_pos c2]
            rfl
        · have c2 : ¬ st.getD (ws.length - 1 - i) 0 < ws.getD (ws.length - 1 - i) 0 - 1 := fun z => c (decide_eq_true z)
          refine ⟨L, _, rfl, ?_, s3, eo, hq⟩
          rw [eL, incs_succ]
          unfold incA
          rw [if_neg c2, List.append_nil]
      · rintro σ H3 ⟨L, y3, rfl, eL, s3, eo, hq⟩
        have en : ((ws.length : Int) - 0).toNat = ws.length := by omega
        rw [en] at eL
        exact ⟨_, rfl, q L o H3 eL (s1.trans s3) (s1.free no) eo fun r hr => ⟨(hq r hr).1, s1.free (hq r hr).2.1, (hq r hr).2.2⟩⟩
/-! ### apart -/
def sp_apart (K : PySem.W.Frag) : Sp := fun vs H Q _ => ∃ (a b c : Addr) (ws st so : List Int), vs = [.ref a, .ref b, .ref c] ∧ SqL K H a (ws.map V.int) ∧ SqL K H b (st.map V.int) ∧ SqL K H c (so.map V.int) ∧ ones ws ∧ okS ws st ∧ okS ws so ∧
  ∀ H' : Hp, Same H H' → Q (.int (dist st so)) H'
theorem ok_apart (D : Df K mg "apart" s_apart ["wheels", "one", "other"]) (B : Bi mg) (G_check_wheels : Ok P w K mg base "check_wheels" ["wheels"] 2 (sp_check_wheels K))
    (G_check_setting : Ok P w K mg base "check_setting" ["wheels", "setting"] 3 (sp_check_setting K)) : Ok P w K mg base "apart" ["wheels", "one", "other"] 4 (sp_apart K) := by
  refine D.ok sc_apart (fun vs H Q E h => ?_) (fun f cdv A outer s H vs Q E hr h => ?_)
  · obtain ⟨a, b, c, ws, st, so, rfl, _⟩ := h
    rfl
  · obtain ⟨a, b, c, ws, st, so, rfl, hW, hS, hO, ho, hok, hok2, q⟩ := h
    have e1 := okS_len hok
    have e2 := okS_len hok2
    refine ⟨_, (pss_cons (ps_expr (pe_ok G_check_wheels hr (by decide) (pa_cons (pv 0) pa_nil)))
      (pss_cons (ps_expr (pe_ok G_check_setting hr (by decide) (pa_cons (pv 0) (pa_cons (pv 1) pa_nil))))
      (pss_cons (ps_expr (pe_ok G_check_setting hr (by decide) (pa_cons (pv 0) (pa_cons (pv 2) pa_nil))))
      (pss_cons (ps_set (i := 3) sc_apart.nd rfl (.inl rfl) pe_int)
      (pss_cons (ps_for PassesOwn.never rfl (pi_zip (by rfl) B.zip (pa_cons (pv 1) (pa_cons (pv 2) pa_nil))) (pg_tup rfl (pgs_cons (pg_name (i := 4) sc_apart.nd rfl (.inl rfl)) (pgs_cons (pg_name (i := 5) sc_apart.nd rfl (.inl rfl)) pgs_nil)))
        (pss_one (ps_set (i := 3) sc_apart.nd rfl (.inl rfl) (pe_op op_add (pv 3) (pe_callB call_abs (by rfl) B.abs (by decide +kernel) (pa_cons (pe_op op_sub (pv 4) (pv 5)) pa_nil))))))
      (pss_one (ps_ret (pv 3)))))))), ?_⟩
    refine ⟨_, rfl, a, ws, rfl, hW, ho, ?_⟩
    refine ⟨_, rfl, _, rfl, a, b, ws, st, rfl, hW, hS, hok, fun H1 s1 => ?_⟩
    refine ⟨_, rfl, _, rfl, a, c, ws, so, rfl, s1.seq hW, s1.seq hO, hok2, fun H2 s2 => ?_⟩
    have s12 := s1.trans s2
    refine ⟨_, rfl, _, rfl, b, c, _, _, rfl, s12.seq hS, s12.seq hO, RZ.for_zipL (K := K) (a := b) (b := c) (by rw [List.length_map, List.length_map, e1, e2])
      (fun i σ H3 => ∃ y4 y5 : Option V, σ = [some (.ref a), some (.ref b), some (.ref c), some (.int (dist (st.take i) (so.take i))), y4, y5] ∧ Same H H3)
      ⟨none, none, rfl, s12⟩ (fun i σ H3 ⟨_, _, _, s3⟩ => ⟨s3.seq hS, s3.seq hO⟩) ?_ ?_⟩
    · rintro i x y T σ H3 hx hy ⟨y4, y5, rfl, s3⟩ nT
      obtain ⟨u, hu, rfl⟩ := map_int_at hx
      obtain ⟨v, hv, rfl⟩ := map_int_at hy
      refine ⟨T, [.int u, .int v], rfl, SqT.of upd_same, rfl, .int u, [.int v], rfl, .int v, [], rfl, rfl, ?_⟩
      refine ⟨_, rfl, _, rfl, _, rfl, _, _, rfl, rfl, _, rfl, _, _, rfl, rfl, some (.int u), some (.int v), ?_, s3.trans (same_upd nT)⟩
      rw [dist_snoc hu hv]
      rfl
    · rintro σ H3 ⟨y4, y5, rfl, s3⟩
      refine ⟨_, rfl, ?_⟩
      rw [List.length_map, List.take_length, e1, ← e2, List.take_length]
      exact q H3 s3
end
end Ww
namespace Ww
open PySem PySem.Spec PyProof.Rows L2
section
variable {P : Program} {w : World} {K : PySem.W.Frag} {mg : Str → Option Value} {base : Heap}
/-! ### is_whole of anything -/
def sp_is_wholeV (K : PySem.W.Frag) : Sp := fun vs H Q _ => ∃ (v : V) (t : String) (b1 b2 : Bool), vs = [v] ∧ TyX K H v (.type t) ∧ kitB t "int" = some b1 ∧ kitB t "bool" = some b2 ∧ Q (.bl (b1 && !b2)) H
theorem ok_is_wholeV (D : Df K mg "is_whole" s_is_whole ["thing"]) (B : Bi mg) : Ok P w K mg base "is_whole" ["thing"] 1 (sp_is_wholeV K) := by
  refine D.ok sc_is_whole (fun vs H Q E h => ?_) (fun f cdv A outer s H vs Q E hr h => ?_)
  · obtain ⟨v, t, b1, b2, rfl, _⟩ := h
    rfl
  · obtain ⟨v, t, b1, b2, rfl, ty, h1, h2, q⟩ := h
    refine ⟨_, (pss_one (ps_ret (pe_and (pe_callB (isiK K) (by rfl) B.isinstance (by decide +kernel) (pa_cons (pv 0) (pa_cons (pe_bltn (v := .ty "int") (by rfl) B.int boot_int rfl) pa_nil))) (pe_one (pe_not (pe_callB (isiK K) (by rfl) B.isinstance (by decide +kernel) (pa_cons (pv 0) (pa_cons (pe_bltn (v := .ty "bool") (by rfl) B.bool boot_bool rfl) pa_nil)))))))), ?_⟩
    refine ⟨_, rfl, _, _, _, _, b1, rfl, .ty "int", ty, kit_ty h1, _, rfl, ?_⟩
    cases b1 with
    | false => exact q
    | true => exact ⟨_, rfl, _, _, _, _, b2, rfl, .ty "bool", ty, kit_ty h2, _, rfl, q⟩
/-! ### the checks, of what they refuse -/
def sp_bad_wheels (K : PySem.W.Frag) (CW : Addr) : Sp := fun vs H _ E => ∃ v : V, vs = [v] ∧ BadW K H v ∧ E (.ref CW) none H
theorem bad_check_wheels {CW : Addr} (D : Df K mg "check_wheels" s_check_wheels ["wheels"]) (B : Bi mg) (T_BadWheels : Err K mg "BadWheels" CW) (G_is_whole : Ok P w K mg base "is_whole" ["thing"] 1 (sp_is_wholeV K)) :
    OkX P w K mg base "check_wheels" ["wheels"] 2 (sp_bad_wheels K CW) := by
  refine D.okX sc_check_wheels (fun vs H Q E h => ?_) (fun f cdv A outer s H vs Q E hr h => ?_)
  · obtain ⟨v, rfl, _⟩ := h
    rfl
  · obtain ⟨v, rfl, hb, e⟩ := h
    refine ⟨_, (pss_cons (ps_if (pt_not (pt_val (pe_callB (isiK K) (by rfl) B.isinstance (by decide +kernel) (pa_cons (pv 0) (pa_cons (pe_bltn (v := .ty "list") (by rfl) B.list boot_list rfl) pa_nil)))))
        (pss_one (ps_err T_BadWheels rfl (L2N.takes_of rfl rfl rfl rfl)))
        pss_nil)
      (pss_one (ps_for (L2.passes_of rfl) rfl (pi_list (pv 0)) (pg_name (i := 1) sc_check_wheels.nd rfl (.inl rfl))
        (pss_one (ps_if (PW.pt (pw_or (pt_not (pt_val (pe_ok G_is_whole hr (by decide) (pa_cons (pv 1) pa_nil)))) (pw_or1 (pt_cmpR op_lt (pv 1) pe_int (nomark _)))))
          (pss_one (ps_err T_BadWheels rfl (L2N.takes_of rfl rfl rfl rfl)))
          pss_nil))))), ?_⟩
    rcases hb with ⟨t, ty, hk⟩ | ⟨a, xs, rfl, hS, hc, x, hx, hx2⟩
    · exact ⟨_, rfl, _, _, _, _, false, rfl, .ty "list", ty, kit_ty hk, _, rfl, e⟩
    · refine ⟨_, rfl, _, _, _, _, true, rfl, .ty "list", tyx_list hS, kit_ty (by decide +kernel), _, rfl, ?_⟩
      refine ⟨_, rfl, a, rfl, ⟨_, hS⟩, for_list (K := K) (a := a) (xs := xs) (fun i σ H3 => ∃ y1 : Option V, σ = [some (.ref a), y1] ∧ H3 = H ∧ ∀ j y, j < i → xs[j]? = some y → ∃ z : Int, y = .int z ∧ 1 ≤ z)
        ⟨none, rfl, rfl, fun _ _ h => absurd h (Nat.not_lt_zero _)⟩ (fun i σ H3 _ ⟨_, _, e, _⟩ => by rw [e]; exact hS) ?_ ?_⟩
      · rintro i y σ H3 hy ⟨y1, rfl, rfl, hall⟩
        rcases hc y (List.mem_of_getElem? hy) with ⟨z, rfl⟩ | ⟨t, b1, b2, ty, h1, h2, h3⟩
        · refine ⟨_, rfl, _, "int", true, false, rfl, .base (.int z), by decide +kernel, by decide +kernel, _, rfl, ?_⟩
          refine ⟨_, rfl, _, _, rfl, rfl, _, rfl, ite2 (fun _ => e) (fun c => ⟨_, rfl, rfl, fun j y hj hyj => ?_⟩)⟩
          have c2 : ¬ z < 1 := fun h => c (decide_eq_true h)
          by_cases hji : j = i
          · subst hji
            exact ⟨z, Option.some.inj (hyj.symm.trans hy), by omega⟩
          · exact hall j y (by omega) hyj
        · refine ⟨_, rfl, _, t, b1, b2, rfl, ty, h1, h2, _, rfl, ?_⟩
          rw [h3]
          exact e
      · rintro σ H3 ⟨y1, rfl, rfl, hall⟩
        obtain ⟨j, hj, ej⟩ := List.getElem_of_mem hx
        obtain ⟨z, rfl, hz⟩ := hall j x hj (by rw [List.getElem?_eq_getElem hj, ej])
        have := hx2 z rfl
        omega
/-- what is no setting -/
def sp_not_set (K : PySem.W.Frag) : Sp := fun vs H Q _ => ∃ (a : Addr) (v : V) (ws : List Int), vs = [.ref a, v] ∧ SqL K H a (ws.map V.int) ∧ BadS K H ws v ∧ ∀ H' : Hp, Same H H' → Q (.bl false) H'
theorem bad_is_setting (D : Df K mg "is_setting" s_is_setting ["wheels", "setting"]) (B : Bi mg) (G_is_whole : Ok P w K mg base "is_whole" ["thing"] 1 (sp_is_wholeV K)) : Ok P w K mg base "is_setting" ["wheels", "setting"] 2 (sp_not_set K) := by
  refine D.ok sc_is_setting (fun vs H Q E h => ?_) (fun f cdv A outer s H vs Q E hr h => ?_)
  · obtain ⟨a, v, ws, rfl, _⟩ := h
    rfl
  · obtain ⟨a, v, ws, rfl, hW, hb, e⟩ := h
    refine ⟨_, (pss_cons (ps_if (PW.pt (pw_or (pt_not (pt_val (pe_callB (isiK K) (by rfl) B.isinstance (by decide +kernel) (pa_cons (pv 1) (pa_cons (pe_bltn (v := .ty "list") (by rfl) B.list boot_list rfl) pa_nil))))) (pw_or1 (pt_cmpR op_ne (pe_callB (lenK K) (by rfl) B.len PySem.boot_len (pa_cons (pv 1) pa_nil)) (pe_callB (lenK K) (by rfl) B.len PySem.boot_len (pa_cons (pv 0) pa_nil)) (nomark _)))))
        (pss_one (ps_ret pe_bl))
        pss_nil)
      (pss_cons (ps_for PassesOwn.never rfl (pi_zip (by rfl) B.zip (pa_cons (pv 0) (pa_cons (pv 1) pa_nil))) (pg_tup rfl (pgs_cons (pg_name (i := 2) sc_is_setting.nd rfl (.inl rfl)) (pgs_cons (pg_name (i := 3) sc_is_setting.nd rfl (.inl rfl)) pgs_nil)))
        (pss_one (ps_if (PW.pt (pw_or (pt_not (pt_val (pe_ok G_is_whole hr (by decide) (pa_cons (pv 3) pa_nil)))) (pw_or1 (pt_not (pt_chain op_le op_lt pe_int (pv 3) (pv 2))))))
          (pss_one (ps_ret pe_bl))
          pss_nil)))
      (pss_one (ps_ret pe_bl)))), ?_⟩
    rcases hb with ⟨t, ty, hk⟩ | ⟨b, xs, rfl, hS, hb⟩
    · exact ⟨_, rfl, _, _, _, _, false, rfl, .ty "list", ty, kit_ty hk, _, rfl, e H (Same.refl H)⟩
    · refine ⟨_, rfl, _, _, _, _, true, rfl, .ty "list", tyx_list hS, kit_ty (by decide +kernel), _, rfl, ?_⟩
      refine ⟨_, rfl, b, _, rfl, .inl hS, _, rfl, a, _, rfl, .inl hW, rfl, _, rfl, ?_⟩
      rw [List.length_map, dec_int1]
      rcases hb with hne | ⟨heq, hc, j, x, sj, hxj, hsj, hbad⟩
      · rw [decide_eq_false (show ¬ (xs.length : Int) = (ws.length : Int) by omega)]
        exact e H (Same.refl H)
      rw [decide_eq_true (show (xs.length : Int) = (ws.length : Int) by omega)]
      refine ⟨_, rfl, _, rfl, a, b, _, _, rfl, hW, hS, RZ.for_zipL (K := K) (a := a) (b := b) (by rw [List.length_map, heq]) (fun i σ H3 => (∃ y2 y3 : Option V, σ = [some (.ref a), some (.ref b), y2, y3] ∧ Same H H3) ∧ i ≤ j)
        ⟨⟨none, none, rfl, Same.refl H⟩, Nat.zero_le _⟩ (fun i σ H3 ⟨⟨_, _, _, s3⟩, _⟩ => ⟨s3.seq hW, s3.seq hS⟩) ?_ ?_⟩
      · rintro i s0 y T σ H3 hs0 hy ⟨⟨y2, y3, rfl, s3⟩, hij⟩ nT
        obtain ⟨sz, hsz, rfl⟩ := map_int_at hs0
        have sT : Same H (upd H3 T (.tup [.int sz, y])) := s3.trans (same_upd nT)
        refine ⟨T, [.int sz, y], rfl, SqT.of upd_same, rfl, .int sz, [y], rfl, y, [], rfl, rfl, ?_⟩
        rcases (hc y (List.mem_of_getElem? hy)).same sT with ⟨z, rfl⟩ | ⟨t, b1, b2, ty, h1, h2, h3⟩
        · refine ⟨_, rfl, _, "int", true, false, rfl, .base (.int z), by decide +kernel, by decide +kernel, _, rfl, ?_⟩
          have go : 0 ≤ z → z < sz → i + 1 ≤ j := by
            intro h0 h1
            by_cases hji : i = j
            · subst hji
              have e1 := Option.some.inj (hsj.symm.trans hsz)
              have e2 := Option.some.inj (hxj.symm.trans hy)
              subst e1
              exact absurd ⟨h0, h1⟩ (hbad z e2)
            · omega
          refine ⟨_, rfl, _, _, rfl, rfl, _, rfl, ite2 (fun c0 => ?_) (fun _ => ⟨_, rfl, e _ sT⟩)⟩
          refine ⟨_, rfl, _, _, rfl, rfl, _, rfl, ?_⟩
          by_cases c1 : z < sz
          · rw [decide_eq_true c1]
            exact ⟨⟨_, _, rfl, sT⟩, go (of_decide_eq_true c0) c1⟩
          · rw [decide_eq_false c1]
            exact e _ sT
        · refine ⟨_, rfl, _, t, b1, b2, rfl, ty, h1, h2, _, rfl, ?_⟩
          rw [h3]
          exact e _ sT
      · rintro σ H3 ⟨_, hij⟩
        have := (List.getElem?_eq_some_iff.mp hsj).1
        rw [List.length_map] at hij
        omega
def sp_bad_setting (K : PySem.W.Frag) (CS : Addr) : Sp := fun vs H _ E => ∃ (a : Addr) (v : V) (ws : List Int), vs = [.ref a, v] ∧ SqL K H a (ws.map V.int) ∧ ones ws ∧ BadS K H ws v ∧ ∀ H' : Hp, Same H H' → E (.ref CS) none H'
theorem bad_check_setting {CS : Addr} (D : Df K mg "check_setting" s_check_setting ["wheels", "setting"]) (T_BadSetting : Err K mg "BadSetting" CS) (G_is_setting : Ok P w K mg base "is_setting" ["wheels", "setting"] 2 (sp_not_set K)) :
    OkX P w K mg base "check_setting" ["wheels", "setting"] 3 (sp_bad_setting K CS) := by
  refine D.okX sc_check_setting (fun vs H Q E h => ?_) (fun f cdv A outer s H vs Q E hr h => ?_)
  · obtain ⟨a, v, ws, rfl, _⟩ := h
    rfl
  · obtain ⟨a, v, ws, rfl, hW, ho, hb, e⟩ := h
    refine ⟨_, (pss_one (ps_if (pt_not (pt_val (pe_ok G_is_setting hr (by decide) (pa_cons (pv 0) (pa_cons (pv 1) pa_nil)))))
        (pss_one (ps_err T_BadSetting rfl (L2N.takes_of rfl rfl rfl rfl)))
        pss_nil)), ?_⟩
    exact ⟨_, rfl, _, rfl, a, v, ws, rfl, hW, hb, fun H1 s1 => ⟨_, rfl, e H1 s1⟩⟩
def sp_bad_number (K : PySem.W.Frag) (CN : Addr) : Sp := fun vs H _ E => ∃ (v : V) (m : Int), vs = [v, .int m] ∧ BadN K H m v ∧ E (.ref CN) none H
theorem bad_check_number {CN : Addr} (D : Df K mg "check_number" s_check_number ["number", "many"]) (B : Bi mg) (T_BadNumber : Err K mg "BadNumber" CN) (G_is_whole : Ok P w K mg base "is_whole" ["thing"] 1 (sp_is_wholeV K)) :
    OkX P w K mg base "check_number" ["number", "many"] 2 (sp_bad_number K CN) := by
  refine D.okX sc_check_number (fun vs H Q E h => ?_) (fun f cdv A outer s H vs Q E hr h => ?_)
  · obtain ⟨v, m, rfl, _⟩ := h
    rfl
  · obtain ⟨v, m, rfl, hb, e⟩ := h
    refine ⟨_, (pss_one (ps_if (PW.pt (pw_or (pt_not (pt_val (pe_ok G_is_whole hr (by decide) (pa_cons (pv 0) pa_nil)))) (pw_or1 (pt_not (pt_chain op_le op_lt pe_int (pv 0) (pv 1))))))
        (pss_one (ps_err T_BadNumber rfl (L2N.takes_of rfl rfl rfl rfl)))
        pss_nil)), ?_⟩
    rcases hb with ⟨t, b1, b2, ty, h1, h2, h3⟩ | ⟨z, rfl, hz⟩
    · refine ⟨_, rfl, _, t, b1, b2, rfl, ty, h1, h2, _, rfl, ?_⟩
      rw [h3]
      exact e
    · refine ⟨_, rfl, _, "int", true, false, rfl, .base (.int z), by decide +kernel, by decide +kernel, _, rfl, ?_⟩
      refine ⟨_, rfl, _, _, rfl, rfl, _, rfl, ite2 (fun c0 => ?_) (fun _ => ⟨_, rfl, e⟩)⟩
      refine ⟨_, rfl, _, _, rfl, rfl, _, rfl, ?_⟩
      rw [decide_eq_false (fun c1 => hz ⟨of_decide_eq_true c0, c1⟩)]
      exact e
/-! ### the doors of wheels.py and forth.py, of what they refuse -/
theorem bad_settings {CW : Addr} (D : Df K mg "settings" s_settings ["wheels"]) (X_check_wheels : OkX P w K mg base "check_wheels" ["wheels"] 2 (sp_bad_wheels K CW)) : OkX P w K mg base "settings" ["wheels"] 3 (sp_bad_wheels K CW) := by
  refine D.okX sc_settings (fun vs H Q E h => ?_) (fun f cdv A outer s H vs Q E hr h => ?_)
  · obtain ⟨v, rfl, _⟩ := h
    rfl
  · obtain ⟨v, rfl, hb, e⟩ := h
    refine ⟨_, (pss_cons (ps_expr (pe_okX X_check_wheels hr (by decide) (L2N.passes_call (L2N.takes_of rfl rfl rfl rfl) (fun _ _ _ _ h => h)) (pa_cons (pv 0) pa_nil)))
      pss_never), ?_⟩
    exact ⟨_, rfl, v, rfl, hb, e⟩
/-- two handed in, three; the first no wheels -/
def sp_bad_wheels2 (K : PySem.W.Frag) (CW : Addr) : Sp := fun vs H _ E => ∃ v u : V, vs = [v, u] ∧ BadW K H v ∧ E (.ref CW) none H
def sp_bad_wheels3 (K : PySem.W.Frag) (CW : Addr) : Sp := fun vs H _ E => ∃ v u u2 : V, vs = [v, u, u2] ∧ BadW K H v ∧ E (.ref CW) none H
theorem bad_near {CW : Addr} (D : Df K mg "near" s_near ["wheels", "setting"]) (X_check_wheels : OkX P w K mg base "check_wheels" ["wheels"] 2 (sp_bad_wheels K CW)) : OkX P w K mg base "near" ["wheels", "setting"] 4 (sp_bad_wheels2 K CW) := by
  refine D.okX sc_near (fun vs H Q E h => ?_) (fun f cdv A outer s H vs Q E hr h => ?_)
  · obtain ⟨v, u, rfl, _⟩ := h
    rfl
  · obtain ⟨v, u, rfl, hb, e⟩ := h
    refine ⟨_, (pss_cons (ps_expr (pe_okX X_check_wheels hr (by decide) (L2N.passes_call (L2N.takes_of rfl rfl rfl rfl) (fun _ _ _ _ h => h)) (pa_cons (pv 0) pa_nil)))
      pss_never), ?_⟩
    exact ⟨_, rfl, v, rfl, hb, e⟩
theorem bad_apart {CW : Addr} (D : Df K mg "apart" s_apart ["wheels", "one", "other"]) (X_check_wheels : OkX P w K mg base "check_wheels" ["wheels"] 2 (sp_bad_wheels K CW)) : OkX P w K mg base "apart" ["wheels", "one", "other"] 4 (sp_bad_wheels3 K CW) := by
  refine D.okX sc_apart (fun vs H Q E h => ?_) (fun f cdv A outer s H vs Q E hr h => ?_)
  · obtain ⟨v, u, u2, rfl, _⟩ := h
    rfl
  · obtain ⟨v, u, u2, rfl, hb, e⟩ := h
    refine ⟨_, (pss_cons (ps_expr (pe_okX X_check_wheels hr (by decide) (L2N.passes_call (L2N.takes_of rfl rfl rfl rfl) (fun _ _ _ _ h => h)) (pa_cons (pv 0) pa_nil)))
      pss_never), ?_⟩
    exact ⟨_, rfl, v, rfl, hb, e⟩
theorem bad_setting_of {CW : Addr} (D : Df K mg "setting_of" s_setting_of ["wheels", "number"]) (X_settings : OkX P w K mg base "settings" ["wheels"] 3 (sp_bad_wheels K CW)) : OkX P w K mg base "setting_of" ["wheels", "number"] 4 (sp_bad_wheels2 K CW) := by
  refine D.okX sc_setting_of (fun vs H Q E h => ?_) (fun f cdv A outer s H vs Q E hr h => ?_)
  · obtain ⟨v, u, rfl, _⟩ := h
    rfl
  · obtain ⟨v, u, rfl, hb, e⟩ := h
    refine ⟨_, (pss_cons (ps_set (i := 2) sc_setting_of.nd rfl (.inl rfl) (pe_okX X_settings hr (by decide) (L2N.passes_call (L2N.takes_of rfl rfl rfl rfl) (fun _ _ _ _ h => h)) (pa_cons (pv 0) pa_nil)))
      pss_never), ?_⟩
    exact ⟨_, rfl, v, rfl, hb, e⟩
theorem bad_number_of {CW : Addr} (D : Df K mg "number_of" s_number_of ["wheels", "setting"]) (X_check_wheels : OkX P w K mg base "check_wheels" ["wheels"] 2 (sp_bad_wheels K CW)) : OkX P w K mg base "number_of" ["wheels", "setting"] 4 (sp_bad_wheels2 K CW) := by
  refine D.okX sc_number_of (fun vs H Q E h => ?_) (fun f cdv A outer s H vs Q E hr h => ?_)
  · obtain ⟨v, u, rfl, _⟩ := h
    rfl
  · obtain ⟨v, u, rfl, hb, e⟩ := h
    refine ⟨_, (pss_cons (ps_expr (pe_okX X_check_wheels hr (by decide) (L2N.passes_call (L2N.takes_of rfl rfl rfl rfl) (fun _ _ _ _ h => h)) (pa_cons (pv 0) pa_nil)))
      pss_never), ?_⟩
    exact ⟨_, rfl, v, rfl, hb, e⟩
theorem bads_near {CS : Addr} (D : Df K mg "near" s_near ["wheels", "setting"]) (G_check_wheels : Ok P w K mg base "check_wheels" ["wheels"] 2 (sp_check_wheels K)) (X_check_setting : OkX P w K mg base "check_setting" ["wheels", "setting"] 3 (sp_bad_setting K CS)) :
    OkX P w K mg base "near" ["wheels", "setting"] 4 (sp_bad_setting K CS) := by
  refine D.okX sc_near (fun vs H Q E h => ?_) (fun f cdv A outer s H vs Q E hr h => ?_)
  · obtain ⟨a, v, ws, rfl, _⟩ := h
    rfl
  · obtain ⟨a, v, ws, rfl, hW, ho, hb, e⟩ := h
    refine ⟨_, (pss_cons (ps_expr (pe_ok G_check_wheels hr (by decide) (pa_cons (pv 0) pa_nil)))
      (pss_cons (ps_expr (pe_okX X_check_setting hr (by decide) (L2N.passes_call (L2N.takes_of rfl rfl rfl rfl) (fun _ _ _ _ h => h)) (pa_cons (pv 0) (pa_cons (pv 1) pa_nil))))
      pss_never)), ?_⟩
    refine ⟨_, rfl, a, ws, rfl, hW, ho, ?_⟩
    exact ⟨_, rfl, _, rfl, a, v, ws, rfl, hW, ho, hb, e⟩
theorem bads_number_of {CS : Addr} (D : Df K mg "number_of" s_number_of ["wheels", "setting"]) (G_check_wheels : Ok P w K mg base "check_wheels" ["wheels"] 2 (sp_check_wheels K)) (X_check_setting : OkX P w K mg base "check_setting" ["wheels", "setting"] 3 (sp_bad_setting K CS)) :
    OkX P w K mg base "number_of" ["wheels", "setting"] 4 (sp_bad_setting K CS) := by
  refine D.okX sc_number_of (fun vs H Q E h => ?_) (fun f cdv A outer s H vs Q E hr h => ?_)
  · obtain ⟨a, v, ws, rfl, _⟩ := h
    rfl
  · obtain ⟨a, v, ws, rfl, hW, ho, hb, e⟩ := h
    refine ⟨_, (pss_cons (ps_expr (pe_ok G_check_wheels hr (by decide) (pa_cons (pv 0) pa_nil)))
      (pss_cons (ps_expr (pe_okX X_check_setting hr (by decide) (L2N.passes_call (L2N.takes_of rfl rfl rfl rfl) (fun _ _ _ _ h => h)) (pa_cons (pv 0) (pa_cons (pv 1) pa_nil))))
      pss_never)), ?_⟩
    refine ⟨_, rfl, a, ws, rfl, hW, ho, ?_⟩
    exact ⟨_, rfl, _, rfl, a, v, ws, rfl, hW, ho, hb, e⟩
def sp_bad_one (K : PySem.W.Frag) (CS : Addr) : Sp := fun vs H _ E => ∃ (a : Addr) (v u : V) (ws : List Int), vs = [.ref a, v, u] ∧ SqL K H a (ws.map V.int) ∧ ones ws ∧ BadS K H ws v ∧ ∀ H' : Hp, Same H H' → E (.ref CS) none H'
def sp_bad_other (K : PySem.W.Frag) (CS : Addr) : Sp := fun vs H _ E => ∃ (a b : Addr) (v : V) (ws st : List Int), vs = [.ref a, .ref b, v] ∧ SqL K H a (ws.map V.int) ∧ SqL K H b (st.map V.int) ∧ ones ws ∧ okS ws st ∧ BadS K H ws v ∧ ∀ H' : Hp, Same H H' → E (.ref CS) none H'
theorem bads_apart {CS : Addr} (D : Df K mg "apart" s_apart ["wheels", "one", "other"]) (G_check_wheels : Ok P w K mg base "check_wheels" ["wheels"] 2 (sp_check_wheels K)) (X_check_setting : OkX P w K mg base "check_setting" ["wheels", "setting"] 3 (sp_bad_setting K CS)) :
    OkX P w K mg base "apart" ["wheels", "one", "other"] 4 (sp_bad_one K CS) := by
  refine D.okX sc_apart (fun vs H Q E h => ?_) (fun f cdv A outer s H vs Q E hr h => ?_)
  · obtain ⟨a, v, u, ws, rfl, _⟩ := h
    rfl
  · obtain ⟨a, v, u, ws, rfl, hW, ho, hb, e⟩ := h
    refine ⟨_, (pss_cons (ps_expr (pe_ok G_check_wheels hr (by decide) (pa_cons (pv 0) pa_nil)))
      (pss_cons (ps_expr (pe_okX X_check_setting hr (by decide) (L2N.passes_call (L2N.takes_of rfl rfl rfl rfl) (fun _ _ _ _ h => h)) (pa_cons (pv 0) (pa_cons (pv 1) pa_nil))))
      pss_never)), ?_⟩
    refine ⟨_, rfl, a, ws, rfl, hW, ho, ?_⟩
    exact ⟨_, rfl, _, rfl, a, v, ws, rfl, hW, ho, hb, e⟩
theorem bads_apart2 {CS : Addr} (D : Df K mg "apart" s_apart ["wheels", "one", "other"]) (G_check_wheels : Ok P w K mg base "check_wheels" ["wheels"] 2 (sp_check_wheels K)) (G_check_setting : Ok P w K mg base "check_setting" ["wheels", "setting"] 3 (sp_check_setting K)) (X_check_setting : OkX P w K mg base "check_setting" ["wheels", "setting"] 3 (sp_bad_setting K CS)) :
    OkX P w K mg base "apart" ["wheels", "one", "other"] 4 (sp_bad_other K CS) := by
  refine D.okX sc_apart (fun vs H Q E h => ?_) (fun f cdv A outer s H vs Q E hr h => ?_)
  · obtain ⟨a, b, v, ws, st, rfl, _⟩ := h
    rfl
  · obtain ⟨a, b, v, ws, st, rfl, hW, hS, ho, hk, hb, e⟩ := h
    refine ⟨_, (pss_cons (ps_expr (pe_ok G_check_wheels hr (by decide) (pa_cons (pv 0) pa_nil)))
      (pss_cons (ps_expr (pe_ok G_check_setting hr (by decide) (pa_cons (pv 0) (pa_cons (pv 1) pa_nil))))
      (pss_cons (ps_expr (pe_okX X_check_setting hr (by decide) (L2N.passes_call (L2N.takes_of rfl rfl rfl rfl) (fun _ _ _ _ h => h)) (pa_cons (pv 0) (pa_cons (pv 2) pa_nil))))
      pss_never))), ?_⟩
    refine ⟨_, rfl, a, ws, rfl, hW, ho, ?_⟩
    refine ⟨_, rfl, _, rfl, a, b, ws, st, rfl, hW, hS, hk, fun H' ss => ?_⟩
    exact ⟨_, rfl, _, rfl, a, v, ws, rfl, ss.seq hW, ho, hb.same ss, fun H2 s2 => e H2 (ss.trans s2)⟩
def sp_bad_count (K : PySem.W.Frag) (CN : Addr) : Sp := fun vs H _ E => ∃ (a : Addr) (v : V) (ws : List Int), vs = [.ref a, v] ∧ SqL K H a (ws.map V.int) ∧ sizes ws ∧ ws.length ≤ 1000 ∧ BadN K H (prd ws) v ∧ E (.ref CN) none H
theorem bads_number {CN : Addr} (D : Df K mg "setting_of" s_setting_of ["wheels", "number"]) (G_settings : Ok P w K mg base "settings" ["wheels"] 3 (sp_count K)) (X_check_number : OkX P w K mg base "check_number" ["number", "many"] 2 (sp_bad_number K CN)) :
    OkX P w K mg base "setting_of" ["wheels", "number"] 4 (sp_bad_count K CN) := by
  refine D.okX sc_setting_of (fun vs H Q E h => ?_) (fun f cdv A outer s H vs Q E hr h => ?_)
  · obtain ⟨a, v, ws, rfl, _⟩ := h
    rfl
  · obtain ⟨a, v, ws, rfl, hW, hs, hl, hb, e⟩ := h
    refine ⟨_, (pss_cons (ps_set (i := 2) sc_setting_of.nd rfl (.inl rfl) (pe_ok G_settings hr (by decide) (pa_cons (pv 0) pa_nil)))
      (pss_cons (ps_expr (pe_okX X_check_number hr (by decide) (L2N.passes_call (L2N.takes_of rfl rfl rfl rfl) (fun _ _ _ _ h => h)) (pa_cons (pv 1) (pa_cons (pv 2) pa_nil))))
      pss_never)), ?_⟩
    refine ⟨_, rfl, a, ws, rfl, hW, hs, hl, ?_⟩
    exact ⟨_, rfl, _, rfl, v, prd ws, rfl, hb, e⟩
end
end Ww
/-! law 6: the helpers that stand before a door -/
namespace Ww
open PySem PySem.Spec PyProof.Rows L2
section
variable {P : Program} {w : World} {K : PySem.W.Frag} {mg : Str → Option Value} {base : Heap}
theorem noughts_ok : ∀ {ws : List Int}, ones ws → okS ws (List.replicate ws.length 0)
  | [], _ => trivial
  | w :: ws, h => ⟨Int.le_refl 0, by have := h w List.mem_cons_self; omega, noughts_ok fun x hx => h x (List.mem_cons_of_mem _ hx)⟩
theorem noughts_map {n : Nat} : ((List.replicate n [V.int 0]).flatten : List V) = (List.replicate n (0 : Int)).map V.int := by
  induction n with
  | zero => rfl
  | succ n ih =>
    rw [List.replicate_succ, List.flatten_cons, ih]
    rfl
theorem bad_with_number {CN : Addr} (D : Df K mg "_law_with_number" s_law_with_number ["_law_wheels_here", "_law_number"]) (X_setting_of : OkX P w K mg base "setting_of" ["wheels", "number"] 4 (sp_bad_count K CN)) :
    OkX P w K mg base "_law_with_number" ["_law_wheels_here", "_law_number"] 13 (sp_bad_count K CN) := by
  refine D.okX sc_law_with_number (fun vs H Q E h => ?_) (fun f cdv A outer s H vs Q E hr h => ?_)
  · obtain ⟨a, v, ws, rfl, _⟩ := h
    rfl
  · obtain ⟨a, v, ws, rfl, hW, hs, hl, hb, e⟩ := h
    refine ⟨_, (pss_one (ps_ret (pe_okX X_setting_of hr (by decide) (L2N.passes_call (L2N.takes_of rfl rfl rfl rfl) (fun _ _ _ _ h => h)) (pa_cons (pv 0) (pa_cons (pv 1) pa_nil))))), ?_⟩
    exact ⟨_, rfl, _, rfl, a, v, ws, rfl, hW, hs, hl, hb, e⟩
/-- written, of wheels of sizes below 10 ^ 60 -/
def sp_bad_written (K : PySem.W.Frag) (CS : Addr) : Sp := fun vs H _ E => ∃ (a : Addr) (v : V) (ws : List Int), vs = [.ref a, v] ∧ SqL K H a (ws.map V.int) ∧ ones ws ∧ ws.length ≤ 63 ∧ (∀ x ∈ ws, x < 10 ^ 60) ∧ BadS K H ws v ∧ ∀ H' : Hp, Same H H' → E (.ref CS) none H'
def sp_with_setting (K : PySem.W.Frag) (CS : Addr) : Sp := fun vs H _ E => ∃ (n : Int) (a : Addr) (v : V) (ws : List Int), vs = [.int n, .ref a, v] ∧ SqL K H a (ws.map V.int) ∧ ones ws ∧ ws.length ≤ 63 ∧ (∀ x ∈ ws, x < 10 ^ 60) ∧ BadS K H ws v ∧ ∀ H' : Hp, Same H H' → E (.ref CS) none H'
theorem bad_with_setting {CS : Addr} (D : Df K mg "_law_with_setting" s_law_with_setting ["_law_ask", "_law_wheels_here", "_law_setting_here"]) (B : Bi mg) (X_near : OkX P w K mg base "near" ["wheels", "setting"] 4 (sp_bad_setting K CS)) (X_number_of : OkX P w K mg base "number_of" ["wheels", "setting"] 4 (sp_bad_setting K CS))
    (X_apart : OkX P w K mg base "apart" ["wheels", "one", "other"] 4 (sp_bad_one K CS)) (X_apart2 : OkX P w K mg base "apart" ["wheels", "one", "other"] 4 (sp_bad_other K CS)) (X_written : OkX P w K mg base "written" ["wheels", "setting"] 12 (sp_bad_written K CS)) :
    OkX P w K mg base "_law_with_setting" ["_law_ask", "_law_wheels_here", "_law_setting_here"] 13 (sp_with_setting K CS) := by
  refine D.okX sc_law_with_setting (fun vs H Q E h => ?_) (fun f cdv A outer s H vs Q E hr h => ?_)
  · obtain ⟨n, a, v, ws, rfl, _⟩ := h
    rfl
  · obtain ⟨n, a, v, ws, rfl, hW, ho, hl, hbig, hb, e⟩ := h
    refine ⟨_, (pss_cons (ps_if (pt_cmpR op_lt (pv 0) pe_int (nomark _))
        (pss_one (ps_ret (pe_ifExp (pt_cmpR op_eq (pv 0) pe_int (nomark _)) (pe_okX X_near hr (by decide) (L2N.passes_call (L2N.takes_of rfl rfl rfl rfl) (fun _ _ _ _ h => h)) (pa_cons (pv 1) (pa_cons (pv 2) pa_nil))) (pe_okX X_number_of hr (by decide) (L2N.passes_call (L2N.takes_of rfl rfl rfl rfl) (fun _ _ _ _ h => h)) (pa_cons (pv 1) (pa_cons (pv 2) pa_nil))))))
        pss_nil)
      (pss_cons (ps_if (pt_cmpR op_eq (pv 0) pe_int (nomark _))
        (pss_one (ps_ret (pe_okX X_apart hr (by decide) (L2N.passes_call (L2N.takes_of rfl rfl rfl rfl) (fun _ _ _ _ h => h)) (pa_cons (pv 1) (pa_cons (pv 2) (pa_cons (pe_op op_rep (pe_lst (pa_cons pe_int pa_nil)) (pe_callB (lenK K) (by rfl) B.len PySem.boot_len (pa_cons (pv 1) pa_nil))) pa_nil))))))
        pss_nil)
      (pss_one (ps_ret (pe_ifExp (pt_cmpR op_eq (pv 0) pe_int (nomark _)) (pe_okX X_apart2 hr (by decide) (L2N.passes_call (L2N.takes_of rfl rfl rfl rfl) (fun _ _ _ _ h => h)) (pa_cons (pv 1) (pa_cons (pe_op op_rep (pe_lst (pa_cons pe_int pa_nil)) (pe_callB (lenK K) (by rfl) B.len PySem.boot_len (pa_cons (pv 1) pa_nil))) (pa_cons (pv 2) pa_nil)))) (pe_okX X_written hr (by decide) (L2N.passes_call (L2N.takes_of rfl rfl rfl rfl) (fun _ _ _ _ h => h)) (pa_cons (pv 1) (pa_cons (pv 2) pa_nil)))))))), ?_⟩
    have big : ws.length ≤ sizeLine := le_line (by omega)
    have e64 : (ws.length : Int) < 2 ^ 63 := by omega
    have h63 : -(2 ^ 63 : Int) ≤ (ws.length : Int) := by omega
    refine ⟨_, rfl, _, _, rfl, rfl, _, rfl, ite2 (fun _ => ?_) (fun _ => ?_)⟩
    · refine ⟨_, rfl, rfl, _, rfl, ite2 (fun _ => ?_) (fun _ => ?_)⟩
      · exact ⟨_, rfl, _, rfl, a, v, ws, rfl, hW, ho, hb, e⟩
      · exact ⟨_, rfl, _, rfl, a, v, ws, rfl, hW, ho, hb, e⟩
    · refine ⟨_, rfl, rfl, _, rfl, ite2 (fun _ => ?_) (fun _ => ?_)⟩
      · refine ⟨_, rfl, _, rfl, (by show 1 ≤ sizeLine; decide), fun p n1 => ?_⟩
        have s1 : Same H (upd H p (.lst [.int 0])) := same_upd n1
        refine ⟨_, rfl, a, _, rfl, .inl (s1.seq hW), p, _, [.int 0], rfl, rfl, upd_same, ?_⟩
        rw [List.length_map]
        refine ⟨h63, e64, (by simpa using big), fun p2 n2 => ?_⟩
        have s2 := s1.trans (same_upd n2 (o := .lst (List.replicate (Int.toNat (ws.length : Int)) [V.int 0]).flatten))
        exact ⟨a, v, _, ws, rfl, s2.seq hW, ho, hb.same s2, fun H3 s3 => e H3 (s2.trans s3)⟩
      · refine ⟨_, rfl, rfl, _, rfl, ite2 (fun _ => ?_) (fun _ => ?_)⟩
        · refine ⟨_, rfl, (by show 1 ≤ sizeLine; decide), fun p n1 => ?_⟩
          have s1 : Same H (upd H p (.lst [.int 0])) := same_upd n1
          refine ⟨_, rfl, a, _, rfl, .inl (s1.seq hW), p, _, [.int 0], rfl, rfl, upd_same, ?_⟩
          rw [List.length_map]
          refine ⟨h63, e64, (by simpa using big), fun p2 n2 => ?_⟩
          rw [Int.toNat_natCast, noughts_map]
          have s2 := s1.trans (same_upd n2 (o := .lst ((List.replicate ws.length (0 : Int)).map V.int)))
          exact ⟨_, rfl, a, p2, v, ws, List.replicate ws.length 0, rfl, s2.seq hW, SqL.of upd_same, ho, noughts_ok ho, hb.same s2, fun H3 s3 => e H3 (s2.trans s3)⟩
        · exact ⟨_, rfl, _, rfl, a, v, ws, rfl, hW, ho, hl, hbig, hb, e⟩
/-- wheels with a size of more than sixty figures -/
def Great (K : PySem.W.Frag) (H : Hp) (v : V) : Prop := ∃ (a : Addr) (ws : List Int), v = .ref a ∧ SqL K H a (ws.map V.int) ∧ ones ws ∧ ws.length ≤ 63 ∧ (∀ x ∈ ws, x < 10 ^ 61) ∧ ∃ x ∈ ws, 10 ^ 60 ≤ x
theorem Great.same {H H' : Hp} {v : V} (h : Great K H v) (s : Same H H') : Great K H' v := by
  obtain ⟨a, ws, e, h1, h2⟩ := h
  exact ⟨a, ws, e, s.seq h1, h2⟩
theorem great_in {x : Int} (h0 : 0 ≤ x) (h1 : x < 1000000) : 10 ^ 60 ≤ 10 ^ Int.toNat 60 + x ∧ 10 ^ Int.toNat 60 + x < 10 ^ 61 ∧ 1 ≤ 10 ^ Int.toNat 60 + x := by
  have e : (10 : Int) ^ Int.toNat 60 = 10 ^ 60 := rfl
  have e2 : (10 : Int) ^ 60 + 1000000 < 10 ^ 61 := by decide +kernel
  have e3 : (1 : Int) ≤ 10 ^ 60 := by decide +kernel
  rw [e]
  refine ⟨by omega, by omega, by omega⟩
theorem great1 {H : Hp} {a : Addr} (h : SqL K H a [.int (10 ^ Int.toNat 60)]) : Great K H (.ref a) := by
  have z := great_in (x := 0) (by decide) (by decide)
  rw [Int.add_zero] at z
  refine ⟨a, [10 ^ Int.toNat 60], rfl, h, fun x hx => ?_, (by show 1 ≤ 63; decide), fun x hx => ?_, _, List.mem_cons_self, z.1⟩
  · rw [List.mem_singleton.mp hx]; exact z.2.2
  · rw [List.mem_singleton.mp hx]; exact z.2.1
theorem great2 {H : Hp} {a : Addr} {far : Int} (h0 : 0 ≤ far) (h1 : far < 1000000) (h : SqL K H a [.int 2, .int (10 ^ Int.toNat 60 + far)]) : Great K H (.ref a) := by
  have z := great_in h0 h1
  have e2 : (2 : Int) < 10 ^ 61 := by decide +kernel
  refine ⟨a, [2, 10 ^ Int.toNat 60 + far], rfl, h, fun x hx => ?_, (by show 2 ≤ 63; decide), fun x hx => ?_, _, List.mem_cons_of_mem _ List.mem_cons_self, z.1⟩
  · simp only [List.mem_cons, List.not_mem_nil, or_false] at hx
    rcases hx with rfl | rfl
    · decide
    · exact z.2.2
  · simp only [List.mem_cons, List.not_mem_nil, or_false] at hx
    rcases hx with rfl | rfl
    · exact e2
    · exact z.2.1
/-- no wheels, one handed in, two; other things may be made before the refusal -/
def sp_no_wheels1 (K : PySem.W.Frag) (CW : Addr) : Sp := fun vs H _ E => ∃ v : V, vs = [v] ∧ BadW K H v ∧ ∀ H' : Hp, Same H H' → E (.ref CW) none H'
def sp_no_wheels2 (K : PySem.W.Frag) (CW : Addr) : Sp := fun vs H _ E => ∃ v u : V, vs = [v, u] ∧ BadW K H v ∧ ∀ H' : Hp, Same H H' → E (.ref CW) none H'
def sp_no_wheelsG (K : PySem.W.Frag) (CW : Addr) : Sp := fun vs H _ E => ∃ v u : V, vs = [v, u] ∧ (BadW K H v ∨ Great K H v) ∧ ∀ H' : Hp, Same H H' → E (.ref CW) none H'
def sp_with_wheels (K : PySem.W.Frag) (CW : Addr) : Sp := fun vs H _ E => ∃ (n : Int) (v : V), vs = [.int n, v] ∧ (BadW K H v ∨ (n = 8 ∧ Great K H v)) ∧ ∀ H' : Hp, Same H H' → E (.ref CW) none H'
theorem bad_with_wheels {CW : Addr} (D : Df K mg "_law_with_wheels" s_law_with_wheels ["_law_door", "_law_wheels_here"]) (X_settings : OkX P w K mg base "settings" ["wheels"] 3 (sp_bad_wheels K CW)) (X_near : OkX P w K mg base "near" ["wheels", "setting"] 4 (sp_bad_wheels2 K CW))
    (X_apart : OkX P w K mg base "apart" ["wheels", "one", "other"] 4 (sp_bad_wheels3 K CW)) (X_setting_of : OkX P w K mg base "setting_of" ["wheels", "number"] 4 (sp_bad_wheels2 K CW)) (X_number_of : OkX P w K mg base "number_of" ["wheels", "setting"] 4 (sp_bad_wheels2 K CW))
    (X_around : OkX P w K mg base "around" ["wheels"] 12 (sp_no_wheels1 K CW)) (X_ring_setting : OkX P w K mg base "ring_setting" ["wheels", "number"] 12 (sp_no_wheels2 K CW)) (X_ring_number : OkX P w K mg base "ring_number" ["wheels", "setting"] 12 (sp_no_wheels2 K CW))
    (X_written : OkX P w K mg base "written" ["wheels", "setting"] 12 (sp_no_wheelsG K CW)) : OkX P w K mg base "_law_with_wheels" ["_law_door", "_law_wheels_here"] 13 (sp_with_wheels K CW) := by
  refine D.okX sc_law_with_wheels (fun vs H Q E h => ?_) (fun f cdv A outer s H vs Q E hr h => ?_)
  · obtain ⟨n, v, rfl, _⟩ := h
    rfl
  · obtain ⟨n, v, rfl, hv, e⟩ := h
    refine ⟨_, (pss_cons (ps_if (pt_cmpR op_lt (pv 0) pe_int (nomark _))
        (pss_one (ps_ret (pe_ifExp (pt_cmpR op_eq (pv 0) pe_int (nomark _)) (pe_okX X_settings hr (by decide) (L2N.passes_call (L2N.takes_of rfl rfl rfl rfl) (fun _ _ _ _ h => h)) (pa_cons (pv 1) pa_nil)) (pe_ifExp (pt_cmpR op_eq (pv 0) pe_int (nomark _)) (pe_okX X_near hr (by decide) (L2N.passes_call (L2N.takes_of rfl rfl rfl rfl) (fun _ _ _ _ h => h)) (pa_cons (pv 1) (pa_cons pe_non pa_nil))) (pe_okX X_apart hr (by decide) (L2N.passes_call (L2N.takes_of rfl rfl rfl rfl) (fun _ _ _ _ h => h)) (pa_cons (pv 1) (pa_cons pe_int (pa_cons pe_int pa_nil))))))))
        pss_nil)
      (pss_cons (ps_if (pt_cmpR op_lt (pv 0) pe_int (nomark _))
        (pss_one (ps_ret (pe_ifExp (pt_cmpR op_eq (pv 0) pe_int (nomark _)) (pe_okX X_setting_of hr (by decide) (L2N.passes_call (L2N.takes_of rfl rfl rfl rfl) (fun _ _ _ _ h => h)) (pa_cons (pv 1) (pa_cons (pe_un un_neg pe_int) pa_nil))) (pe_ifExp (pt_cmpR op_eq (pv 0) pe_int (nomark _)) (pe_okX X_number_of hr (by decide) (L2N.passes_call (L2N.takes_of rfl rfl rfl rfl) (fun _ _ _ _ h => h)) (pa_cons (pv 1) (pa_cons pe_int pa_nil))) (pe_okX X_around hr (by decide) (L2N.passes_call (L2N.takes_of rfl rfl rfl rfl) (fun _ _ _ _ h => h)) (pa_cons (pv 1) pa_nil))))))
        pss_nil)
      (pss_one (ps_ret (pe_ifExp (pt_cmpR op_eq (pv 0) pe_int (nomark _)) (pe_okX X_ring_setting hr (by decide) (L2N.passes_call (L2N.takes_of rfl rfl rfl rfl) (fun _ _ _ _ h => h)) (pa_cons (pv 1) (pa_cons (pe_un un_neg pe_int) pa_nil))) (pe_ifExp (pt_cmpR op_eq (pv 0) pe_int (nomark _)) (pe_okX X_ring_number hr (by decide) (L2N.passes_call (L2N.takes_of rfl rfl rfl rfl) (fun _ _ _ _ h => h)) (pa_cons (pv 1) (pa_cons pe_int pa_nil))) (pe_okX X_written hr (by decide) (L2N.passes_call (L2N.takes_of rfl rfl rfl rfl) (fun _ _ _ _ h => h)) (pa_cons (pv 1) (pa_cons pe_int pa_nil))))))))), ?_⟩
    have small : n ≠ 8 → BadW K H v := fun h => hv.resolve_right fun g => h g.1
    refine ⟨_, rfl, _, _, rfl, rfl, _, rfl, ite2 (fun c => ?_) (fun c => ?_)⟩
    · have hb := small (by have := of_decide_eq_true c; omega)
      refine ⟨_, rfl, rfl, _, rfl, ite2 (fun _ => ?_) (fun _ => ?_)⟩
      · exact ⟨_, rfl, v, rfl, hb, e H (Same.refl H)⟩
      · refine ⟨_, rfl, rfl, _, rfl, ite2 (fun _ => ?_) (fun _ => ?_)⟩
        · exact ⟨_, rfl, v, .non, rfl, hb, e H (Same.refl H)⟩
        · exact ⟨_, rfl, v, .int 0, .int 0, rfl, hb, e H (Same.refl H)⟩
    · have c1 : ¬ n < 3 := fun h => c (decide_eq_true h)
      refine ⟨_, rfl, _, _, rfl, rfl, _, rfl, ite2 (fun c2 => ?_) (fun c2 => ?_)⟩
      · have hb := small (by have := of_decide_eq_true c2; omega)
        refine ⟨_, rfl, rfl, _, rfl, ite2 (fun _ => ?_) (fun _ => ?_)⟩
        · exact ⟨_, rfl, _, rfl, v, .int (-1), rfl, hb, e H (Same.refl H)⟩
        · refine ⟨_, rfl, rfl, _, rfl, ite2 (fun _ => ?_) (fun _ => ?_)⟩
          · exact ⟨_, rfl, v, .int 0, rfl, hb, e H (Same.refl H)⟩
          · exact ⟨_, rfl, v, rfl, hb, e⟩
      · refine ⟨_, rfl, rfl, _, rfl, ite2 (fun c3 => ?_) (fun c3 => ?_)⟩
        · have hb := small (fun h => by subst h; revert c3; decide)
          exact ⟨_, rfl, _, rfl, v, .int (-1), rfl, hb, e⟩
        · refine ⟨_, rfl, rfl, _, rfl, ite2 (fun c4 => ?_) (fun c4 => ?_)⟩
          · have hb := small (fun h => by subst h; revert c4; decide)
            exact ⟨_, rfl, v, .int 0, rfl, hb, e⟩
          · exact ⟨_, rfl, v, .int 0, rfl, hv.imp id fun g => g.2, e⟩
end
end Ww
/-! law 6: settings refused at each door, the rings' refusals -/
namespace Ww
open PySem PySem.Spec PyProof.Rows L2 L2H
theorem roomS {X : Cx} {k : Nat} {a : Addr} {pn : List (Addr × Obj)} (r : Room k X.A) : RoomH k (X.suite a pn).A := ⟨r.dp, r.un⟩
/-! lists of truths compared -/
theorem dpAll_bls {K : PySem.W.Frag} {H : Hp} : ∀ bs : List Bool, DpAll K H (bs.map V.bl) (bs.map PyData.bool)
  | [] => .nil
  | b :: r => .cons (.bl b) (dpAll_bls r)
theorem dp_bls {K : PySem.W.Frag} {H : Hp} {a : Addr} {bs : List Bool} (h : SqL K H a (bs.map V.bl)) : Dp K H (.ref a) (.list (bs.map PyData.bool)) := .lst h (dpAll_bls bs)
theorem canLay_bls : ∀ bs : List Bool, PyData.canLayAll0 (bs.map PyData.bool) = true
  | [] => by simp [PyData.canLayAll0]
  | b :: r => by simp [PyData.canLayAll0, PyData.canLay0, canLay_bls r]
theorem depth_bls : ∀ bs : List Bool, PyData.depthAll (bs.map PyData.bool) ≤ 1
  | [] => by simp [PyData.depthAll]
  | b :: r => by
    have := depth_bls r
    simp only [List.map_cons, PyData.depthAll, PyData.depth]
    omega
theorem shaped_bls (bs : List Bool) : SeqAt.shaped (.list (bs.map PyData.bool)) = true := by
  have h1 := depth_bls bs
  have h2 : PyData.depth (.list (bs.map PyData.bool)) ≤ 64 := by simp only [PyData.depth]; omega
  show (PyData.canLay0 (.list (bs.map PyData.bool)) && decide (PyData.depth (.list (bs.map PyData.bool)) ≤ 64)) = true
  rw [Bool.and_eq_true]
  exact ⟨by simp only [PyData.canLay0]; exact canLay_bls bs, decide_eq_true h2⟩
theorem eqv_refl_bls (bs : List Bool) : PyData.eqv (.list (bs.map PyData.bool)) (.list (bs.map PyData.bool)) = true := SeqAt.eqv_refl _ (SeqAt.canLay_of_shaped (shaped_bls bs))
/-- the six truths as a list of Bool -/
def sixB (b1 b2 b3 b4 b5 : Bool) : List Bool := [b1, b2, b3, b4, b5, true]
theorem six_ne {K : PySem.W.Frag} {H : Hp} {a b : Addr} {b1 b2 b3 b4 b5 : Bool} {Q : VK} (ha : SqL K H a ((sixB b1 b2 b3 b4 b5).map V.bl)) (hb : SqL K H b ((sixB b1 b2 b3 b4 b5).map V.bl)) (q : Q (.bl false) H) : rNeD K (.ref a) (.ref b) H Q :=
  ⟨_, _, dp_bls ha, dp_bls hb, shaped_bls _, shaped_bls _, by rw [eqv_refl_bls]; exact q⟩
theorem six_eq {K : PySem.W.Frag} {H : Hp} {a b : Addr} {b1 b2 b3 b4 b5 : Bool} {Q : VK} (ha : SqL K H a ((sixB b1 b2 b3 b4 b5).map V.bl)) (hb : SqL K H b ((sixB b1 b2 b3 b4 b5).map V.bl)) (q : Q (.bl true) H) : rEqD K (.ref a) (.ref b) H Q :=
  ⟨_, _, dp_bls ha, dp_bls hb, shaped_bls _, shaped_bls _, by rw [eqv_refl_bls]; exact q⟩
section
variable {P : Program} {w : World} {K : PySem.W.Frag} {mg : Str → Option Value} {base : Heap}
structure KindsE (K : PySem.W.Frag) (D CW CS CN CR CT CE : Addr) (b1 b2 b3 b4 b5 : Bool) : Prop where
  T : Kinds K D CW CS CN CR CT b1 b2 b3 b4 b5
  e : PySem.W.exmOne K (.ref D) (.ref CE) = some true
def sp_settings_refused (K : PySem.W.Frag) : Sp := fun vs H Q _ => ∃ (a c d : Addr) (v : V) (ws : List Int) (xs : List V), vs = [.ref a, v, .ref c, .ref d] ∧ SqL K H a (ws.map V.int) ∧ ones ws ∧ ws.length ≤ 63 ∧ (∀ x ∈ ws, x < 10 ^ 60) ∧ SqL K H c xs ∧ (∀ x ∈ xs, BadS K H ws x) ∧
  SqL K H d ((sixB false true false false false).map V.bl) ∧ ∀ H' : Hp, Same H H' → Q (.bl true) H'
theorem ok_settings_refused {CW CS CN CR CT C_WheelError : Addr} (D : Df K mg "_law_settings_refused" s_law_settings_refused ["_law_wheels_here", "_law_setting_here", "_law_bad", "_law_due"]) (B : Bi mg) (T_WheelError : Err K mg "WheelError" C_WheelError)
    (KS : KindsE K CS CW CS CN CR CT C_WheelError false true false false false) (G_law_kinds : OkE P w K mg base "_law_kinds" ["_law_error"] 1 (sp_kinds K CW CS CN CR CT))
    (X_law_with_setting : OkX P w K mg base "_law_with_setting" ["_law_ask", "_law_wheels_here", "_law_setting_here"] 13 (sp_with_setting K CS)) : Ok P w K mg base "_law_settings_refused" ["_law_wheels_here", "_law_setting_here", "_law_bad", "_law_due"] 14 (sp_settings_refused K) := by
  refine D.ok sc_law_settings_refused (fun vs H Q E h => ?_) (fun f cdv A outer s H vs Q E hr h => ?_)
  · obtain ⟨a, c, d, v, ws, xs, rfl, _⟩ := h
    rfl
  · obtain ⟨a, c, d, v, ws, xs, rfl, hW, ho, hl, hbig, hX, hB, hd, q⟩ := h
    refine ⟨_, (pss_cons (ps_for PassesOwn.never rfl (pi_range1 (by rfl) B.range (pa_cons pe_int pa_nil)) (pg_name (i := 4) sc_law_settings_refused.nd rfl (.inl rfl))
        (pss_one (ps_for PassesOwn.never rfl (pi_list (pv 2)) (pg_name (i := 5) sc_law_settings_refused.nd rfl (.inl rfl))
          (pss_one (ps_tryA (i := 6) (c := .ref C_WheelError) rfl rfl sc_law_settings_refused.nd rfl rfl ⟨by rfl, by decide, .inl T_WheelError.g⟩
            (fun W_ pn_ xe_ tk_ ow_ => (pss_cons (ps_expr (pe_okS X_law_with_setting hr (by decide) tk_ (pa_cons (pv 4) (pa_cons (pv 0) (pa_cons (pv 5) pa_nil)))))
            (pss_one (ps_ret pe_bl))))
            (fun a_ oe_ cls_ d_ pn_ hz_ hf_ => by exact (pss_one (ps_if (pt_cmpR (neDK K hr.units) (pe_okEa (a := a_) (oe := oe_) G_law_kinds (roomS hr) (by decide) List.mem_cons_self hz_.zc hf_ (pa_cons (pv 6) pa_nil)) (pv 3) (nomark _))
              (pss_one (ps_ret pe_bl))
              pss_nil))))))))
      (pss_one (ps_ret pe_bl))), ?_⟩
    refine ⟨5, rfl, (by decide), (by decide), ?_⟩
    refine for_range (lo := 0) (fun i σ H3 => ∃ y4 y5 : Option V, σ = [some (.ref a), some v, some (.ref c), some (.ref d), y4, y5, none] ∧ Same H H3) ⟨none, none, rfl, Same.refl H⟩ ?_ ?_
    · rintro i σ H3 hi ⟨y4, y5, rfl, s3⟩
      refine ⟨_, rfl, c, rfl, ⟨_, s3.seq hX⟩, ?_⟩
      refine for_list (K := K) (a := c) (xs := xs) (fun j σ H4 => ∃ y5 : Option V, σ = [some (.ref a), some v, some (.ref c), some (.ref d), some (.int (0 + (i : Int))), y5, none] ∧ Same H H4) ⟨y5, rfl, s3⟩ (fun j σ H4 _ ⟨_, _, s4⟩ => s4.seq hX) ?_ ?_
      · rintro j x σ H4 hx ⟨y5, rfl, s4⟩
        refine ⟨_, rfl, _, rfl, _, rfl, _, a, x, ws, rfl, s4.seq hW, ho, hl, hbig, (hB x (List.mem_of_getElem? hx)).same s4, fun H5 s5 => ?_⟩
        refine ⟨true, KS.e, fun _ e na => ?_, fun h => absurd h (by decide)⟩
        refine ⟨_, rfl, CS, _, _, _, _, _, rfl, rfl, rfl, KS.T, fun p H6 s6 np hp => ?_⟩
        have t6 : Same H H6 := (s4.trans s5).trans s6
        refine ⟨_, rfl, six_ne (SqL.of hp) (t6.seq hd) ⟨_, rfl, ?_⟩⟩
        exact ⟨_, rfl, t6⟩
      · rintro σ H4 ⟨y5, rfl, s4⟩
        exact ⟨_, _, rfl, s4⟩
    · rintro σ H3 ⟨y4, y5, rfl, s3⟩
      exact q _ s3
end
end Ww
namespace Ww
open PySem PySem.Spec PyProof.Rows L2 L2H
section
variable {P : Program} {w : World} {K : PySem.W.Frag} {mg : Str → Option Value} {base : Heap}
def sp_ring_badn (K : PySem.W.Frag) (PT CN : Addr) : Sp := fun vs H _ E => ∃ (a : Addr) (v : V) (ws : List Int), vs = [.ref a, v] ∧ GxR.TabG H PT ∧ SqL K H a (ws.map V.int) ∧ sizes ws ∧ ws.length ≤ 63 ∧ ¬ noRing ws ∧ BadN K H (prd ws) v ∧ ∀ H' : Hp, Same H H' → E (.ref CN) none H'
def sp_ring_bads (K : PySem.W.Frag) (PT CS : Addr) : Sp := fun vs H _ E => ∃ (a : Addr) (v : V) (ws : List Int), vs = [.ref a, v] ∧ GxR.TabG H PT ∧ SqL K H a (ws.map V.int) ∧ sizes ws ∧ ws.length ≤ 63 ∧ ¬ noRing ws ∧ BadS K H ws v ∧ ∀ H' : Hp, Same H H' → E (.ref CS) none H'
/-- what is due: of each of four classes the six truths -/
structure Dues (K : PySem.W.Frag) (PT : Addr) (H : Hp) (dd d0 d1 d2 d3 : Addr) : Prop where
  tb : GxR.TabG H PT
  l : SqL K H dd [.ref d0, .ref d1, .ref d2, .ref d3]
  e0 : SqL K H d0 ((sixB true false false false false).map V.bl)
  e1 : SqL K H d1 ((sixB false true false false false).map V.bl)
  e2 : SqL K H d2 ((sixB false false true false false).map V.bl)
  e3 : SqL K H d3 ((sixB false false false true false).map V.bl)
theorem Dues.same {K : PySem.W.Frag} {PT : Addr} {H H' : Hp} {dd d0 d1 d2 d3 : Addr} (h : Dues K PT H dd d0 d1 d2 d3) (s : Same H H') : Dues K PT H' dd d0 d1 d2 d3 := ⟨s.tab h.tb, s.seq h.l, s.seq h.e0, s.seq h.e1, s.seq h.e2, s.seq h.e3⟩
/-- a list of ints that stands -/
def Wh (K : PySem.W.Frag) (H : Hp) (pr : List Int → Prop) (x : V) : Prop := ∃ (a : Addr) (ws : List Int), x = .ref a ∧ SqL K H a (ws.map V.int) ∧ pr ws
theorem Wh.same {H H' : Hp} {pr : List Int → Prop} {x : V} (h : Wh K H pr x) (s : Same H H') : Wh K H' pr x := by
  obtain ⟨a, ws, e, h1, h2⟩ := h
  exact ⟨a, ws, e, s.seq h1, h2⟩
theorem wh_new {H : Hp} {pr : List Int → Prop} {p : Addr} (ws : List Int) (h : pr ws) : Wh K (upd H p (.lst (ws.map V.int))) pr (.ref p) := ⟨p, ws, rfl, SqL.of upd_same, h⟩
def sp_rings_right (K : PySem.W.Frag) (PT : Addr) : Sp := fun vs H Q _ => ∃ (dd d0 d1 d2 d3 : Addr) (far : Int), vs = [.ref dd, .int far] ∧ 0 ≤ far ∧ far < 1000000 ∧ Dues K PT H dd d0 d1 d2 d3 ∧ ∀ H' : Hp, Same H H' → Q (.bl true) H'
def okNR (ws : List Int) : Prop := sizes ws ∧ ws.length ≤ 63 ∧ noRing ws
theorem okNR_of {ws : List Int} (h : (ws.all fun s => decide (1 ≤ s ∧ s ≤ 1000000)) = true) (h2 : ws.length ≤ 63) (h3 : noRing ws) : okNR ws :=
  ⟨fun s hs => by have := of_decide_eq_true (List.all_eq_true.mp h s hs); have := big_ge; unfold big at *; omega, h2, h3⟩
theorem okNR_far {far : Int} (h0 : 0 ≤ far) (h1 : far < 1000000) : okNR [3, 1, 5 + far * 2] := by
  refine ⟨fun s hs => ?_, by show 3 ≤ 63; decide, fun h => ?_⟩
  · have bg : (10000000 : Int) ≤ big := by decide +kernel
    simp only [List.mem_cons, List.not_mem_nil, or_false] at hs
    omega
  · have h1 := h.1
    simp only [prd] at h1
    omega
theorem sizes_32 : sizes [3, 2] := fun s hs => by
  have bg : (10000000 : Int) ≤ big := by decide +kernel
  simp only [List.mem_cons, List.not_mem_nil, or_false] at hs
  omega
theorem bads_of {H : Hp} {a : Addr} {ws st : List Int} (h : SqL K H a (st.map V.int)) (hn : ¬ okS ws st) : BadS K H ws (.ref a) := by
  refine .inr ⟨a, _, rfl, h, ?_⟩
  by_cases hl : st.length = ws.length
  · refine .inr ⟨by rw [List.length_map, hl], fun x hx => ?_, ?_⟩
    · obtain ⟨z, _, rfl⟩ := List.mem_map.mp hx
      exact .inl ⟨z, rfl⟩
    · refine Classical.byContradiction fun hc => hn (okS_of hl fun i s p e1 e2 => Classical.byContradiction fun hb => hc ⟨i, .int p, s, at_map_int e2, e1, fun z e => ?_⟩)
      cases e
      exact hb
  · exact .inl (by rw [List.length_map]; exact hl)
theorem mix2 {H : Hp} {i : Int} {y : V} (h : NoInt K H y) : ∀ x ∈ ([.int i, y] : List V), Cl K H x := fun x hx => by
  simp only [List.mem_cons, List.not_mem_nil, or_false] at hx
  rcases hx with rfl | rfl
  · exact .inl ⟨_, rfl⟩
  · exact .inr h
theorem NoInt.ne {H : Hp} {y : V} (h : NoInt K H y) (z : Int) : y ≠ .int z := by
  rintro rfl
  obtain ⟨t, b1, b2, ty, h1, h2, h3⟩ := h
  have et : t = "int" := by
    cases ty with
    | base b => cases b; rfl
  subst et
  have e1 : kitB "int" "int" = some true := by decide +kernel
  have e2 : kitB "int" "bool" = some false := by decide +kernel
  rw [e1] at h1
  rw [e2] at h2
  cases h1
  cases h2
  cases h3
theorem badw_ints {H : Hp} {a : Addr} (zs : List Int) (h : SqL K H a (zs.map V.int)) (hz : ∃ z ∈ zs, z < 1) : BadW K H (.ref a) := by
  obtain ⟨z, hm, h1⟩ := hz
  refine .inr ⟨a, _, rfl, h, fun x hx => ?_, .int z, List.mem_map.mpr ⟨z, hm, rfl⟩, fun y e => by cases e; exact h1⟩
  obtain ⟨y, _, rfl⟩ := List.mem_map.mp hx
  exact .inl ⟨y, rfl⟩
theorem badw_mix {H : Hp} {a : Addr} {xs : List V} (h : SqL K H a xs) (hc : ∀ x ∈ xs, Cl K H x) {y : V} (hy : y ∈ xs) (hn : NoInt K H y) : BadW K H (.ref a) :=
  .inr ⟨a, xs, rfl, h, hc, y, hy, fun z e => absurd e (hn.ne z)⟩
theorem badw_one {H : Hp} {a : Addr} {y : V} (h : SqL K H a [y]) (hn : NoInt K H y) : BadW K H (.ref a) := badw_mix h (fun x hx => by rw [List.mem_singleton.mp hx]; exact .inr hn) List.mem_cons_self hn
theorem cl23 {H : Hp} : ∀ x ∈ ([.int 2, .int 3, .non] : List V), Cl K H x := fun x hx => by
  simp only [List.mem_cons, List.not_mem_nil, or_false] at hx
  rcases hx with rfl | rfl | rfl
  · exact .inl ⟨_, rfl⟩
  · exact .inl ⟨_, rfl⟩
  · exact .inr noInt_non
def rngN (n : Nat) : Nat := (Builtin.Range.rangeSize 0 n (1 + (n : Int) / 6)).toNat
def rngB (n : Nat) : Bool := decide (1 + (n : Int) / 6 ≠ 0) && decide ((1 + (n : Int) / 6).natAbs < 1073741824) && Builtin.Range.small 0 n (1 + (n : Int) / 6) && decide (Builtin.Range.rangeSize 0 n (1 + (n : Int) / 6) = (rngN n : Int)) &&
  (List.range (rngN n)).all fun i => decide (0 ≤ 0 + (i : Int) * (1 + (n : Int) / 6)) && decide (0 + (i : Int) * (1 + (n : Int) / 6) < n)
theorem rngB_all : ∀ n : Nat, n < 64 → rngB n = true := by decide +kernel
theorem rng6 {n : Nat} (h : n ≤ 63) : ∃ N : Nat, RgC 0 n (1 + (n : Int) / 6) N ∧ N ≤ 63 ∧ ∀ i < N, 0 ≤ 0 + (i : Int) * (1 + (n : Int) / 6) ∧ 0 + (i : Int) * (1 + (n : Int) / 6) < n := by
  have hb := rngB_all n (by omega)
  unfold rngB at hb
  simp only [Bool.and_eq_true] at hb
  obtain ⟨⟨⟨⟨h1, h2⟩, h3⟩, h3'⟩, h4⟩ := hb
  have h5 : ∀ i : Nat, i < rngN n → 0 ≤ 0 + (i : Int) * (1 + (n : Int) / 6) ∧ 0 + (i : Int) * (1 + (n : Int) / 6) < n := fun i hi => by
    have h5 := List.all_eq_true.mp h4 i (List.mem_range.mpr hi)
    rw [Bool.and_eq_true] at h5
    exact ⟨of_decide_eq_true h5.1, of_decide_eq_true h5.2⟩
  refine ⟨rngN n, ⟨of_decide_eq_true h1, of_decide_eq_true h2, h3, of_decide_eq_true h3'⟩, ?_, h5⟩
  refine Classical.byContradiction fun hc => ?_
  have h6 := h5 63 (by omega)
  have h7 : (1 : Int) ≤ 1 + (n : Int) / 6 := by omega
  have h8 : (63 : Int) * 1 ≤ ((63 : Nat) : Int) * (1 + (n : Int) / 6) := Int.mul_le_mul_of_nonneg_left h7 (by decide)
  omega
/-- no size -/
def BadOne (K : PySem.W.Frag) (y : V) : Prop := (∀ H : Hp, NoInt K H y) ∨ ∃ v : Int, y = .int v ∧ v < 1
theorem pick5 {far m : Int} (hf : 0 ≤ far) (h0 : 0 ≤ m) (h1 : m < 5) : ∃ y : V, ([.non, .str "1", .bl true, .int 0, .int (-1 - far)] : List V)[m.toNat]? = some y ∧ BadOne K y := by
  obtain ⟨j, rfl⟩ : ∃ j : Nat, m = (j : Int) := ⟨m.toNat, by omega⟩
  rw [Int.toNat_natCast]
  match j with
  | 0 => exact ⟨_, rfl, .inl fun _ => noInt_non⟩
  | 1 => exact ⟨_, rfl, .inl fun _ => noInt_str _⟩
  | 2 => exact ⟨_, rfl, .inl fun _ => noInt_bl _⟩
  | 3 => exact ⟨_, rfl, .inr ⟨0, rfl, by decide⟩⟩
  | 4 => exact ⟨_, rfl, .inr ⟨-1 - far, rfl, by omega⟩⟩
  | n + 5 => exact absurd h1 (by omega)
theorem badw_set {H : Hp} {a : Addr} {ws : List Int} {k : Nat} {y : V} (hk : k < ws.length) (h : SqL K H a ((ws.map V.int).set k y)) (hy : BadOne K y) : BadW K H (.ref a) := by
  have hm : y ∈ (ws.map V.int).set k y := List.mem_set (by rw [List.length_map]; exact hk) y
  refine .inr ⟨a, _, rfl, h, fun x hx => ?_, y, hm, fun z e => ?_⟩
  · rcases List.mem_or_eq_of_mem_set hx with hx | rfl
    · obtain ⟨z, _, rfl⟩ := List.mem_map.mp hx
      exact .inl ⟨z, rfl⟩
    · rcases hy with hy | ⟨v, rfl, _⟩
      · exact .inr (hy H)
      · exact .inl ⟨v, rfl⟩
  · rcases hy with hy | ⟨v, rfl, hv⟩
    · exact absurd e ((hy H).ne z)
    · cases e
      exact hv
/-- no number of a wheel of s numbers -/
def BadFor (K : PySem.W.Frag) (s : Int) (y : V) : Prop := (∀ H : Hp, NoInt K H y) ∨ ∃ v : Int, y = .int v ∧ ¬ (0 ≤ v ∧ v < s)
theorem pick7 {far m s : Int} (hf : 0 ≤ far) (h0 : 0 ≤ m) (h1 : m < 7) : ∃ y : V, ([.non, .str "0", .bl true, .int (s + far), .int (-1 - far), .int s, .int (-1)] : List V)[m.toNat]? = some y ∧ BadFor K s y := by
  obtain ⟨j, rfl⟩ : ∃ j : Nat, m = (j : Int) := ⟨m.toNat, by omega⟩
  rw [Int.toNat_natCast]
  match j with
  | 0 => exact ⟨_, rfl, .inl fun _ => noInt_non⟩
  | 1 => exact ⟨_, rfl, .inl fun _ => noInt_str _⟩
  | 2 => exact ⟨_, rfl, .inl fun _ => noInt_bl _⟩
  | 3 => exact ⟨_, rfl, .inr ⟨s + far, rfl, by omega⟩⟩
  | 4 => exact ⟨_, rfl, .inr ⟨-1 - far, rfl, by omega⟩⟩
  | 5 => exact ⟨_, rfl, .inr ⟨s, rfl, by omega⟩⟩
  | 6 => exact ⟨_, rfl, .inr ⟨-1, rfl, by omega⟩⟩
  | n + 7 => exact absurd h1 (by omega)
theorem bads_set {H : Hp} {a : Addr} {ws st : List Int} {k : Nat} {y : V} {s : Int} (hl : st.length = ws.length) (hs : ws[k]? = some s) (h : SqL K H a ((st.map V.int).set k y)) (hy : BadFor K s y) : BadS K H ws (.ref a) := by
  have hk : k < ws.length := (List.getElem?_eq_some_iff.mp hs).1
  refine .inr ⟨a, _, rfl, h, .inr ⟨by rw [List.length_set, List.length_map, hl], fun x hx => ?_, k, y, s, ?_, hs, fun z e => ?_⟩⟩
  · rcases List.mem_or_eq_of_mem_set hx with hx | rfl
    · obtain ⟨z, _, rfl⟩ := List.mem_map.mp hx
      exact .inl ⟨z, rfl⟩
    · rcases hy with hy | ⟨v, rfl, _⟩
      · exact .inr (hy H)
      · exact .inl ⟨v, rfl⟩
  · rw [List.getElem?_set_self]
    rw [List.length_map, hl]
    exact hk
  · rcases hy with hy | ⟨v, rfl, hv⟩
    · exact absurd e ((hy H).ne z)
    · cases e
      exact hv
theorem bads_len {H : Hp} {a : Addr} {ws : List Int} {xs : List V} (h : SqL K H a xs) (hl : xs.length ≠ ws.length) : BadS K H ws (.ref a) := .inr ⟨a, xs, rfl, h, .inl hl⟩
theorem sizes_60 {ws : List Int} (h : sizes ws) : ∀ x ∈ ws, x < 10 ^ 60 := fun x hx => by
  have h1 := (h x hx).2
  have h2 : big < 10 ^ 60 := by decide +kernel
  omega
theorem rows2 {H : Hp} {b c : Addr} {ws st : List Int} (h1 : H b = some (.lst (ws.map V.int))) (h2 : H c = some (.lst (st.map V.int))) : ∀ q ∈ [(b, ws), (c, st)], SqL K H q.1 (q.2.map V.int) := fun q hq => by
  simp only [List.mem_cons, List.not_mem_nil, or_false] at hq
  rcases hq with rfl | rfl
  · exact SqL.of h1
  · exact SqL.of h2
end
end Ww
/-! law 6: what the two doors of a ring refuse -/
namespace Ww
open PySem PySem.Spec PyProof.Rows L2 L2H
section
variable {P : Program} {w : World} {K : PySem.W.Frag} {mg : Str → Option Value} {base : Heap}
theorem ok_rings_right {PT CW CS CN CR CT CE : Addr} (D : Df K mg "_law_rings_right" s_law_rings_right ["_law_due", "_law_far_here"]) (B : Bi mg)
    (KS : KindsE K CS CW CS CN CR CT CE false true false false false) (KN : KindsE K CN CW CS CN CR CT CE false false true false false) (KR : KindsE K CR CW CS CN CR CT CE false false false true false)
    (R1 : OkX P w K mg base "ring_setting" ["wheels", "number"] 13 (sp_no_ring K PT CR)) (R2 : OkX P w K mg base "ring_number" ["wheels", "setting"] 13 (sp_no_ring K PT CR)) (R3 : OkX P w K mg base "ring_setting" ["wheels", "number"] 13 (sp_ring_badn K PT CN)) (R4 : OkX P w K mg base "ring_number" ["wheels", "setting"] 13 (sp_ring_bads K PT CS))
    (G_law_told : Ok P w K mg base "_law_told" ["_law_ask", "_law_one", "_law_other"] 14 (sp_told P w K mg base 13 CW CS CN CR CT CE)) : Ok P w K mg base "_law_rings_right" ["_law_due", "_law_far_here"] 15 (sp_rings_right K PT) := by
  refine D.ok sc_law_rings_right (fun vs H Q E h => ?_) (fun f cdv A outer s H vs Q E hr h => ?_)
  · obtain ⟨dd, d0, d1, d2, d3, far, rfl, _⟩ := h
    rfl
  · obtain ⟨dd, d0, d1, d2, d3, far, rfl, hf0, hf1, hD, q⟩ := h
    obtain ⟨f_ring_setting, fd1, g_ring_setting, kp1, b1, F1⟩ := R1.ex
    obtain ⟨f_ring_number, fd2, g_ring_number, kp2, b2, F2⟩ := R2.ex
    obtain ⟨f3, fd3, g3, kp3, b3, F3⟩ := R3.ex
    obtain ⟨f4, fd4, g4, kp4, b4, F4⟩ := R4.ex
    have ef3 : f_ring_setting = f3 := by rw [g_ring_setting] at g3; injection g3 with g3; injection g3 with g3
    have ef4 : f_ring_number = f4 := by rw [g_ring_number] at g4; injection g4 with g4; injection g4 with g4
    subst ef3 ef4
    refine ⟨_, (pss_cons (ps_for PassesOwn.never rfl (pi_tup (pe_tup (pa_cons (pe_lst pa_nil) (pa_cons (pe_lst (pa_cons pe_int pa_nil)) (pa_cons (pe_lst (pa_cons pe_int pa_nil)) (pa_cons (pe_lst (pa_cons pe_int (pa_cons pe_int pa_nil))) (pa_cons (pe_lst (pa_cons pe_int (pa_cons pe_int pa_nil))) (pa_cons (pe_lst (pa_cons pe_int (pa_cons pe_int (pa_cons pe_int pa_nil)))) (pa_cons (pe_lst (pa_cons pe_int (pa_cons pe_int (pa_cons (pe_op op_add pe_int (pe_op op_mul (pv 1) pe_int)) pa_nil)))) pa_nil))))))))) (pg_name (i := 2) sc_law_rings_right.nd rfl (.inl rfl))
        (pss_one (ps_if (PW.pt (pw_or (pt_cmpR (neDK K hr.units) (pe_ok G_law_told hr (by decide) (pa_cons (pe_glob (by rfl) g_ring_setting (v := .ref f_ring_setting) rfl) (pa_cons (pv 2) (pa_cons pe_non pa_nil)))) (pe_ix (ixL K) (pv 0) pe_int (fun _ _ => rfl)) (nomark _)) (pw_or1 (pt_cmpR (neDK K hr.units) (pe_ok G_law_told hr (by decide) (pa_cons (pe_glob (by rfl) g_ring_number (v := .ref f_ring_number) rfl) (pa_cons (pv 2) (pa_cons pe_non pa_nil)))) (pe_ix (ixL K) (pv 0) pe_int (fun _ _ => rfl)) (nomark _)))))
          (pss_one (ps_ret pe_bl))
          pss_nil)))
      (pss_cons (ps_for PassesOwn.never rfl (pi_tup (pe_tup (pa_cons pe_non (pa_cons pe_str (pa_cons pe_bl (pa_cons (pe_lst (pa_cons pe_int pa_nil)) (pa_cons (pe_un un_neg pe_int) (pa_cons (pe_op op_sub (pe_un un_neg pe_int) (pv 1)) (pa_cons pe_int (pa_cons (pe_op op_add pe_int (pv 1)) pa_nil)))))))))) (pg_name (i := 3) sc_law_rings_right.nd rfl (.inl rfl))
        (pss_one (ps_if (pt_cmpR (neDK K hr.units) (pe_ok G_law_told hr (by decide) (pa_cons (pe_glob (by rfl) g_ring_setting (v := .ref f_ring_setting) rfl) (pa_cons (pe_lst (pa_cons pe_int (pa_cons pe_int pa_nil))) (pa_cons (pv 3) pa_nil)))) (pe_ix (ixL K) (pv 0) pe_int (fun _ _ => rfl)) (nomark _))
          (pss_one (ps_ret pe_bl))
          pss_nil)))
      (pss_cons (ps_for PassesOwn.never rfl (pi_tup (pe_tup (pa_cons pe_non (pa_cons (pe_tup (pa_cons pe_int (pa_cons pe_int pa_nil))) (pa_cons (pe_lst (pa_cons pe_int pa_nil)) (pa_cons (pe_lst (pa_cons pe_int (pa_cons pe_int (pa_cons pe_int pa_nil)))) (pa_cons (pe_lst (pa_cons pe_int (pa_cons pe_int pa_nil))) (pa_cons (pe_lst (pa_cons pe_int (pa_cons pe_int pa_nil))) (pa_cons (pe_lst (pa_cons (pe_un un_neg pe_int) (pa_cons pe_int pa_nil))) (pa_cons (pe_lst (pa_cons pe_int (pa_cons pe_bl pa_nil))) (pa_cons (pe_lst (pa_cons pe_int (pa_cons pe_non pa_nil))) (pa_cons pe_str (pa_cons (pe_lst (pa_cons (pe_op op_add pe_int (pv 1)) (pa_cons pe_int pa_nil))) pa_nil))))))))))))) (pg_name (i := 4) sc_law_rings_right.nd rfl (.inl rfl))
        (pss_one (ps_if (pt_cmpR (neDK K hr.units) (pe_ok G_law_told hr (by decide) (pa_cons (pe_glob (by rfl) g_ring_number (v := .ref f_ring_number) rfl) (pa_cons (pe_lst (pa_cons pe_int (pa_cons pe_int pa_nil))) (pa_cons (pv 4) pa_nil)))) (pe_ix (ixL K) (pv 0) pe_int (fun _ _ => rfl)) (nomark _))
          (pss_one (ps_ret pe_bl))
          pss_nil)))
      (pss_one (ps_ret pe_bl))))), ?_⟩
    -- the wheels with no ring
    refine ⟨Nat.zero_le _, fun p1 n1 => ?_⟩
    have t1 : Same H (upd H p1 (.lst [])) := same_upd n1
    have w1 : Wh K (upd H p1 (.lst [])) okNR (.ref p1) := wh_new [] (okNR_of (by decide) (by decide) (by decide))
    generalize upd H p1 (.lst []) = H1 at t1 w1 ⊢
    refine ⟨(by show 1 ≤ sizeLine; decide), fun p2 n2 => ?_⟩
    have t2 : Same H1 (upd H1 p2 (.lst [.int (1)])) := same_upd n2
    have w2 : Wh K (upd H1 p2 (.lst [.int (1)])) okNR (.ref p2) := wh_new [1] (okNR_of (by decide) (by decide) (by decide))
    generalize upd H1 p2 (.lst [.int (1)]) = H2 at t2 w2 ⊢
    replace w1 := w1.same t2
    refine ⟨(by show 1 ≤ sizeLine; decide), fun p3 n3 => ?_⟩
    have t3 : Same H2 (upd H2 p3 (.lst [.int (2)])) := same_upd n3
    have w3 : Wh K (upd H2 p3 (.lst [.int (2)])) okNR (.ref p3) := wh_new [2] (okNR_of (by decide) (by decide) (by decide))
    generalize upd H2 p3 (.lst [.int (2)]) = H3 at t3 w3 ⊢
    replace w1 := w1.same t3
    replace w2 := w2.same t3
    refine ⟨(by show 2 ≤ sizeLine; decide), fun p4 n4 => ?_⟩
    have t4 : Same H3 (upd H3 p4 (.lst [.int (7), .int (1)])) := same_upd n4
    have w4 : Wh K (upd H3 p4 (.lst [.int (7), .int (1)])) okNR (.ref p4) := wh_new [7, 1] (okNR_of (by decide) (by decide) (by decide))
    generalize upd H3 p4 (.lst [.int (7), .int (1)]) = H4 at t4 w4 ⊢
    replace w1 := w1.same t4
    replace w2 := w2.same t4
    replace w3 := w3.same t4
    refine ⟨(by show 2 ≤ sizeLine; decide), fun p5 n5 => ?_⟩
    have t5 : Same H4 (upd H4 p5 (.lst [.int (3), .int (3)])) := same_upd n5
    have w5 : Wh K (upd H4 p5 (.lst [.int (3), .int (3)])) okNR (.ref p5) := wh_new [3, 3] (okNR_of (by decide) (by decide) (by decide))
    generalize upd H4 p5 (.lst [.int (3), .int (3)]) = H5 at t5 w5 ⊢
    replace w1 := w1.same t5
    replace w2 := w2.same t5
    replace w3 := w3.same t5
    replace w4 := w4.same t5
    refine ⟨(by show 3 ≤ sizeLine; decide), fun p6 n6 => ?_⟩
    have t6 : Same H5 (upd H5 p6 (.lst [.int (1), .int (5), .int (1)])) := same_upd n6
    have w6 : Wh K (upd H5 p6 (.lst [.int (1), .int (5), .int (1)])) okNR (.ref p6) := wh_new [1, 5, 1] (okNR_of (by decide) (by decide) (by decide))
    generalize upd H5 p6 (.lst [.int (1), .int (5), .int (1)]) = H6 at t6 w6 ⊢
    replace w1 := w1.same t6
    replace w2 := w2.same t6
    replace w3 := w3.same t6
    replace w4 := w4.same t6
    replace w5 := w5.same t6
    refine ⟨_, rfl, _, _, rfl, rfl, .inr ⟨by decide, by decide⟩, _, _, rfl, rfl, (by show 3 ≤ sizeLine; decide), fun p7 n7 => ?_⟩
    have t7 : Same H6 (upd H6 p7 (.lst [.int (3), .int (1), .int (5 + far * 2)])) := same_upd n7
    have w7 : Wh K (upd H6 p7 (.lst [.int (3), .int (1), .int (5 + far * 2)])) okNR (.ref p7) := wh_new [3, 1, 5 + far * 2] (okNR_far hf0 hf1)
    generalize upd H6 p7 (.lst [.int (3), .int (1), .int (5 + far * 2)]) = H7 at t7 w7 ⊢
    replace w1 := w1.same t7
    replace w2 := w2.same t7
    replace w3 := w3.same t7
    replace w4 := w4.same t7
    replace w5 := w5.same t7
    replace w6 := w6.same t7
    have tt : Same H H7 := (((((t1.trans t2).trans t3).trans t4).trans t5).trans t6).trans t7
    clear t1 t2 t3 t4 t5 t6 t7
    refine ⟨(by show 7 ≤ sizeLine; decide), fun p n => ?_⟩
    have hX : upd H7 p (.tup [.ref p1, .ref p2, .ref p3, .ref p4, .ref p5, .ref p6, .ref p7]) p = some (.tup [.ref p1, .ref p2, .ref p3, .ref p4, .ref p5, .ref p6, .ref p7]) := upd_same
    have t8 : Same H7 (upd H7 p (.tup [.ref p1, .ref p2, .ref p3, .ref p4, .ref p5, .ref p6, .ref p7])) := same_upd n
    have hW : ∀ x ∈ ([.ref p1, .ref p2, .ref p3, .ref p4, .ref p5, .ref p6, .ref p7] : List V), Wh K (upd H7 p (.tup [.ref p1, .ref p2, .ref p3, .ref p4, .ref p5, .ref p6, .ref p7])) okNR x := by
      intro x hx
      simp only [List.mem_cons, List.not_mem_nil, or_false] at hx
      rcases hx with rfl | rfl | rfl | rfl | rfl | rfl | rfl <;> (refine Wh.same ?_ t8; assumption)
    generalize upd H7 p (.tup [.ref p1, .ref p2, .ref p3, .ref p4, .ref p5, .ref p6, .ref p7]) = H8 at hX hW t8 ⊢
    replace tt := tt.trans t8
    clear t8 w1 w2 w3 w4 w5 w6 w7
    replace hD := hD.same tt
    generalize ([.ref p1, .ref p2, .ref p3, .ref p4, .ref p5, .ref p6, .ref p7] : List V) = xs at hX hW ⊢
    refine ⟨p, rfl, ⟨_, SqT.of hX⟩, ?_⟩
    refine for_tup (K := K) (a := p) (xs := xs) (fun j σ H4 => ∃ y2 : Option V, σ = [some (.ref dd), some (.int far), y2, none, none] ∧ Same H8 H4) ⟨none, rfl, Same.refl H8⟩ (fun j σ H4 _ ⟨_, _, s4⟩ => SqT.of (s4 _ _ hX)) ?_ ?_
    · rintro j x σ H4 hx ⟨y2, rfl, s4⟩
      obtain ⟨a, ws, rfl, hS, ho, hl, hn⟩ := (hW x (List.mem_of_getElem? hx)).same s4
      refine ⟨_, rfl, f_ring_setting, fd1, _, _, _, _, rfl, kp1, b1, F1, fun Q2 E2 hE => ?_⟩
      refine ⟨a, .non, ws, rfl, (hD.same s4).tb, hS, ho, hl, hn, fun H5 s5 => hE _ _ _ ⟨CR, _, _, _, _, _, rfl, rfl, KR.T, KR.e, fun q1 H6 s6 nq hq => ?_⟩⟩
      have u6 : Same H4 H6 := s5.trans s6
      have v6 : Same H8 H6 := s4.trans u6
      refine ⟨_, rfl, dd, _, _, _, rfl, rfl, (hD.same v6).l, at_of (j := 3) rfl rfl, six_ne (SqL.of hq) (hD.same v6).e3 ⟨_, rfl, ?_⟩⟩
      refine ⟨_, rfl, f_ring_number, fd2, _, _, _, _, rfl, kp2, b2, F2, fun Q2 E2 hE => ?_⟩
      refine ⟨a, .non, ws, rfl, (hD.same v6).tb, u6.seq hS, ho, hl, hn, fun H5 s5 => hE _ _ _ ⟨CR, _, _, _, _, _, rfl, rfl, KR.T, KR.e, fun q2 H7 s7 nq hq => ?_⟩⟩
      have v7 : Same H8 H7 := v6.trans (s5.trans s7)
      refine ⟨_, rfl, dd, _, _, _, rfl, rfl, (hD.same v7).l, at_of (j := 3) rfl rfl, six_ne (SqL.of hq) (hD.same v7).e3 ⟨_, rfl, ?_⟩⟩
      exact ⟨_, rfl, v7⟩
    rintro σ H9 ⟨y2, rfl, s9⟩
    replace tt := tt.trans s9
    replace hD := hD.same s9
    clear hX hW s9
    -- the numbers
    refine ⟨(by show 1 ≤ sizeLine; decide), fun p10 n10 => ?_⟩
    have t10 : Same H9 (upd H9 p10 (.lst [.int 0])) := same_upd n10
    have w10 : BadN K (upd H9 p10 (.lst [.int 0])) 6 (.ref p10) := .inl (noInt_list (xs := [.int 0]) (SqL.of upd_same))
    generalize upd H9 p10 (.lst [.int 0]) = H10 at t10 w10 ⊢
    refine ⟨_, rfl, _, rfl, _, rfl, _, _, rfl, rfl, _, rfl, _, _, rfl, rfl, (by show 8 ≤ sizeLine; decide), fun p11 n11 => ?_⟩
    have hX : upd H10 p11 (.tup [.non, .str "0", .bl true, .ref p10, .int (-1), .int (-1 - far), .int 6, .int (6 + far)]) p11 = some (.tup [.non, .str "0", .bl true, .ref p10, .int (-1), .int (-1 - far), .int 6, .int (6 + far)]) := upd_same
    have t11 : Same H10 (upd H10 p11 (.tup [.non, .str "0", .bl true, .ref p10, .int (-1), .int (-1 - far), .int 6, .int (6 + far)])) := same_upd n11
    have hB : ∀ x ∈ ([.non, .str "0", .bl true, .ref p10, .int (-1), .int (-1 - far), .int 6, .int (6 + far)] : List V), BadN K (upd H10 p11 (.tup [.non, .str "0", .bl true, .ref p10, .int (-1), .int (-1 - far), .int 6, .int (6 + far)])) 6 x := by
      intro x hx
      simp only [List.mem_cons, List.not_mem_nil, or_false] at hx
      rcases hx with rfl | rfl | rfl | rfl | rfl | rfl | rfl | rfl
      · exact .inl noInt_non
      · exact .inl (noInt_str _)
      · exact .inl (noInt_bl _)
      · exact w10.same t11
      · exact .inr ⟨_, rfl, by omega⟩
      · exact .inr ⟨_, rfl, by omega⟩
      · exact .inr ⟨_, rfl, by omega⟩
      · exact .inr ⟨_, rfl, by omega⟩
    generalize upd H10 p11 (.tup [.non, .str "0", .bl true, .ref p10, .int (-1), .int (-1 - far), .int 6, .int (6 + far)]) = H11 at hX hB t11 ⊢
    replace tt := (tt.trans t10).trans t11
    replace hD := (hD.same t10).same t11
    clear t10 t11 w10
    generalize ([.non, .str "0", .bl true, .ref p10, .int (-1), .int (-1 - far), .int 6, .int (6 + far)] : List V) = ys at hX hB ⊢
    refine ⟨p11, rfl, ⟨_, SqT.of hX⟩, ?_⟩
    refine for_tup (K := K) (a := p11) (xs := ys) (fun j σ H4 => ∃ y3 : Option V, σ = [some (.ref dd), some (.int far), y2, y3, none] ∧ Same H11 H4) ⟨none, rfl, Same.refl H11⟩ (fun j σ H4 _ ⟨_, _, s4⟩ => SqT.of (s4 _ _ hX)) ?_ ?_
    · rintro j x σ H4 hx ⟨y3, rfl, s4⟩
      refine ⟨(by show 2 ≤ sizeLine; decide), fun a na => ?_⟩
      have s5 : Same H4 (upd H4 a (.lst [.int 3, .int 2])) := same_upd na
      have hS : SqL K (upd H4 a (.lst [.int 3, .int 2])) a (([3, 2] : List Int).map V.int) := SqL.of upd_same
      generalize upd H4 a (.lst [.int 3, .int 2]) = H5 at s5 hS ⊢
      refine ⟨_, rfl, f_ring_setting, fd3, _, _, _, _, rfl, kp3, b3, F3, fun Q2 E2 hE => ?_⟩
      refine ⟨a, x, [3, 2], rfl, (hD.same (s4.trans s5)).tb, hS, sizes_32, (by decide), (by decide), (hB x (List.mem_of_getElem? hx)).same (s4.trans s5), fun H6 s6 => hE _ _ _ ⟨CN, _, _, _, _, _, rfl, rfl, KN.T, KN.e, fun q1 H7 s7 nq hq => ?_⟩⟩
      have v7 : Same H11 H7 := ((s4.trans s5).trans s6).trans s7
      refine ⟨_, rfl, dd, _, _, _, rfl, rfl, (hD.same v7).l, at_of (j := 2) rfl rfl, six_ne (SqL.of hq) (hD.same v7).e2 ⟨_, rfl, ?_⟩⟩
      exact ⟨_, rfl, v7⟩
    rintro σ H12 ⟨y3, rfl, s12⟩
    replace tt := tt.trans s12
    replace hD := hD.same s12
    clear hX hB s12
    -- the settings
    refine ⟨(by show 2 ≤ sizeLine; decide), fun p20 n20 => ?_⟩
    have t20 : Same H12 (upd H12 p20 (.tup [.int 0, .int 0])) := same_upd n20
    have w20 : BadS K (upd H12 p20 (.tup [.int 0, .int 0])) [3, 2] (.ref p20) := .inl (noList_tup (xs := [.int 0, .int 0]) upd_same)
    generalize upd H12 p20 (.tup [.int 0, .int 0]) = H20 at t20 w20 ⊢
    refine ⟨(by show 1 ≤ sizeLine; decide), fun p21 n21 => ?_⟩
    have t21 : Same H20 (upd H20 p21 (.lst [.int 0])) := same_upd n21
    have w21 : BadS K (upd H20 p21 (.lst [.int 0])) [3, 2] (.ref p21) := bads_of (st := [0]) (SqL.of upd_same) (by simp [okS])
    generalize upd H20 p21 (.lst [.int 0]) = H21 at t21 w21 ⊢
    replace w20 := w20.same t21
    refine ⟨(by show 3 ≤ sizeLine; decide), fun p22 n22 => ?_⟩
    have t22 : Same H21 (upd H21 p22 (.lst [.int 0, .int 0, .int 0])) := same_upd n22
    have w22 : BadS K (upd H21 p22 (.lst [.int 0, .int 0, .int 0])) [3, 2] (.ref p22) := bads_of (st := [0, 0, 0]) (SqL.of upd_same) (by simp [okS])
    generalize upd H21 p22 (.lst [.int 0, .int 0, .int 0]) = H22 at t22 w22 ⊢
    replace w20 := w20.same t22
    replace w21 := w21.same t22
    refine ⟨(by show 2 ≤ sizeLine; decide), fun p23 n23 => ?_⟩
    have t23 : Same H22 (upd H22 p23 (.lst [.int 3, .int 0])) := same_upd n23
    have w23 : BadS K (upd H22 p23 (.lst [.int 3, .int 0])) [3, 2] (.ref p23) := bads_of (st := [3, 0]) (SqL.of upd_same) (by simp [okS])
    generalize upd H22 p23 (.lst [.int 3, .int 0]) = H23 at t23 w23 ⊢
    replace w20 := w20.same t23
    replace w21 := w21.same t23
    replace w22 := w22.same t23
    refine ⟨(by show 2 ≤ sizeLine; decide), fun p24 n24 => ?_⟩
    have t24 : Same H23 (upd H23 p24 (.lst [.int 0, .int 2])) := same_upd n24
    have w24 : BadS K (upd H23 p24 (.lst [.int 0, .int 2])) [3, 2] (.ref p24) := bads_of (st := [0, 2]) (SqL.of upd_same) (by simp [okS])
    generalize upd H23 p24 (.lst [.int 0, .int 2]) = H24 at t24 w24 ⊢
    replace w20 := w20.same t24
    replace w21 := w21.same t24
    replace w22 := w22.same t24
    replace w23 := w23.same t24
    refine ⟨_, rfl, (by show 2 ≤ sizeLine; decide), fun p25 n25 => ?_⟩
    have t25 : Same H24 (upd H24 p25 (.lst [.int (-1), .int 0])) := same_upd n25
    have w25 : BadS K (upd H24 p25 (.lst [.int (-1), .int 0])) [3, 2] (.ref p25) := bads_of (st := [-1, 0]) (SqL.of upd_same) (by simp [okS])
    generalize upd H24 p25 (.lst [.int (-1), .int 0]) = H25 at t25 w25 ⊢
    replace w20 := w20.same t25
    replace w21 := w21.same t25
    replace w22 := w22.same t25
    replace w23 := w23.same t25
    replace w24 := w24.same t25
    refine ⟨(by show 2 ≤ sizeLine; decide), fun p26 n26 => ?_⟩
    have t26 : Same H25 (upd H25 p26 (.lst [.int 0, .bl true])) := same_upd n26
    have w26 : BadS K (upd H25 p26 (.lst [.int 0, .bl true])) [3, 2] (.ref p26) := .inr ⟨p26, [.int 0, .bl true], rfl, SqL.of upd_same, .inr ⟨rfl, mix2 (noInt_bl _), 1, .bl true, 2, rfl, rfl, fun z h => nomatch h⟩⟩
    generalize upd H25 p26 (.lst [.int 0, .bl true]) = H26 at t26 w26 ⊢
    replace w20 := w20.same t26
    replace w21 := w21.same t26
    replace w22 := w22.same t26
    replace w23 := w23.same t26
    replace w24 := w24.same t26
    replace w25 := w25.same t26
    refine ⟨(by show 2 ≤ sizeLine; decide), fun p27 n27 => ?_⟩
    have t27 : Same H26 (upd H26 p27 (.lst [.int 0, .non])) := same_upd n27
    have w27 : BadS K (upd H26 p27 (.lst [.int 0, .non])) [3, 2] (.ref p27) := .inr ⟨p27, [.int 0, .non], rfl, SqL.of upd_same, .inr ⟨rfl, mix2 noInt_non, 1, .non, 2, rfl, rfl, fun z h => nomatch h⟩⟩
    generalize upd H26 p27 (.lst [.int 0, .non]) = H27 at t27 w27 ⊢
    replace w20 := w20.same t27
    replace w21 := w21.same t27
    replace w22 := w22.same t27
    replace w23 := w23.same t27
    replace w24 := w24.same t27
    replace w25 := w25.same t27
    replace w26 := w26.same t27
    refine ⟨_, rfl, _, _, rfl, rfl, (by show 2 ≤ sizeLine; decide), fun p28 n28 => ?_⟩
    have t28 : Same H27 (upd H27 p28 (.lst [.int (3 + far), .int 1])) := same_upd n28
    have w28 : BadS K (upd H27 p28 (.lst [.int (3 + far), .int 1])) [3, 2] (.ref p28) := bads_of (st := [3 + far, 1]) (SqL.of upd_same) (fun h => by have h1 := h.2.1; omega)
    generalize upd H27 p28 (.lst [.int (3 + far), .int 1]) = H28 at t28 w28 ⊢
    replace w20 := w20.same t28
    replace w21 := w21.same t28
    replace w22 := w22.same t28
    replace w23 := w23.same t28
    replace w24 := w24.same t28
    replace w25 := w25.same t28
    replace w26 := w26.same t28
    replace w27 := w27.same t28
    replace tt := ((((((((tt.trans t20).trans t21).trans t22).trans t23).trans t24).trans t25).trans t26).trans t27).trans t28
    refine ⟨(by show 11 ≤ sizeLine; decide), fun p29 n29 => ?_⟩
    have hX : upd H28 p29 (.tup [.non, .ref p20, .ref p21, .ref p22, .ref p23, .ref p24, .ref p25, .ref p26, .ref p27, .str "00", .ref p28]) p29 = some (.tup [.non, .ref p20, .ref p21, .ref p22, .ref p23, .ref p24, .ref p25, .ref p26, .ref p27, .str "00", .ref p28]) := upd_same
    have t29 : Same H28 (upd H28 p29 (.tup [.non, .ref p20, .ref p21, .ref p22, .ref p23, .ref p24, .ref p25, .ref p26, .ref p27, .str "00", .ref p28])) := same_upd n29
    have hB : ∀ x ∈ ([.non, .ref p20, .ref p21, .ref p22, .ref p23, .ref p24, .ref p25, .ref p26, .ref p27, .str "00", .ref p28] : List V), BadS K (upd H28 p29 (.tup [.non, .ref p20, .ref p21, .ref p22, .ref p23, .ref p24, .ref p25, .ref p26, .ref p27, .str "00", .ref p28])) [3, 2] x := by
      intro x hx
      refine BadS.same ?_ t29
      simp only [List.mem_cons, List.not_mem_nil, or_false] at hx
      rcases hx with rfl | rfl | rfl | rfl | rfl | rfl | rfl | rfl | rfl | rfl | rfl
      · exact .inl noList_non
      all_goals first | assumption | exact .inl (noList_str _)
    generalize upd H28 p29 (.tup [.non, .ref p20, .ref p21, .ref p22, .ref p23, .ref p24, .ref p25, .ref p26, .ref p27, .str "00", .ref p28]) = H29 at hX hB t29 ⊢
    replace tt := tt.trans t29
    generalize ([.non, .ref p20, .ref p21, .ref p22, .ref p23, .ref p24, .ref p25, .ref p26, .ref p27, .str "00", .ref p28] : List V) = zs at hX hB ⊢
    refine ⟨p29, rfl, ⟨_, SqT.of hX⟩, ?_⟩
    replace hD : Dues K PT H29 dd d0 d1 d2 d3 := hD.same ((((((((((t20).trans t21).trans t22).trans t23).trans t24).trans t25).trans t26).trans t27).trans t28).trans t29)
    refine for_tup (K := K) (a := p29) (xs := zs) (fun j σ H4 => ∃ y4 : Option V, σ = [some (.ref dd), some (.int far), y2, y3, y4] ∧ Same H29 H4) ⟨none, rfl, Same.refl H29⟩ (fun j σ H4 _ ⟨_, _, s4⟩ => SqT.of (s4 _ _ hX)) ?_ ?_
    · rintro j x σ H4 hx ⟨y4, rfl, s4⟩
      refine ⟨(by show 2 ≤ sizeLine; decide), fun a na => ?_⟩
      have s5 : Same H4 (upd H4 a (.lst [.int 3, .int 2])) := same_upd na
      have hS : SqL K (upd H4 a (.lst [.int 3, .int 2])) a (([3, 2] : List Int).map V.int) := SqL.of upd_same
      generalize upd H4 a (.lst [.int 3, .int 2]) = H5 at s5 hS ⊢
      refine ⟨_, rfl, f_ring_number, fd4, _, _, _, _, rfl, kp4, b4, F4, fun Q2 E2 hE => ?_⟩
      refine ⟨a, x, [3, 2], rfl, (hD.same (s4.trans s5)).tb, hS, sizes_32, (by decide), (by decide), (hB x (List.mem_of_getElem? hx)).same (s4.trans s5), fun H6 s6 => hE _ _ _ ⟨CS, _, _, _, _, _, rfl, rfl, KS.T, KS.e, fun q1 H7 s7 nq hq => ?_⟩⟩
      have v7 : Same H29 H7 := ((s4.trans s5).trans s6).trans s7
      refine ⟨_, rfl, dd, _, _, _, rfl, rfl, (hD.same v7).l, at_of (j := 1) rfl rfl, six_ne (SqL.of hq) (hD.same v7).e1 ⟨_, rfl, ?_⟩⟩
      exact ⟨_, rfl, v7⟩
    · rintro σ H30 ⟨y4, rfl, s30⟩
      exact q _ (tt.trans s30)
end
end Ww
/-! texts repeated, tuples of lists -/
namespace Ww
open PySem PySem.Spec PyProof.Rows L2
section
variable {X : Cx}
theorem tupleK (K : PySem.W.Frag) (h : X.K = K := by rfl) : CallR X (.type "tuple") (fun xs H Q => ∃ p ys, xs = [.ref p] ∧ ((SqL K H p ys ∧ ∀ l, H l = none → Q (.ref l) (upd H l (.tup ys))) ∨ (SqT K H p ys ∧ Q (.ref p) H))) := by subst h; exact call_tuple_of
/-- a sign, so many times -/
def repS (z : Str) (n : Nat) : Str := ⟨(List.replicate n z.cps).foldl (· ++ ·) #[]⟩
theorem rep_size (a : Array Nat) : ∀ (k : Nat) (acc : Array Nat), ((List.replicate k a).foldl (· ++ ·) acc).size = acc.size + k * a.size
  | 0, acc => by simp
  | k + 1, acc => by
    rw [List.replicate_succ, List.foldl_cons, rep_size a k, Array.size_append, Nat.succ_mul]
    omega
theorem op_repS : OpR X (binaryOp .Mult) (fun x y H Q => ∃ (z : Str) (n : Nat), x = .str z ∧ y = .int n ∧ 2 ≤ n ∧ n ≤ 100000 ∧ z.length = 1 ∧ Q (.str (repS z n)) H) := by
  intro pins s σ H x y v u Q I rx ry h
  obtain ⟨z, n, rfl, rfl, h2, hn, hz, q⟩ := h
  obtain ⟨t, rfl⟩ := rx
  obtain ⟨t', rfl⟩ := ry
  refine P.mul_str ?_ (fun _ _ => ?_) (fun _ _ => ?_) ?_
  · rw [decide_eq_false (by omega), decide_eq_false (by omega)]
    rfl
  · rw [hz]
    have h1 : (1 : Int) ≤ (2 ^ 63 - 1) / (n : Int) := by
      rw [Int.le_ediv_iff_mul_le (by omega)]
      omega
    intro c
    omega
  · rw [hz, Nat.one_mul, Int.toNat_natCast]
    have h1 := le_line hn
    show decide (n > sizeLine) = false
    exact decide_eq_false (by omega)
  · rw [if_neg (by omega), if_neg]
    · rw [Int.toNat_natCast]
      refine ⟨?_, ⟨.str (repS z n), H, I.tok _, ⟨_, rfl⟩, q⟩⟩
      show ((List.replicate n z.cps).foldl (· ++ ·) #[]).size ≤ sizeLine
      have e : z.cps.size = 1 := hz
      rw [rep_size, e]
      exact le_line (by show 0 + n * 1 ≤ 100000; omega)
    · rw [hz]
      intro c
      have : ((n : Int) == 1) = false := by
        rw [beq_eq_false_iff_ne]
        omega
      rw [this] at c
      exact absurd c (by decide)
/-- the rest by a positive number: some number from 0 to below it -/
def rModF : R2 := fun x y H Q => ∃ i j : Int, x = .int i ∧ y = .int j ∧ 0 < j ∧ ∀ z : Int, 0 ≤ z → z < j → Q (.int z) H
theorem op_modF : OpR X (binaryOp .Mod) rModF := by
  intro pins s σ H x y v u Q I rx ry h
  obtain ⟨i, j, rfl, rfl, hj, q⟩ := h
  exact op_mod pins s σ H _ _ v u Q I rx ry ⟨i, j, rfl, rfl, hj, q _ (Int.emod_nonneg _ (by omega)) (Int.emod_lt_of_pos _ hj)⟩
end
theorem cut_around {xs : List V} {z : Int} (y : V) (h0 : 0 ≤ z) (h1 : z < xs.length) : cutV xs none (some z) ++ [y] ++ cutV xs (some (z + 1)) none = xs.set z.toNat y := by
  obtain ⟨k, rfl⟩ : ∃ k : Nat, z = (k : Int) := ⟨z.toNat, by omega⟩
  have h2 : k < xs.length := by omega
  have e : ((k : Int) + 1) = ((k + 1 : Nat) : Int) := rfl
  rw [e, cut_to, cut_from, Int.toNat_natCast, List.set_eq_take_append_cons_drop, if_pos h2, List.append_assoc]
  rfl
theorem all_rep (n : Nat) : (List.replicate n true).all id = true := by
  induction n with
  | zero => rfl
  | succ n ih => rw [List.replicate_succ, List.all_cons, ih]; rfl
theorem rep_len (n : Nat) (y : V) : ((List.replicate n [y]).flatten : List V).length = n := by
  induction n with
  | zero => rfl
  | succ n ih => rw [List.replicate_succ, List.flatten_cons, List.length_append, ih]; show 1 + n = n + 1; omega
/-- what is written of one wheel of 10 ^ 60 - 1 sizes, at its first number -/
def sp_written60 (K : PySem.W.Frag) : Sp := fun vs H Q _ => ∃ a b : Addr, vs = [.ref a, .ref b] ∧ SqL K H a [.int (10 ^ 60 - 1)] ∧ SqL K H b [.int 0] ∧ ∀ H' : Hp, Same H H' → Q (.str (repS "9" 60 ++ ": 0")) H'
end Ww
/-! law 6: refusals -/
namespace Ww
open PySem PySem.Spec PyProof.Rows L2 L2H
section
variable {P : Program} {w : World} {K : PySem.W.Frag} {mg : Str → Option Value} {base : Heap}
def sp_law (K : PySem.W.Frag) (PT : Addr) : Sp := fun vs H Q _ => ∃ (a : Addr) (ns : List Int), vs = [.ref a] ∧ GxR.TabG H PT ∧ SqL K H a (ns.map V.int) ∧ ns.length ≤ 63 ∧ ∀ H', Q (.bl true) H'
/-- the six truths that are due of the class counted j -/
def dueV (j : Int) : List V := [.bl (decide (j = 0)), .bl (decide (j = 1)), .bl (decide (j = 2)), .bl (decide (j = 3)), .bl false, .bl true]
theorem ok_law {f0 : Addr} {fd0 : FuncData} {PT CW CS CN CR CT CE : Addr} (D : At K mg "law" s_law ["_law_script"] f0 fd0) (B : Bi mg)
    (KW : KindsE K CW CW CS CN CR CT CE true false false false false) (KN : KindsE K CN CW CS CN CR CT CE false false true false false)
    (G_law_cell_at : Ok P w K mg base "_law_cell_at" ["_law_script", "_law_k"] 1 (sp_cell_at K)) (G_law_wheels : Ok P w K mg base "_law_wheels" ["_law_script"] 2 (sp_wheels K)) (G_law_setting : Ok P w K mg base "_law_setting" ["_law_script", "_law_wheels_here", "_law_by"] 2 (sp_setting K)) (G_law_count : Ok P w K mg base "_law_count" ["_law_wheels_here"] 1 (sp_count K))
    (R1 : OkX P w K mg base "_law_with_wheels" ["_law_door", "_law_wheels_here"] 13 (sp_with_wheels K CW)) (R2 : OkX P w K mg base "_law_with_number" ["_law_wheels_here", "_law_number"] 13 (sp_bad_count K CN))
    (G_law_told : Ok P w K mg base "_law_told" ["_law_ask", "_law_one", "_law_other"] 14 (sp_told P w K mg base 13 CW CS CN CR CT CE)) (G_law_settings_refused : Ok P w K mg base "_law_settings_refused" ["_law_wheels_here", "_law_setting_here", "_law_bad", "_law_due"] 14 (sp_settings_refused K))
    (G_law_rings_right : Ok P w K mg base "_law_rings_right" ["_law_due", "_law_far_here"] 15 (sp_rings_right K PT)) (G_written : Ok P w K mg base "written" ["wheels", "setting"] 12 (sp_written60 K)) : FnOk P w K mg base CX0 16 f0 fd0 ["_law_script"] (sp_law K PT) := by
  refine D.ok sc_law (fun vs H Q E h => ?_) (fun cdv A outer s H vs Q E hr h => ?_)
  · obtain ⟨a, ns, rfl, _⟩ := h
    rfl
  · obtain ⟨a, ns, rfl, hT, hS, hlen, q⟩ := h
    obtain ⟨f_law_with_wheels, fd1, g_law_with_wheels, kp1, b1, F1⟩ := R1.ex
    obtain ⟨f_law_with_number, fd2, g_law_with_number, kp2, b2, F2⟩ := R2.ex
    refine ⟨_, (pss_cons (ps_set (i := 1) sc_law.nd rfl (.inl rfl) (pe_op op_modF (pe_ok G_law_cell_at hr (by decide) (pa_cons (pv 0) (pa_cons pe_int pa_nil))) (pe_op op_pow pe_int pe_int)))
      (pss_cons (ps_set (i := 2) sc_law.nd rfl (.inr rfl) (pe_lst pa_nil))
      (pss_cons (ps_for PassesOwn.never rfl (pi_range1 (by rfl) B.range (pa_cons pe_int pa_nil)) (pg_name (i := 3) sc_law.nd rfl (.inl rfl))
        (pss_one (ps_expr (pe_bm PySem.F.plainAttrs_list PySem.F.slot_list_append PySem.F.type_list_append mt_append (pv 2) (pa_cons (pe_lst (pa_cons (pe_cmpR op_eq (pv 3) pe_int (nomark _)) (pa_cons (pe_cmpR op_eq (pv 3) pe_int (nomark _)) (pa_cons (pe_cmpR op_eq (pv 3) pe_int (nomark _)) (pa_cons (pe_cmpR op_eq (pv 3) pe_int (nomark _)) (pa_cons pe_bl (pa_cons pe_bl pa_nil))))))) pa_nil)))))
      (pss_cons (ps_set (i := 4) sc_law.nd rfl (.inl rfl) (pe_ok G_law_wheels hr (by decide) (pa_cons (pv 0) pa_nil)))
      (pss_cons (ps_par (i := 5) (j := 6) (by rfl) sc_law.nd rfl rfl (by decide) rfl rfl (pa_cons (pe_ok G_law_setting hr (by decide) (pa_cons (pv 0) (pa_cons (pv 4) (pa_cons pe_int pa_nil)))) (pa_cons (pe_callB (lenK K) (by rfl) B.len PySem.boot_len (pa_cons (pv 4) pa_nil)) pa_nil)) (by rfl))
      (pss_cons (ps_set (i := 7) sc_law.nd rfl (.inl rfl) (pe_lst (pa_cons (pe_callTy (listK K) (by rfl) B.list boot_list (pa_cons (pv 4) pa_nil)) (pa_cons (pe_callTy (listK K) (by rfl) B.list boot_list (pa_cons (pv 5) pa_nil)) pa_nil))))
      (pss_cons (ps_set (i := 8) sc_law.nd rfl (.inl rfl) (pe_lst (pa_cons pe_non (pa_cons (pe_tup pa_nil) (pa_cons (pe_tup (pa_cons pe_int pa_nil)) (pa_cons pe_str (pa_cons pe_dnewK (pa_cons pe_int (pa_cons (pe_lst (pa_cons pe_int pa_nil)) (pa_cons (pe_lst (pa_cons (pe_un un_neg pe_int) pa_nil)) (pa_cons (pe_lst (pa_cons (pe_op op_sub (pe_un un_neg pe_int) (pv 1)) pa_nil)) (pa_cons (pe_lst (pa_cons pe_bl pa_nil)) (pa_cons (pe_lst (pa_cons pe_str pa_nil)) (pa_cons (pe_lst (pa_cons pe_non pa_nil)) (pa_cons (pe_lst (pa_cons (pe_lst (pa_cons pe_int pa_nil)) pa_nil)) (pa_cons (pe_lst (pa_cons pe_int (pa_cons pe_int pa_nil))) (pa_cons (pe_lst (pa_cons pe_int (pa_cons pe_int (pa_cons pe_non pa_nil)))) pa_nil)))))))))))))))))
      (pss_cons (ps_for PassesOwn.never rfl (pi_range3 (by rfl) B.range (pa_cons pe_int (pa_cons (pv 6) (pa_cons (pe_op op_add pe_int (pe_op op_fdiv (pv 6) pe_int)) pa_nil)))) (pg_name (i := 9) sc_law.nd rfl (.inl rfl))
        (pss_one (ps_expr (pe_bm PySem.F.plainAttrs_list PySem.F.slot_list_append PySem.F.type_list_append mt_append (pv 8) (pa_cons (pe_op op_cat (pe_op op_cat (pe_slice (slL K) (pv 4) po_none (po_some (pv 9))) (pe_lst (pa_cons (pe_ix (ixT K) (pe_tup (pa_cons pe_non (pa_cons pe_str (pa_cons pe_bl (pa_cons pe_int (pa_cons (pe_op op_sub (pe_un un_neg pe_int) (pv 1)) pa_nil)))))) (pe_op op_modF (pv 9) pe_int) (fun _ _ => rfl)) pa_nil))) (pe_slice (slL K) (pv 4) (po_some (pe_op op_add (pv 9) pe_int)) po_none)) pa_nil)))))
      (pss_cons (ps_for PassesOwn.never rfl (pi_range1 (by rfl) B.range (pa_cons pe_int pa_nil)) (pg_name (i := 10) sc_law.nd rfl (.inr rfl))
        (pss_one (ps_if (pt_not (pt_val (pe_callB (allK K rfl) (by rfl) B.all (by decide +kernel) (pa_cons (pe_lc (own := [("_law_thing", 16)]) (g := gName 16) (tt := tYes) rfl sc_law.nd (pi_list (pv 8)) (blkOk_by (own := [("_law_thing", 16)]) (N := ["_law_script", "_law_far_here", "_law_due", "_law_k", "_law_wheels_here", "_law_setting_here", "_law_size", "_law_kept", "_law_bad", "_law_at", "_law_door", "_law_some", "_law_strange", "_law_whole_here", "_law_number", "_law_great", "_law_thing"]) (sc := defScope s_law) (by decide +kernel)) (fun _ _ _ _ _ => pg_name (i := 16) sc_law.nd rfl (.inl rfl)) (fun _ _ _ _ _ => pts_nil) (fun _ _ _ _ _ => (pe_cmpR (eqDK K hr.units) (pe_ok G_law_told hr (by decide) (pa_cons (pe_glob (by rfl) g_law_with_wheels (v := .ref f_law_with_wheels) rfl) (pa_cons (pv 10) (pa_cons (pv 16) pa_nil)))) (pe_ix (ixL K) (pv 2) pe_int (fun _ _ => rfl)) (nomark _)))) pa_nil))))
          (pss_one (ps_ret pe_bl))
          pss_nil)))
      (pss_cons (ps_set (i := 11) sc_law.nd rfl (.inl rfl) (pe_lst (pa_cons pe_non (pa_cons (pe_callTy (tupleK K) (by rfl) B.tuple boot_tuple (pa_cons (pv 5) pa_nil)) (pa_cons pe_str (pa_cons pe_dnewK (pa_cons pe_int (pa_cons (pe_op op_cat (pv 5) (pe_lst (pa_cons pe_int pa_nil))) (pa_cons (pe_op op_rep (pe_lst (pa_cons pe_non pa_nil)) (pe_op op_add (pv 6) pe_int)) pa_nil)))))))))
      (pss_cons (ps_for PassesOwn.never rfl (pi_range3 (by rfl) B.range (pa_cons pe_int (pa_cons (pv 6) (pa_cons (pe_op op_add pe_int (pe_op op_fdiv (pv 6) pe_int)) pa_nil)))) (pg_name (i := 9) sc_law.nd rfl (.inl rfl))
        (pss_cons (ps_set (i := 12) sc_law.nd rfl (.inl rfl) (pe_ix (ixT K) (pe_tup (pa_cons pe_non (pa_cons pe_str (pa_cons pe_bl (pa_cons (pe_op op_add (pe_ix (ixL K) (pv 4) (pv 9) (fun _ _ => rfl)) (pv 1)) (pa_cons (pe_op op_sub (pe_un un_neg pe_int) (pv 1)) (pa_cons (pe_ix (ixL K) (pv 4) (pv 9) (fun _ _ => rfl)) (pa_cons (pe_un un_neg pe_int) pa_nil)))))))) (pe_op op_modF (pv 9) pe_int) (fun _ _ => rfl)))
        (pss_one (ps_expr (pe_bm PySem.F.plainAttrs_list PySem.F.slot_list_append PySem.F.type_list_append mt_append (pv 11) (pa_cons (pe_op op_cat (pe_op op_cat (pe_slice (slL K) (pv 5) po_none (po_some (pv 9))) (pe_lst (pa_cons (pv 12) pa_nil))) (pe_slice (slL K) (pv 5) (po_some (pe_op op_add (pv 9) pe_int)) po_none)) pa_nil))))))
      (pss_cons (ps_if (pt_not (pt_val (pe_ok G_law_settings_refused hr (by decide) (pa_cons (pv 4) (pa_cons (pv 5) (pa_cons (pv 11) (pa_cons (pe_ix (ixL K) (pv 2) pe_int (fun _ _ => rfl)) pa_nil)))))))
        (pss_one (ps_ret pe_bl))
        pss_nil)
      (pss_cons (ps_set (i := 13) sc_law.nd rfl (.inl rfl) (pe_ok G_law_count hr (by decide) (pa_cons (pv 4) pa_nil)))
      (pss_cons (ps_for PassesOwn.never rfl (pi_tup (pe_tup (pa_cons pe_non (pa_cons pe_str (pa_cons pe_bl (pa_cons (pe_lst (pa_cons pe_int pa_nil)) (pa_cons (pe_un un_neg pe_int) (pa_cons (pe_op op_sub (pe_un un_neg pe_int) (pv 1)) (pa_cons (pv 13) (pa_cons (pe_op op_add (pv 13) (pv 1)) pa_nil)))))))))) (pg_name (i := 14) sc_law.nd rfl (.inl rfl))
        (pss_one (ps_if (pt_cmpR (neDK K hr.units) (pe_ok G_law_told hr (by decide) (pa_cons (pe_glob (by rfl) g_law_with_number (v := .ref f_law_with_number) rfl) (pa_cons (pv 4) (pa_cons (pv 14) pa_nil)))) (pe_ix (ixL K) (pv 2) pe_int (fun _ _ => rfl)) (nomark _))
          (pss_one (ps_ret pe_bl))
          pss_nil)))
      (pss_cons (ps_for PassesOwn.never rfl (pi_tup (pe_tup (pa_cons (pe_lst (pa_cons (pe_op op_pow pe_int pe_int) pa_nil)) (pa_cons (pe_lst (pa_cons pe_int (pa_cons (pe_op op_add (pe_op op_pow pe_int pe_int) (pv 1)) pa_nil))) pa_nil)))) (pg_name (i := 15) sc_law.nd rfl (.inl rfl))
        (pss_one (ps_if (pt_cmpR (neDK K hr.units) (pe_ok G_law_told hr (by decide) (pa_cons (pe_glob (by rfl) g_law_with_wheels (v := .ref f_law_with_wheels) rfl) (pa_cons pe_int (pa_cons (pv 15) pa_nil)))) (pe_ix (ixL K) (pv 2) pe_int (fun _ _ => rfl)) (nomark _))
          (pss_one (ps_ret pe_bl))
          pss_nil)))
      (pss_one (ps_ret (pe_and (pe_cmpR (eqDK K hr.units) (pe_lst (pa_cons (pv 4) (pa_cons (pv 5) pa_nil))) (pv 7) (nomark _)) (pe_and (pe_ok G_law_rings_right hr (by decide) (pa_cons (pv 2) (pa_cons (pv 1) pa_nil))) (pe_one (pe_cmpR op_eq (pe_ok G_written hr (by decide) (pa_cons (pe_lst (pa_cons (pe_op op_sub (pe_op op_pow pe_int pe_int) pe_int) pa_nil)) (pa_cons (pe_lst (pa_cons pe_int pa_nil)) pa_nil))) (pe_op op_add_str (pe_op op_repS pe_str pe_int) pe_str) (nomark _)))))))))))))))))))))), ?_⟩
    -- far
    refine ⟨_, rfl, a, ns, 0, rfl, hS, fun cl => ?_⟩
    refine ⟨_, _, rfl, rfl, ⟨by decide, by decide, by decide⟩, _, _, rfl, rfl, (show (0 : Int) < 10 ^ Int.toNat 6 by decide), fun far hf0 hf1 => ?_⟩
    replace hf1 : far < 1000000 := hf1
    -- what is due
    refine ⟨Nat.zero_le _, fun o no => ?_⟩
    refine ⟨4, rfl, (by decide), (by decide), ?_⟩
    refine for_range (lo := 0) (fun i σ H3 => ∃ (ds : List Addr) (y3 : Option V), σ = [some (.ref a), some (.int far), some (.ref o), y3, none, none, none, none, none, none, none, none, none, none, none, none, none] ∧ ds.length = i ∧ Same H H3 ∧ H3 o = some (.lst (ds.map V.ref)) ∧ ∀ (j : Nat) (d : Addr), ds[j]? = some d → d ≠ o ∧ H3 d = some (.lst (dueV j)))
      ⟨[], none, rfl, rfl, same_upd no, upd_same, (fun j d h => by cases h)⟩ ?_ ?_
    · rintro i σ H3 hi ⟨ds, y3, rfl, el, s3, eo, hds⟩
      refine ⟨_, rfl, .inl ⟨rfl, _, SqL.of eo⟩, _, rfl, rfl, _, rfl, rfl, _, rfl, rfl, _, rfl, rfl, (by show 6 ≤ sizeLine; decide), fun d nd => ?_⟩
      have ndo : d ≠ o := (ne_of_none eo nd).symm
      refine ⟨o, _, _, rfl, rfl, (same_upd nd) _ _ eo, (by rw [List.length_map]; exact lt_line (by omega)), ds ++ [d], _, rfl, (by rw [List.length_append, el]; rfl), fun c u e => ?_, (by rw [upd_same, List.map_append]; rfl), fun j d' hj => ?_⟩
      · rw [upd_ne (ne_of_none e no)]
        exact (s3.trans (same_upd nd)) _ _ e
      · by_cases hjl : j < ds.length
        · rw [List.getElem?_append_left hjl] at hj
          obtain ⟨h1, h2⟩ := hds j d' hj
          refine ⟨h1, ?_⟩
          rw [upd_ne h1]
          exact (same_upd nd) _ _ h2
        · have hj2 := (List.getElem?_eq_some_iff.mp hj).1
          rw [List.length_append] at hj2
          have hj3 : j < ds.length + 1 := hj2
          have ej : j = ds.length := by omega
          subst ej
          have ed : d = d' := by
            rw [List.getElem?_append_right (Nat.le_refl _), Nat.sub_self] at hj
            exact Option.some.inj hj
          subst ed
          refine ⟨ndo, ?_⟩
          rw [upd_ne ndo, upd_same, dec_int1, dec_int1, dec_int1, dec_int1, Int.zero_add, ← el]
          rfl
    rintro σ H3 ⟨ds, y3, rfl, el, s3, eo, hds⟩
    obtain ⟨d0, d1, d2, d3, rfl⟩ : ∃ d0 d1 d2 d3 : Addr, ds = [d0, d1, d2, d3] := by
      match ds, el with
      | [d0, d1, d2, d3], _ => exact ⟨d0, d1, d2, d3, rfl⟩
    have hD : Dues K PT H3 o d0 d1 d2 d3 := ⟨s3.tab hT, SqL.of eo, SqL.of (hds 0 d0 rfl).2, SqL.of (hds 1 d1 rfl).2, SqL.of (hds 2 d2 rfl).2, SqL.of (hds 3 d3 rfl).2⟩
    clear eo hds el
    replace hS := s3.seq hS
    clear s3
    -- the wheels, a setting
    refine ⟨_, rfl, a, ns, rfl, hS, hlen, fun ws b H4 hs ew s4 nb eb => ?_⟩
    have hl : ws.length ≤ 63 := by omega
    have ho := hs.ones
    replace hD := hD.same s4
    refine ⟨_, rfl, _, rfl, a, b, ns, ws, 4, rfl, s4.seq hS, SqL.of eb, (by omega), (by omega), ho, fun st c H5 hst s5 nc ec => ?_⟩
    have hlst : st.length = ws.length := okS_len hst
    replace eb := s5 _ _ eb
    replace hD := hD.same s5
    refine ⟨_, rfl, b, _, rfl, .inl (SqL.of eb), ?_⟩
    rw [List.length_map]
    refine ⟨_, _, rfl, ?_⟩
    -- kept
    refine ⟨_, rfl, b, _, rfl, .inl (SqL.of eb), fun p1 n1 => ?_⟩
    have t1 : Same H5 (upd H5 p1 (.lst (ws.map V.int))) := same_upd n1
    have e1 : upd H5 p1 (.lst (ws.map V.int)) p1 = some (.lst (ws.map V.int)) := upd_same
    generalize upd H5 p1 (.lst (ws.map V.int)) = H6 at t1 e1 ⊢
    refine ⟨_, rfl, c, _, rfl, .inl (SqL.of (t1 _ _ ec)), fun p2 n2 => ?_⟩
    have t2 : Same H6 (upd H6 p2 (.lst (st.map V.int))) := same_upd n2
    have e2 : upd H6 p2 (.lst (st.map V.int)) p2 = some (.lst (st.map V.int)) := upd_same
    generalize upd H6 p2 (.lst (st.map V.int)) = H7 at t2 e2 ⊢
    refine ⟨(by show 2 ≤ sizeLine; decide), fun kp nk => ?_⟩
    have t3 : Same H7 (upd H7 kp (.lst [.ref p1, .ref p2])) := same_upd nk
    have ek : upd H7 kp (.lst [.ref p1, .ref p2]) kp = some (.lst [.ref p1, .ref p2]) := upd_same
    generalize upd H7 kp (.lst [.ref p1, .ref p2]) = H8 at t3 ek ⊢
    have t18 : Same H5 H8 := (t1.trans t2).trans t3
    replace eb := t18 _ _ eb
    replace ec := t18 _ _ ec
    replace e1 := (t2.trans t3) _ _ e1
    replace e2 := t3 _ _ e2
    replace hD := hD.same t18
    clear t18 t1 t2 t3 n1 n2 nk s4 s5 nb nc hS
    -- what are no wheels
    refine ⟨Nat.zero_le _, fun p10 n10 => ?_⟩
    have t10 : Same H8 (upd H8 p10 (.tup [])) := same_upd n10
    have w10 : BadW K (upd H8 p10 (.tup [])) (.ref p10) := .inl (noList_tup (xs := []) upd_same)
    generalize upd H8 p10 (.tup []) = H10 at t10 w10 ⊢
    refine ⟨(by show 1 ≤ sizeLine; decide), fun p11 n11 => ?_⟩
    have t11 : Same H10 (upd H10 p11 (.tup [.int 2])) := same_upd n11
    have w11 : BadW K (upd H10 p11 (.tup [.int 2])) (.ref p11) := .inl (noList_tup (xs := [.int 2]) upd_same)
    generalize upd H10 p11 (.tup [.int 2]) = H11 at t11 w11 ⊢
    replace w10 := w10.same t11
    refine fun p12 n12 => ?_
    have t12 : Same H11 (upd H11 p12 (.dK [])) := same_upd n12
    have w12 : BadW K (upd H11 p12 (.dK [])) (.ref p12) := .inl (noList_dict upd_same)
    generalize upd H11 p12 (.dK []) = H12 at t12 w12 ⊢
    replace w10 := w10.same t12
    replace w11 := w11.same t12
    refine ⟨(by show 1 ≤ sizeLine; decide), fun p13 n13 => ?_⟩
    have t13 : Same H12 (upd H12 p13 (.lst [.int 0])) := same_upd n13
    have w13 : BadW K (upd H12 p13 (.lst [.int 0])) (.ref p13) := badw_ints [0] (SqL.of upd_same) ⟨0, List.mem_cons_self, by decide⟩
    generalize upd H12 p13 (.lst [.int 0]) = H13 at t13 w13 ⊢
    replace w10 := w10.same t13
    replace w11 := w11.same t13
    replace w12 := w12.same t13
    refine ⟨_, rfl, (by show 1 ≤ sizeLine; decide), fun p14 n14 => ?_⟩
    have t14 : Same H13 (upd H13 p14 (.lst [.int (-1)])) := same_upd n14
    have w14 : BadW K (upd H13 p14 (.lst [.int (-1)])) (.ref p14) := badw_ints [-1] (SqL.of upd_same) ⟨-1, List.mem_cons_self, by decide⟩
    generalize upd H13 p14 (.lst [.int (-1)]) = H14 at t14 w14 ⊢
    replace w10 := w10.same t14
    replace w11 := w11.same t14
    replace w12 := w12.same t14
    replace w13 := w13.same t14
    refine ⟨_, rfl, _, rfl, _, _, rfl, rfl, (by show 1 ≤ sizeLine; decide), fun p15 n15 => ?_⟩
    have t15 : Same H14 (upd H14 p15 (.lst [.int (-1 - far)])) := same_upd n15
    have w15 : BadW K (upd H14 p15 (.lst [.int (-1 - far)])) (.ref p15) := badw_ints [-1 - far] (SqL.of upd_same) ⟨-1 - far, List.mem_cons_self, by omega⟩
    generalize upd H14 p15 (.lst [.int (-1 - far)]) = H15 at t15 w15 ⊢
    replace w10 := w10.same t15
    replace w11 := w11.same t15
    replace w12 := w12.same t15
    replace w13 := w13.same t15
    replace w14 := w14.same t15
    refine ⟨(by show 1 ≤ sizeLine; decide), fun p16 n16 => ?_⟩
    have t16 : Same H15 (upd H15 p16 (.lst [.bl true])) := same_upd n16
    have w16 : BadW K (upd H15 p16 (.lst [.bl true])) (.ref p16) := badw_one (SqL.of upd_same) (noInt_bl _)
    generalize upd H15 p16 (.lst [.bl true]) = H16 at t16 w16 ⊢
    replace w10 := w10.same t16
    replace w11 := w11.same t16
    replace w12 := w12.same t16
    replace w13 := w13.same t16
    replace w14 := w14.same t16
    replace w15 := w15.same t16
    refine ⟨(by show 1 ≤ sizeLine; decide), fun p17 n17 => ?_⟩
    have t17 : Same H16 (upd H16 p17 (.lst [.str "2"])) := same_upd n17
    have w17 : BadW K (upd H16 p17 (.lst [.str "2"])) (.ref p17) := badw_one (SqL.of upd_same) (noInt_str _)
    generalize upd H16 p17 (.lst [.str "2"]) = H17 at t17 w17 ⊢
    replace w10 := w10.same t17
    replace w11 := w11.same t17
    replace w12 := w12.same t17
    replace w13 := w13.same t17
    replace w14 := w14.same t17
    replace w15 := w15.same t17
    replace w16 := w16.same t17
    refine ⟨(by show 1 ≤ sizeLine; decide), fun p18 n18 => ?_⟩
    have t18 : Same H17 (upd H17 p18 (.lst [.non])) := same_upd n18
    have w18 : BadW K (upd H17 p18 (.lst [.non])) (.ref p18) := badw_one (SqL.of upd_same) noInt_non
    generalize upd H17 p18 (.lst [.non]) = H18 at t18 w18 ⊢
    replace w10 := w10.same t18
    replace w11 := w11.same t18
    replace w12 := w12.same t18
    replace w13 := w13.same t18
    replace w14 := w14.same t18
    replace w15 := w15.same t18
    replace w16 := w16.same t18
    replace w17 := w17.same t18
    refine ⟨(by show 1 ≤ sizeLine; decide), fun p19 n19 => ?_⟩
    have t19 : Same H18 (upd H18 p19 (.lst [.int 2])) := same_upd n19
    have e19 : upd H18 p19 (.lst [.int 2]) p19 = some (.lst [.int 2]) := upd_same
    generalize upd H18 p19 (.lst [.int 2]) = H19 at t19 e19 ⊢
    replace w10 := w10.same t19
    replace w11 := w11.same t19
    replace w12 := w12.same t19
    replace w13 := w13.same t19
    replace w14 := w14.same t19
    replace w15 := w15.same t19
    replace w16 := w16.same t19
    replace w17 := w17.same t19
    replace w18 := w18.same t19
    refine ⟨(by show 1 ≤ sizeLine; decide), fun p20 n20 => ?_⟩
    have t20 : Same H19 (upd H19 p20 (.lst [.ref p19])) := same_upd n20
    have w20 : BadW K (upd H19 p20 (.lst [.ref p19])) (.ref p20) := badw_one (SqL.of upd_same) (noInt_list (xs := [.int 2]) (SqL.of ((same_upd n20) _ _ e19)))
    generalize upd H19 p20 (.lst [.ref p19]) = H20 at t20 w20 ⊢
    replace w10 := w10.same t20
    replace w11 := w11.same t20
    replace w12 := w12.same t20
    replace w13 := w13.same t20
    replace w14 := w14.same t20
    replace w15 := w15.same t20
    replace w16 := w16.same t20
    replace w17 := w17.same t20
    replace w18 := w18.same t20
    refine ⟨(by show 2 ≤ sizeLine; decide), fun p21 n21 => ?_⟩
    have t21 : Same H20 (upd H20 p21 (.lst [.int 2, .int 0])) := same_upd n21
    have w21 : BadW K (upd H20 p21 (.lst [.int 2, .int 0])) (.ref p21) := badw_ints [2, 0] (SqL.of upd_same) ⟨0, List.mem_cons_of_mem _ List.mem_cons_self, by decide⟩
    generalize upd H20 p21 (.lst [.int 2, .int 0]) = H21 at t21 w21 ⊢
    replace w10 := w10.same t21
    replace w11 := w11.same t21
    replace w12 := w12.same t21
    replace w13 := w13.same t21
    replace w14 := w14.same t21
    replace w15 := w15.same t21
    replace w16 := w16.same t21
    replace w17 := w17.same t21
    replace w18 := w18.same t21
    replace w20 := w20.same t21
    refine ⟨(by show 3 ≤ sizeLine; decide), fun p22 n22 => ?_⟩
    have t22 : Same H21 (upd H21 p22 (.lst [.int 2, .int 3, .non])) := same_upd n22
    have w22 : BadW K (upd H21 p22 (.lst [.int 2, .int 3, .non])) (.ref p22) := badw_mix (SqL.of upd_same) cl23 (List.mem_cons_of_mem _ (List.mem_cons_of_mem _ List.mem_cons_self)) noInt_non
    generalize upd H21 p22 (.lst [.int 2, .int 3, .non]) = H22 at t22 w22 ⊢
    replace w10 := w10.same t22
    replace w11 := w11.same t22
    replace w12 := w12.same t22
    replace w13 := w13.same t22
    replace w14 := w14.same t22
    replace w15 := w15.same t22
    replace w16 := w16.same t22
    replace w17 := w17.same t22
    replace w18 := w18.same t22
    replace w20 := w20.same t22
    replace w21 := w21.same t22
    have t22 : Same H8 H22 := ((((((((((((t10).trans t11).trans t12).trans t13).trans t14).trans t15).trans t16).trans t17).trans t18).trans t19).trans t20).trans t21).trans t22
    replace eb := t22 _ _ eb
    replace ec := t22 _ _ ec
    replace e1 := t22 _ _ e1
    replace e2 := t22 _ _ e2
    replace ek := t22 _ _ ek
    replace hD := hD.same t22
    have hB : ∀ x ∈ ([.non, .ref p10, .ref p11, .str "2", .ref p12, .int 2, .ref p13, .ref p14, .ref p15, .ref p16, .ref p17, .ref p18, .ref p20, .ref p21, .ref p22] : List V), BadW K H22 x := by
      intro x hx
      simp only [List.mem_cons, List.not_mem_nil, or_false] at hx
      rcases hx with rfl | rfl | rfl | rfl | rfl | rfl | rfl | rfl | rfl | rfl | rfl | rfl | rfl | rfl | rfl
      · exact .inl noList_non
      · exact w10
      · exact w11
      · exact .inl (noList_str _)
      · exact w12
      · exact .inl (noList_int _)
      all_goals assumption
    clear t10 t11 t12 t13 t14 t15 t16 t17 t18 t19 t20 t21 t22 w10 w11 w12 w13 w14 w15 w16 w17 w18 w20 w21 w22
    refine ⟨(by show 15 ≤ sizeLine; decide), fun bd nbd => ?_⟩
    have hl0 : ([.non, .ref p10, .ref p11, .str "2", .ref p12, .int 2, .ref p13, .ref p14, .ref p15, .ref p16, .ref p17, .ref p18, .ref p20, .ref p21, .ref p22] : List V).length ≤ 15 := by show 15 ≤ 15; decide
    have fB : ∃ xs0 : List V, xs0.length ≤ 15 ∧ (∀ x ∈ xs0, BadW K H22 x) ∧ upd H22 bd (.lst [.non, .ref p10, .ref p11, .str "2", .ref p12, .int 2, .ref p13, .ref p14, .ref p15, .ref p16, .ref p17, .ref p18, .ref p20, .ref p21, .ref p22]) bd = some (.lst xs0) ∧ Same H22 (upd H22 bd (.lst [.non, .ref p10, .ref p11, .str "2", .ref p12, .int 2, .ref p13, .ref p14, .ref p15, .ref p16, .ref p17, .ref p18, .ref p20, .ref p21, .ref p22])) := ⟨_, hl0, hB, upd_same, same_upd nbd⟩
    generalize upd H22 bd (.lst [.non, .ref p10, .ref p11, .str "2", .ref p12, .int 2, .ref p13, .ref p14, .ref p15, .ref p16, .ref p17, .ref p18, .ref p20, .ref p21, .ref p22]) = H23 at fB ⊢
    clear hl0 hB
    obtain ⟨xs0, hl0, hB, ebd, t23⟩ := fB
    -- wheels with one size that is none
    obtain ⟨N, hN, hN63, hNi⟩ := rng6 hl
    refine ⟨_, rfl, _, rfl, _, _, rfl, rfl, ⟨by decide, by decide⟩, _, _, rfl, rfl, _, _, _, N, rfl, hN, ?_⟩
    refine for_rangeC (fun i σ H => ∃ (xs : List V) (y9 : Option V), σ = [some (.ref a), some (.int far), some (.ref o), y3, some (.ref b), some (.ref c), some (.int ws.length), some (.ref kp), some (.ref bd), y9, none, none, none, none, none, none, none] ∧ xs.length ≤ 15 + i ∧ Same H22 (off H bd) ∧ H bd = some (.lst xs) ∧ ∀ x ∈ xs, BadW K (off H bd) x)
      ⟨xs0, none, rfl, hl0, same_off t23 nbd, ebd, fun x hx => (hB x hx).same (same_off t23 nbd)⟩ ?_ ?_
    · rintro i σ H24 hi ⟨xs, y9, rfl, hxl, s24, ebx, hbx⟩
      obtain ⟨hz0, hz1⟩ := hNi i hi
      have eb24 := (s24.trans off_same) _ _ eb
      generalize 0 + (i : Int) * (1 + (ws.length : Int) / 6) = z at hz0 hz1 ⊢
      refine ⟨_, rfl, .inl ⟨rfl, _, SqL.of ebx⟩, _, rfl, _, rfl, _, rfl, b, _, rfl, SqL.of eb24, fun u1 m1 => ?_⟩
      have r1 : Same H24 (upd H24 u1 (.lst (cutV (ws.map V.int) none (some z)))) := same_upd m1
      have w1 : upd H24 u1 (.lst (cutV (ws.map V.int) none (some z))) u1 = some (.lst (cutV (ws.map V.int) none (some z))) := upd_same
      generalize upd H24 u1 (.lst (cutV (ws.map V.int) none (some z))) = J1 at r1 w1 ⊢
      refine ⟨_, rfl, _, rfl, _, _, rfl, rfl, (by show 5 ≤ sizeLine; decide), fun u2 m2 => ?_⟩
      have r2 : Same J1 (upd J1 u2 (.tup ([.non, .str "1", .bl true, .int 0, .int (-1 - far)]))) := same_upd m2
      have w2 : upd J1 u2 (.tup ([.non, .str "1", .bl true, .int 0, .int (-1 - far)])) u2 = some (.tup ([.non, .str "1", .bl true, .int 0, .int (-1 - far)])) := upd_same
      generalize upd J1 u2 (.tup ([.non, .str "1", .bl true, .int 0, .int (-1 - far)])) = J2 at r2 w2 ⊢
      refine ⟨_, rfl, _, _, rfl, rfl, (by show (0 : Int) < 5; decide), fun m h0 h1 => ?_⟩
      obtain ⟨y, hy, hyb⟩ := pick5 (K := K) hf0 h0 h1
      refine ⟨u2, _, _, y, rfl, rfl, SqT.of w2, at_of (j := m.toNat) (by omega) hy, (by show 1 ≤ sizeLine; decide), fun u3 m3 => ?_⟩
      have r3 : Same J2 (upd J2 u3 (.lst ([y]))) := same_upd m3
      have w3 : upd J2 u3 (.lst ([y])) u3 = some (.lst ([y])) := upd_same
      generalize upd J2 u3 (.lst ([y])) = J3 at r3 w3 ⊢
      refine ⟨u1, u3, _, _, rfl, rfl, (r2.trans r3) _ _ w1, w3, ?_, fun u4 m4 => ?_⟩
      · have z1 := cutV_length (ws.map V.int) none (some z)
        rw [List.length_map] at z1
        exact le_line (by show _ + 1 ≤ 100000; omega)
      have r4 : Same J3 (upd J3 u4 (.lst (cutV (ws.map V.int) none (some z) ++ [y]))) := same_upd m4
      have w4 : upd J3 u4 (.lst (cutV (ws.map V.int) none (some z) ++ [y])) u4 = some (.lst (cutV (ws.map V.int) none (some z) ++ [y])) := upd_same
      generalize upd J3 u4 (.lst (cutV (ws.map V.int) none (some z) ++ [y])) = J4 at r4 w4 ⊢
      have r14 := ((r1.trans r2).trans r3).trans r4
      refine ⟨_, rfl, _, rfl, _, _, rfl, rfl, _, rfl, b, _, rfl, SqL.of (r14 _ _ eb24), fun u5 m5 => ?_⟩
      have r5 : Same J4 (upd J4 u5 (.lst (cutV (ws.map V.int) (some (z + 1)) none))) := same_upd m5
      have w5 : upd J4 u5 (.lst (cutV (ws.map V.int) (some (z + 1)) none)) u5 = some (.lst (cutV (ws.map V.int) (some (z + 1)) none)) := upd_same
      generalize upd J4 u5 (.lst (cutV (ws.map V.int) (some (z + 1)) none)) = J5 at r5 w5 ⊢
      refine ⟨u4, u5, _, _, rfl, rfl, r5 _ _ w4, w5, ?_, fun u6 m6 => ?_⟩
      · have z1 := cutV_length (ws.map V.int) none (some z)
        have z2 := cutV_length (ws.map V.int) (some (z + 1)) none
        rw [List.length_map] at z1 z2
        rw [List.length_append]
        exact le_line (by show _ + 1 + _ ≤ 100000; omega)
      rw [cut_around y hz0 (by rw [List.length_map]; exact hz1)]
      have r6 : Same J5 (upd J5 u6 (.lst ((ws.map V.int).set z.toNat y))) := same_upd m6
      have w6 : upd J5 u6 (.lst ((ws.map V.int).set z.toNat y)) u6 = some (.lst ((ws.map V.int).set z.toNat y)) := upd_same
      generalize upd J5 u6 (.lst ((ws.map V.int).set z.toNat y)) = J6 at r6 w6 ⊢
      have r16 := (r14.trans r5).trans r6
      have ne6 : u6 ≠ bd := (ne_of_none ((r14.trans r5) _ _ ebx) m6).symm
      refine ⟨bd, _, _, rfl, rfl, r16 _ _ ebx, lt_line (by omega), xs ++ [.ref u6], _, rfl, (by rw [List.length_append]; show xs.length + 1 ≤ _; omega), ?_, upd_same, fun x hx => ?_⟩
      · rw [off_upd]
        exact s24.trans (off_mono r16)
      · rw [off_upd]
        rcases List.mem_append.mp hx with hx | hx
        · exact (hbx x hx).same (off_mono r16)
        · rw [List.mem_singleton.mp hx]
          exact badw_set (ws := ws) (k := z.toNat) (by omega) (SqL.of (off_of w6 ne6)) hyb
    rintro σ H25 ⟨xs, y9, rfl, hxl, s25, ebx, hbx⟩
    replace hbx := fun x hx => (hbx x hx).same off_same
    have t25 : Same H22 H25 := s25.trans off_same
    replace eb := t25 _ _ eb
    replace ec := t25 _ _ ec
    replace e1 := t25 _ _ e1
    replace e2 := t25 _ _ e2
    replace ek := t25 _ _ ek
    replace hD := hD.same t25
    clear t25 s25 t23 hB ebd hl0 nbd
    -- no wheels at each door
    refine ⟨9, rfl, (by decide), (by decide), ?_⟩
    refine for_range (lo := 0) (fun i σ H => ∃ y10 : Option V, σ = [some (.ref a), some (.int far), some (.ref o), y3, some (.ref b), some (.ref c), some (.int ws.length), some (.ref kp), some (.ref bd), y9, y10, none, none, none, none, none, none] ∧ Same H25 H)
      ⟨none, rfl, Same.refl H25⟩ ?_ ?_
    · rintro i σ H26 hi ⟨y10, rfl, s26⟩
      refine ⟨_, rfl, bd, rfl, ⟨_, SqL.of (s26 _ _ ebx)⟩, fun D1 nD => ?_⟩
      refine lc_list (K := K) (a := bd) (xs := xs) (fun j H => Same H26 H ∧ H D1 = some (.lst ((List.replicate j true).map V.bl))) ⟨same_upd nD, upd_same⟩ (fun j H _ h => SqL.of (h.1 _ _ (s26 _ _ ebx))) ?_ ?_
      · rintro j x H27 hx ⟨s27, eD⟩
        have v27 := s26.trans s27
        refine ⟨rfl, _, rfl, _, rfl, f_law_with_wheels, fd1, _, _, _, _, rfl, kp1, b1, F1, fun Q2 E2 hE => ?_⟩
        refine ⟨0 + (i : Int), x, rfl, .inl ((hbx x (List.mem_of_getElem? hx)).same v27), fun H28 s28 => hE _ _ _ ⟨CW, _, _, _, _, _, rfl, rfl, KW.T, KW.e, fun q1 H29 s29 nq hq => ?_⟩⟩
        have u29 : Same H27 H29 := s28.trans s29
        have v29 : Same H25 H29 := v27.trans u29
        refine ⟨_, rfl, o, _, _, _, rfl, rfl, (hD.same v29).l, at_of (j := 0) rfl rfl, six_eq (SqL.of hq) (hD.same v29).e0 ?_⟩
        have hj : j < xs.length := (List.getElem?_eq_some_iff.mp hx).1
        refine ⟨_, u29 _ _ eD, ?_, ?_, ?_⟩
        · rw [List.length_map, List.length_replicate]; exact lt_line (by omega)
        · intro c u e
          rw [upd_ne (ne_of_none e nD)]
          exact (s27.trans u29) _ _ e
        · rw [upd_same, List.replicate_succ', List.map_append]
          rfl
      · rintro H27 ⟨s27, eD⟩
        refine ⟨D1, _, rfl, SqL.of eD, _, rfl, ?_⟩
        rw [all_rep]
        exact ⟨_, rfl, s26.trans s27⟩
    rintro σ H30 ⟨y10, rfl, s30⟩
    replace eb := s30 _ _ eb
    replace ec := s30 _ _ ec
    replace e1 := s30 _ _ e1
    replace e2 := s30 _ _ e2
    replace ek := s30 _ _ ek
    replace hD := hD.same s30
    replace ebx := s30 _ _ ebx
    clear s30 hbx hxl
    -- what are no settings
    refine ⟨_, rfl, c, _, rfl, .inl ⟨SqL.of ec, fun p40 n40 => ?_⟩⟩
    have t40 : Same H30 (upd H30 p40 (.tup (st.map V.int))) := same_upd n40
    have w40 : BadS K (upd H30 p40 (.tup (st.map V.int))) ws (.ref p40) := .inl (noList_tup (xs := st.map V.int) upd_same)
    generalize upd H30 p40 (.tup (st.map V.int)) = H40 at t40 w40 ⊢
    refine fun p41 n41 => ?_
    have t41 : Same H40 (upd H40 p41 (.dK ([]))) := same_upd n41
    have w41 : BadS K (upd H40 p41 (.dK ([]))) ws (.ref p41) := .inl (noList_dict upd_same)
    generalize upd H40 p41 (.dK ([])) = H41 at t41 w41 ⊢
    replace w40 := w40.same t41
    refine ⟨_, rfl, (by show 1 ≤ sizeLine; decide), fun p42 n42 => ?_⟩
    have t42 : Same H41 (upd H41 p42 (.lst ([.int 0]))) := same_upd n42
    have w42 : (upd H41 p42 (.lst ([.int 0]))) p42 = some (.lst ([.int 0])) := upd_same
    generalize upd H41 p42 (.lst ([.int 0])) = H42 at t42 w42 ⊢
    replace w40 := w40.same t42
    replace w41 := w41.same t42
    refine ⟨c, p42, _, _, rfl, rfl, ((t40.trans t41).trans t42) _ _ ec, w42, (by rw [List.length_map]; exact le_line (by show st.length + 1 ≤ _; omega)), fun p43 n43 => ?_⟩
    have t43 : Same H42 (upd H42 p43 (.lst (st.map V.int ++ [.int 0]))) := same_upd n43
    have w43 : BadS K (upd H42 p43 (.lst (st.map V.int ++ [.int 0]))) ws (.ref p43) := bads_len (SqL.of upd_same) (by rw [List.length_append, List.length_map]; show st.length + 1 ≠ _; omega)
    generalize upd H42 p43 (.lst (st.map V.int ++ [.int 0])) = H43 at t43 w43 ⊢
    replace w40 := w40.same t43
    replace w41 := w41.same t43
    refine ⟨(by show 1 ≤ sizeLine; decide), fun p44 n44 => ?_⟩
    have t44 : Same H43 (upd H43 p44 (.lst ([.non]))) := same_upd n44
    have w44 : (upd H43 p44 (.lst ([.non]))) p44 = some (.lst ([.non])) := upd_same
    generalize upd H43 p44 (.lst ([.non])) = H44 at t44 w44 ⊢
    replace w40 := w40.same t44
    replace w41 := w41.same t44
    replace w43 := w43.same t44
    have eN : ((ws.length : Int) + 1).toNat = ws.length + 1 := by omega
    refine ⟨_, rfl, _, _, rfl, rfl, p44, _, [.non], rfl, rfl, w44, (by omega), (by omega), (by rw [eN]; exact le_line (by show 1 * (ws.length + 1) ≤ 100000; omega)), fun p45 n45 => ?_⟩
    rw [eN]
    have t45 : Same H44 (upd H44 p45 (.lst ((List.replicate (ws.length + 1) [V.non]).flatten))) := same_upd n45
    have w45 : BadS K (upd H44 p45 (.lst ((List.replicate (ws.length + 1) [V.non]).flatten))) ws (.ref p45) := bads_len (SqL.of upd_same) (by rw [rep_len]; omega)
    generalize upd H44 p45 (.lst ((List.replicate (ws.length + 1) [V.non]).flatten)) = H45 at t45 w45 ⊢
    replace w40 := w40.same t45
    replace w41 := w41.same t45
    replace w43 := w43.same t45
    have t45' : Same H30 H45 := ((((t40.trans t41).trans t42).trans t43).trans t44).trans t45
    replace eb := t45' _ _ eb
    replace ec := t45' _ _ ec
    replace e1 := t45' _ _ e1
    replace e2 := t45' _ _ e2
    replace ek := t45' _ _ ek
    replace hD := hD.same t45'
    have hB : ∀ x ∈ ([.non, .ref p40, .str "0", .ref p41, .int 0, .ref p43, .ref p45] : List V), BadS K H45 ws x := by
      intro x hx
      simp only [List.mem_cons, List.not_mem_nil, or_false] at hx
      rcases hx with rfl | rfl | rfl | rfl | rfl | rfl | rfl
      · exact .inl noList_non
      · exact w40
      · exact .inl (noList_str _)
      · exact w41
      · exact .inl (noList_int _)
      · exact w43
      · exact w45
    clear t45' t40 t41 t42 t43 t44 t45 w40 w41 w42 w43 w44 w45
    refine ⟨(by show 7 ≤ sizeLine; decide), fun sm nsm => ?_⟩
    have hl0 : ([.non, .ref p40, .str "0", .ref p41, .int 0, .ref p43, .ref p45] : List V).length ≤ 15 := by show 7 ≤ 15; decide
    have fB : ∃ xs0 : List V, xs0.length ≤ 15 ∧ (∀ x ∈ xs0, BadS K H45 ws x) ∧ upd H45 sm (.lst [.non, .ref p40, .str "0", .ref p41, .int 0, .ref p43, .ref p45]) sm = some (.lst xs0) ∧ Same H45 (upd H45 sm (.lst [.non, .ref p40, .str "0", .ref p41, .int 0, .ref p43, .ref p45])) := ⟨_, hl0, hB, upd_same, same_upd nsm⟩
    generalize upd H45 sm (.lst [.non, .ref p40, .str "0", .ref p41, .int 0, .ref p43, .ref p45]) = H46 at fB ⊢
    clear hl0 hB xs0
    obtain ⟨xs0, hl0, hB, ebd, t46⟩ := fB
    -- settings with one number that is none
    clear hNi hN
    obtain ⟨N2, hN2, hN63', hNi⟩ := rng6 hl
    refine ⟨_, rfl, _, rfl, _, _, rfl, rfl, ⟨by decide, by decide⟩, _, _, rfl, rfl, _, _, _, N2, rfl, hN2, ?_⟩
    refine for_rangeC (fun i σ H => ∃ (xs : List V) (y9 y12 : Option V), σ = [some (.ref a), some (.int far), some (.ref o), y3, some (.ref b), some (.ref c), some (.int ws.length), some (.ref kp), some (.ref bd), y9, y10, some (.ref sm), y12, none, none, none, none] ∧ xs.length ≤ 15 + i ∧ Same H45 (off H sm) ∧ H sm = some (.lst xs) ∧ ∀ x ∈ xs, BadS K (off H sm) ws x)
      ⟨xs0, y9, none, rfl, hl0, same_off t46 nsm, ebd, fun x hx => (hB x hx).same (same_off t46 nsm)⟩ ?_ ?_
    · rintro i σ H24 hi ⟨xs, y9, y12, rfl, hxl, s24, ebx, hbx⟩
      obtain ⟨hz0, hz1⟩ := hNi i hi
      have eb24 := (s24.trans off_same) _ _ eb
      have ec24 := (s24.trans off_same) _ _ ec
      generalize 0 + (i : Int) * (1 + (ws.length : Int) / 6) = z at hz0 hz1 ⊢
      obtain ⟨sz, hsz⟩ : ∃ sz : Int, ws[z.toNat]? = some sz := ⟨_, List.getElem?_eq_getElem (show z.toNat < ws.length by omega)⟩
      have gz : (ws.map V.int)[z.toNat]? = some (.int sz) := at_map_int hsz
      refine ⟨_, rfl, _, rfl, b, _, _, _, rfl, rfl, SqL.of eb24, at_of (j := z.toNat) (by omega) gz, _, rfl, _, _, rfl, rfl, _, rfl, _, rfl, _, _, rfl, rfl, _, rfl, _, rfl, b, _, _, _, rfl, rfl, SqL.of eb24, at_of (j := z.toNat) (by omega) gz, _, rfl, (by show 7 ≤ sizeLine; decide), fun u2 m2 => ?_⟩
      have r2 : Same H24 (upd H24 u2 (.tup ([.non, .str "0", .bl true, .int (sz + far), .int (-1 - far), .int sz, .int (-1)]))) := same_upd m2
      have w2 : upd H24 u2 (.tup ([.non, .str "0", .bl true, .int (sz + far), .int (-1 - far), .int sz, .int (-1)])) u2 = some (.tup ([.non, .str "0", .bl true, .int (sz + far), .int (-1 - far), .int sz, .int (-1)])) := upd_same
      generalize upd H24 u2 (.tup ([.non, .str "0", .bl true, .int (sz + far), .int (-1 - far), .int sz, .int (-1)])) = J2 at r2 w2 ⊢
      refine ⟨_, rfl, _, _, rfl, rfl, (by show (0 : Int) < 7; decide), fun m h0 h1 => ?_⟩
      obtain ⟨y, hy, hyb⟩ := pick7 (K := K) (s := sz) hf0 h0 h1
      refine ⟨u2, _, _, y, rfl, rfl, SqT.of w2, at_of (j := m.toNat) (by omega) hy, ?_⟩
      refine ⟨_, rfl, .inl ⟨rfl, _, SqL.of (r2 _ _ ebx)⟩, _, rfl, _, rfl, _, rfl, c, _, rfl, SqL.of (r2 _ _ ec24), fun u1 m1 => ?_⟩
      have r1 : Same J2 (upd J2 u1 (.lst (cutV (st.map V.int) none (some z)))) := same_upd m1
      have w1 : upd J2 u1 (.lst (cutV (st.map V.int) none (some z))) u1 = some (.lst (cutV (st.map V.int) none (some z))) := upd_same
      generalize upd J2 u1 (.lst (cutV (st.map V.int) none (some z))) = J1 at r1 w1 ⊢
      refine ⟨_, rfl, (by show 1 ≤ sizeLine; decide), fun u3 m3 => ?_⟩
      have r3 : Same J1 (upd J1 u3 (.lst ([y]))) := same_upd m3
      have w3 : upd J1 u3 (.lst ([y])) u3 = some (.lst ([y])) := upd_same
      generalize upd J1 u3 (.lst ([y])) = J3 at r3 w3 ⊢
      refine ⟨u1, u3, _, _, rfl, rfl, r3 _ _ w1, w3, ?_, fun u4 m4 => ?_⟩
      · have z1 := cutV_length (st.map V.int) none (some z)
        rw [List.length_map] at z1
        exact le_line (by show _ + 1 ≤ 100000; omega)
      have r4 : Same J3 (upd J3 u4 (.lst (cutV (st.map V.int) none (some z) ++ [y]))) := same_upd m4
      have w4 : upd J3 u4 (.lst (cutV (st.map V.int) none (some z) ++ [y])) u4 = some (.lst (cutV (st.map V.int) none (some z) ++ [y])) := upd_same
      generalize upd J3 u4 (.lst (cutV (st.map V.int) none (some z) ++ [y])) = J4 at r4 w4 ⊢
      have r14 := ((r2.trans r1).trans r3).trans r4
      refine ⟨_, rfl, _, rfl, _, _, rfl, rfl, _, rfl, c, _, rfl, SqL.of (r14 _ _ ec24), fun u5 m5 => ?_⟩
      have r5 : Same J4 (upd J4 u5 (.lst (cutV (st.map V.int) (some (z + 1)) none))) := same_upd m5
      have w5 : upd J4 u5 (.lst (cutV (st.map V.int) (some (z + 1)) none)) u5 = some (.lst (cutV (st.map V.int) (some (z + 1)) none)) := upd_same
      generalize upd J4 u5 (.lst (cutV (st.map V.int) (some (z + 1)) none)) = J5 at r5 w5 ⊢
      refine ⟨u4, u5, _, _, rfl, rfl, r5 _ _ w4, w5, ?_, fun u6 m6 => ?_⟩
      · have z1 := cutV_length (st.map V.int) none (some z)
        have z2 := cutV_length (st.map V.int) (some (z + 1)) none
        rw [List.length_map] at z1 z2
        rw [List.length_append]
        exact le_line (by show _ + 1 + _ ≤ 100000; omega)
      rw [cut_around y hz0 (by rw [List.length_map]; omega)]
      have r6 : Same J5 (upd J5 u6 (.lst ((st.map V.int).set z.toNat y))) := same_upd m6
      have w6 : upd J5 u6 (.lst ((st.map V.int).set z.toNat y)) u6 = some (.lst ((st.map V.int).set z.toNat y)) := upd_same
      generalize upd J5 u6 (.lst ((st.map V.int).set z.toNat y)) = J6 at r6 w6 ⊢
      have r16 := (r14.trans r5).trans r6
      have ne6 : u6 ≠ sm := (ne_of_none ((r14.trans r5) _ _ ebx) m6).symm
      refine ⟨sm, _, _, rfl, rfl, r16 _ _ ebx, lt_line (by omega), xs ++ [.ref u6], _, _, rfl, (by rw [List.length_append]; show xs.length + 1 ≤ _; omega), ?_, upd_same, fun x hx => ?_⟩
      · rw [off_upd]
        exact s24.trans (off_mono r16)
      · rw [off_upd]
        rcases List.mem_append.mp hx with hx | hx
        · exact (hbx x hx).same (off_mono r16)
        · rw [List.mem_singleton.mp hx]
          exact bads_set hlst hsz (SqL.of (off_of w6 ne6)) hyb
    rintro σ H50 ⟨ys, y9', y12, rfl, hyl, s50, eby, hby⟩
    replace hby := fun x hx => (hby x hx).same off_same
    have t50 : Same H45 H50 := s50.trans off_same
    replace eb := t50 _ _ eb
    replace ec := t50 _ _ ec
    replace e1 := t50 _ _ e1
    replace e2 := t50 _ _ e2
    replace ek := t50 _ _ ek
    replace hD := hD.same t50
    clear t50 s50 t46 hB ebd hl0 nsm
    -- the settings refused, the count
    refine ⟨_, rfl, _, rfl, _, rfl, _, rfl, o, _, _, _, rfl, rfl, hD.l, at_of (j := 1) rfl rfl, b, sm, d1, _, ws, ys, rfl, SqL.of eb, ho, hl, sizes_60 hs, SqL.of eby, hby, hD.e1, fun H51 s51 => ⟨_, rfl, ?_⟩⟩
    replace eb := s51 _ _ eb
    replace ec := s51 _ _ ec
    replace e1 := s51 _ _ e1
    replace e2 := s51 _ _ e2
    replace ek := s51 _ _ ek
    replace hD := hD.same s51
    refine ⟨_, rfl, b, ws, rfl, SqL.of eb, hs, (by omega), ?_⟩
    -- what are no numbers
    refine ⟨(by show 1 ≤ sizeLine; decide), fun p60 n60 => ?_⟩
    have t60 : Same H51 (upd H51 p60 (.lst ([.int 0]))) := same_upd n60
    have w60 : BadN K (upd H51 p60 (.lst ([.int 0]))) (prd ws) (.ref p60) := .inl (noInt_list (xs := [.int 0]) (SqL.of upd_same))
    generalize upd H51 p60 (.lst ([.int 0])) = H60 at t60 w60 ⊢
    refine ⟨_, rfl, _, rfl, _, rfl, _, _, rfl, rfl, _, rfl, _, rfl, _, rfl, _, _, rfl, rfl, (by show 8 ≤ sizeLine; decide), fun p61 n61 => ?_⟩
    have hX : upd H60 p61 (.tup [.non, .str "0", .bl true, .ref p60, .int (-1), .int (-1 - far), .int (prd ws), .int (prd ws + far)]) p61 = some (.tup [.non, .str "0", .bl true, .ref p60, .int (-1), .int (-1 - far), .int (prd ws), .int (prd ws + far)]) := upd_same
    have t61 : Same H60 (upd H60 p61 (.tup [.non, .str "0", .bl true, .ref p60, .int (-1), .int (-1 - far), .int (prd ws), .int (prd ws + far)])) := same_upd n61
    have hB : ∀ x ∈ ([.non, .str "0", .bl true, .ref p60, .int (-1), .int (-1 - far), .int (prd ws), .int (prd ws + far)] : List V), BadN K (upd H60 p61 (.tup [.non, .str "0", .bl true, .ref p60, .int (-1), .int (-1 - far), .int (prd ws), .int (prd ws + far)])) (prd ws) x := by
      intro x hx
      simp only [List.mem_cons, List.not_mem_nil, or_false] at hx
      rcases hx with rfl | rfl | rfl | rfl | rfl | rfl | rfl | rfl
      · exact .inl noInt_non
      · exact .inl (noInt_str _)
      · exact .inl (noInt_bl _)
      · exact w60.same t61
      · exact .inr ⟨_, rfl, by omega⟩
      · exact .inr ⟨_, rfl, by omega⟩
      · exact .inr ⟨_, rfl, by omega⟩
      · exact .inr ⟨_, rfl, by omega⟩
    generalize upd H60 p61 (.tup [.non, .str "0", .bl true, .ref p60, .int (-1), .int (-1 - far), .int (prd ws), .int (prd ws + far)]) = H61 at hX hB t61 ⊢
    replace t61 := t60.trans t61
    replace eb := t61 _ _ eb
    replace ec := t61 _ _ ec
    replace e1 := t61 _ _ e1
    replace e2 := t61 _ _ e2
    replace ek := t61 _ _ ek
    replace hD := hD.same t61
    clear t60 t61 w60
    generalize ([.non, .str "0", .bl true, .ref p60, .int (-1), .int (-1 - far), .int (prd ws), .int (prd ws + far)] : List V) = zs at hX hB ⊢
    refine ⟨p61, rfl, ⟨_, SqT.of hX⟩, ?_⟩
    refine for_tup (K := K) (a := p61) (xs := zs) (fun i σ H => ∃ y14 : Option V, σ = [some (.ref a), some (.int far), some (.ref o), y3, some (.ref b), some (.ref c), some (.int ws.length), some (.ref kp), some (.ref bd), y9', y10, some (.ref sm), y12, some (.int (prd ws)), y14, none, none] ∧ Same H61 H)
      ⟨none, rfl, Same.refl H61⟩ (fun j σ H4 _ ⟨_, _, s4⟩ => SqT.of (s4 _ _ hX)) ?_ ?_
    · rintro j x σ H4 hx ⟨y14, rfl, s4⟩
      refine ⟨_, rfl, _, rfl, f_law_with_number, fd2, _, _, _, _, rfl, kp2, b2, F2, fun Q2 E2 hE => ?_⟩
      refine ⟨b, x, ws, rfl, SqL.of (s4 _ _ eb), hs, (by omega), (hB x (List.mem_of_getElem? hx)).same s4, hE _ _ _ ⟨CN, _, _, _, _, _, rfl, rfl, KN.T, KN.e, fun q1 H7 s7 nq hq => ?_⟩⟩
      have v7 : Same H61 H7 := s4.trans s7
      refine ⟨_, rfl, o, _, _, _, rfl, rfl, (hD.same v7).l, at_of (j := 2) rfl rfl, six_ne (SqL.of hq) (hD.same v7).e2 ⟨_, rfl, ?_⟩⟩
      exact ⟨_, rfl, v7⟩
    rintro σ H62 ⟨y14, rfl, s62⟩
    replace eb := s62 _ _ eb
    replace ec := s62 _ _ ec
    replace e1 := s62 _ _ e1
    replace e2 := s62 _ _ e2
    replace ek := s62 _ _ ek
    replace hD := hD.same s62
    clear hX hB s62
    -- wheels too great to be written
    refine ⟨_, _, rfl, rfl, ⟨by decide, by decide, by decide⟩, (by show 1 ≤ sizeLine; decide), fun p70 n70 => ?_⟩
    have t70 : Same H62 (upd H62 p70 (.lst ([.int (10 ^ Int.toNat 60)]))) := same_upd n70
    have w70 : Great K (upd H62 p70 (.lst ([.int (10 ^ Int.toNat 60)]))) (.ref p70) := great1 (SqL.of upd_same)
    generalize upd H62 p70 (.lst ([.int (10 ^ Int.toNat 60)])) = H70 at t70 w70 ⊢
    refine ⟨_, _, rfl, rfl, ⟨by decide, by decide, by decide⟩, _, rfl, _, _, rfl, rfl, (by show 2 ≤ sizeLine; decide), fun p71 n71 => ?_⟩
    have t71 : Same H70 (upd H70 p71 (.lst ([.int 2, .int (10 ^ Int.toNat 60 + far)]))) := same_upd n71
    have w71 : Great K (upd H70 p71 (.lst ([.int 2, .int (10 ^ Int.toNat 60 + far)]))) (.ref p71) := great2 hf0 hf1 (SqL.of upd_same)
    generalize upd H70 p71 (.lst ([.int 2, .int (10 ^ Int.toNat 60 + far)])) = H71 at t71 w71 ⊢
    replace w70 := w70.same t71
    refine ⟨(by show 2 ≤ sizeLine; decide), fun p72 n72 => ?_⟩
    have hX : upd H71 p72 (.tup [.ref p70, .ref p71]) p72 = some (.tup [.ref p70, .ref p71]) := upd_same
    have t72 : Same H71 (upd H71 p72 (.tup [.ref p70, .ref p71])) := same_upd n72
    have hB : ∀ x ∈ ([.ref p70, .ref p71] : List V), Great K (upd H71 p72 (.tup [.ref p70, .ref p71])) x := by
      intro x hx
      simp only [List.mem_cons, List.not_mem_nil, or_false] at hx
      rcases hx with rfl | rfl
      · exact w70.same t72
      · exact w71.same t72
    generalize upd H71 p72 (.tup [.ref p70, .ref p71]) = H72 at hX hB t72 ⊢
    replace t72 := (t70.trans t71).trans t72
    replace eb := t72 _ _ eb
    replace ec := t72 _ _ ec
    replace e1 := t72 _ _ e1
    replace e2 := t72 _ _ e2
    replace ek := t72 _ _ ek
    replace hD := hD.same t72
    clear t70 t71 t72 w70 w71
    generalize ([.ref p70, .ref p71] : List V) = vs2 at hX hB ⊢
    refine ⟨p72, rfl, ⟨_, SqT.of hX⟩, ?_⟩
    refine for_tup (K := K) (a := p72) (xs := vs2) (fun i σ H => ∃ y15 : Option V, σ = [some (.ref a), some (.int far), some (.ref o), y3, some (.ref b), some (.ref c), some (.int ws.length), some (.ref kp), some (.ref bd), y9', y10, some (.ref sm), y12, some (.int (prd ws)), y14, y15, none] ∧ Same H72 H)
      ⟨none, rfl, Same.refl H72⟩ (fun j σ H4 _ ⟨_, _, s4⟩ => SqT.of (s4 _ _ hX)) ?_ ?_
    · rintro j x σ H4 hx ⟨y15, rfl, s4⟩
      refine ⟨_, rfl, f_law_with_wheels, fd1, _, _, _, _, rfl, kp1, b1, F1, fun Q2 E2 hE => ?_⟩
      refine ⟨8, x, rfl, .inr ⟨rfl, (hB x (List.mem_of_getElem? hx)).same s4⟩, fun H28 s28 => hE _ _ _ ⟨CW, _, _, _, _, _, rfl, rfl, KW.T, KW.e, fun q1 H7 s7 nq hq => ?_⟩⟩
      have v7 : Same H72 H7 := (s4.trans s28).trans s7
      refine ⟨_, rfl, o, _, _, _, rfl, rfl, (hD.same v7).l, at_of (j := 0) rfl rfl, six_ne (SqL.of hq) (hD.same v7).e0 ⟨_, rfl, ?_⟩⟩
      exact ⟨_, rfl, v7⟩
    rintro σ H80 ⟨y15, rfl, s80⟩
    replace eb := s80 _ _ eb
    replace ec := s80 _ _ ec
    replace e1 := s80 _ _ e1
    replace e2 := s80 _ _ e2
    replace ek := s80 _ _ ek
    replace hD := hD.same s80
    clear hX hB s80
    -- what was handed in, the rings, one text
    refine ⟨_, rfl, _, rfl, (by show 2 ≤ sizeLine; decide), fun p81 n81 => ?_⟩
    have t81 : Same H80 (upd H80 p81 (.lst ([.ref b, .ref c]))) := same_upd n81
    have w81 : (upd H80 p81 (.lst ([.ref b, .ref c]))) p81 = some (.lst ([.ref b, .ref c])) := upd_same
    generalize upd H80 p81 (.lst ([.ref b, .ref c])) = H81 at t81 w81 ⊢
    refine ⟨_, rfl, _, _, dp_rows (L := [(b, ws), (c, st)]) (SqL.of w81) (rows2 (t81 _ _ eb) (t81 _ _ ec)), dp_rows (L := [(p1, ws), (p2, st)]) (SqL.of (t81 _ _ ek)) (rows2 (t81 _ _ e1) (t81 _ _ e2)), shaped_rows [ws, st], shaped_rows [ws, st], ?_⟩
    have er : PyData.eqv (.list (([(b, ws), (c, st)].map (·.2)).map fun r => PyData.list (r.map PyData.int))) (.list (([(p1, ws), (p2, st)].map (·.2)).map fun r => PyData.list (r.map PyData.int))) = true := eqv_refl_rows [ws, st]
    rw [er]
    refine ⟨_, rfl, ?_⟩
    refine ⟨_, rfl, _, rfl, o, d0, d1, d2, d3, far, rfl, hf0, hf1, hD.same t81, fun H82 s82 => ⟨_, rfl, ?_⟩⟩
    refine ⟨_, _, rfl, rfl, ⟨by decide, by decide, by decide⟩, _, _, rfl, rfl, (by show 1 ≤ sizeLine; decide), fun p83 n83 => ?_⟩
    refine ⟨(by show 1 ≤ sizeLine; decide), fun p84 n84 => ?_⟩
    refine ⟨p83, p84, rfl, (same_upd n84).seq (SqL.of upd_same), SqL.of upd_same, fun H85 s85 => ?_⟩
    refine ⟨"9", 60, rfl, rfl, by decide, by decide, rfl, _, _, rfl, rfl, (by decide +kernel), rfl, ?_⟩
    rw [decide_eq_true rfl]
    exact q _
end
end Ww
/-! objects: a method of whatever class the object is of -/
namespace Ww
open PySem PySem.Spec PyProof.Rows L2
/-- o.m(..), the reading tells of which class o is and which def m is -/
def tMethP (P : Program) (w : World) (K : PySem.W.Frag) (mg : Str → Option Value) (base : Heap) (k : Nat) (m : Str) (ta : TE) (t : TA) : TE := fun σ H Q => ta σ H fun x H1 => ∃ (a C dx : Addr) (fs : List (Str × V)) (f : Addr) (fd : FuncData) (ps : List Str) (sp : Sp), x = .ref a ∧ H1 a = some (.ins C dx fs) ∧ fs.lookup m = none ∧
  Cls K C ∧ Meth K C m f ∧ Binds K fd ps [] ∧ FnOk P w K mg base CX0 k f fd ps sp ∧ t σ H1 fun vs H2 => sp (x :: vs) H2 Q E0
theorem pe_methP (P : Program) (w : World) (K : PySem.W.Frag) (mg : Str → Option Value) (base : Heap) {X : Cx} {k j : Nat} {m : Str} {pos apos : Pos} {e o : Expr} {es : List Expr} {ta : TE} {t : TA} {pl : Sem Bool} (he : PE X o ta) (hr : Room j X.A) (hk : k ≤ j) (ha : PA X (e :: es) t)
    (h1 : X.prog = P := by rfl) (h2 : X.w = w := by rfl) (h3 : X.K = K := by rfl) (h4 : X.mg = mg := by rfl) (h5 : X.base = base := by rfl)
    (hst : starEach (e :: es) X.env = (false, eval e X.env) :: starEach es X.env := by rfl) (hpl : (backTo pos (starEach es X.env)).any (·.1) = false := by rfl)
    (ht : eval (.Call (.Attribute o m apos) (e :: es) [] pos) X.env = (do
      let ov ← eval o X.env
      standAt apos.atName
      let (f, first) ← holding [ov] (getMethod ov m pl)
      callWith pos f first (backTo pos (starEach (e :: es) X.env)) (backToKw pos (keywordEach [] X.env))) := by rfl) :
    PE X (.Call (.Attribute o m apos) (e :: es) [] pos) (tMethP P w K mg base k m ta t) := by
  subst h1 h2 h3 h4 h5
  refine ⟨fun pins s σ H Q I h => ?_⟩
  refine PySem.W.methodCall_KW (pl := pl) (thn (he.run pins s σ H _ I h) fun u s1 ⟨x, H1, I1, rx, a, C, dx, fs, f, fd, ps, sp, ex, ea, l, c, hm, b, F, q⟩ => ?_) ht
  subst ex
  obtain rfl : u = Value.ref a := rx
  refine getmeth_ok I1 ea c hm l ?_
  refine PySem.W.callWith_K (first := [.ref a]) (h₀ := X.base) I1.ok.mod.kin hm.kp (thn (ha.run pos pins s1 σ H1 _ I1 q) fun us s2 ⟨vs, H2, I2, r, q2⟩ => ⟨I2.kIn, ?_⟩) hst hpl
  exact run_fn (us := .ref a :: us) (vs := .ref a :: vs) (dvs := []) (ds := []) F (hr.mono hk) b .nil pass0 I2 (.cons rfl r) (by rw [List.append_nil]; exact q2)
/-- a class of the text with no __init__ -/
structure Mk0 (K : PySem.W.Frag) (C : Addr) : Prop where
  makes : PySem.W.makesIn K C = true
  init : PySem.W.findIn K (.ref C) "__init__" = some (some (.builtin "object.__init__"))
  kp : PySem.W.keepIn K (.ref C) = true
def tMakeO (C : Addr) : TE := fun _ H Q => ∀ x dx, H x = none → H dx = none → dx ≠ x → Q (.ref x) (upd (upd H dx (.own x)) x (.ins C dx []))
theorem pe_makeO {X : Cx} {C : Addr} {x : Str} {p pos : Pos} (M : Mk0 X.K C) (hm : X.mg x = some (.ref C)) (hg : Gl X x := by rfl) (hdb : (x == ("__debug__" : Str)) = false := by decide) : PE X (.Call (.Name x p) [] [] pos) (tMakeO C) := by
  refine ⟨fun pins s σ H Q I h => ?_⟩
  refine wpAny_Call_Name_kw (ld_glob I hg hm ?_ hdb)
  refine PySem.W.callWith_K0 I.kIn M.kp ?_
  have I2 := Inv.made (C := C) I
  have hq := h (s.heap.objs.size + 1) s.heap.objs.size (I.hok.fresh (Nat.le_succ _)) (I.hok.fresh (Nat.le_refl _)) (Nat.ne_of_lt (Nat.lt_succ_self _))
  have Y := PySem.W.makes_of (M := model X.prog X.w) I.kIn M.makes
  have kp : ∀ b o, s.heap.get? b = some o → ((s.heap.push PySem.W.emptyDict).push (PySem.W.instObj C s.heap.objs.size)).get? b = some o := fun b o e => Heap.get?_push_of_some _ (Heap.get?_push_of_some _ e)
  have hx : ((s.heap.push PySem.W.emptyDict).push (PySem.W.instObj C s.heap.objs.size)).get? (s.heap.objs.size + 1) = some (PySem.W.instObj C s.heap.objs.size) := by
    have e := Heap.get?_push_size (s.heap.push PySem.W.emptyDict) (o := PySem.W.instObj C s.heap.objs.size) rfl
    rw [Heap.size_push] at e
    exact e
  refine wpAny_call (make_map0 I.kIn M.makes M.init (fun self => PySem.W.Looks.of_pure (PySem.W.oi_bind self)) ?_)
  have t1 : PySem.W.Looks (model X.prog X.w) ((s.heap.push PySem.W.emptyDict).push (PySem.W.instObj C s.heap.objs.size)) (typeOf (.ref (s.heap.objs.size + 1))) (.ref C) := (PySem.W.Looks.ld hx).andThen .now
  have t2 : PySem.W.Looks (model X.prog X.w) ((s.heap.push PySem.W.emptyDict).push (PySem.W.instObj C s.heap.objs.size)) (isInstance (.ref (s.heap.objs.size + 1)) (.type "object")) true := t1.andThen (Y.top.keeps kp)
  refine codeAny_call_builtin PySem.W.oi_plain PySem.W.entry_oi (@PySem.W.check_slot (model X.prog X.w) _ _ _ "object.__init__" "object" "__init__" (.ref (s.heap.objs.size + 1)) [] [] _ PySem.W.oi_kind PySem.W.oi_split t2 (PySem.W.oi_args (.ref (s.heap.objs.size + 1))) ?_)
  rw [PySem.W.oi_run]
  exact wpAny_pure (And.intro rfl ⟨.ref (s.heap.objs.size + 1), _, I2, rfl, hq⟩)
/-- list + list, of any two lists that stand -/
def rCatK (K : PySem.W.Frag) : R2 := fun x y H Q => ∃ l b xs zs, x = .ref l ∧ y = .ref b ∧ SqL K H l xs ∧ SqL K H b zs ∧ xs.length + zs.length ≤ sizeLine ∧ ∀ p, H p = none → Q (.ref p) (upd H p (.lst (xs ++ zs)))
theorem catK {X : Cx} (K : PySem.W.Frag) (h : X.K = K := by rfl) : OpR X (binaryOp .Add) (rCatK K) := by
  subst h
  intro pins s σ H x y v u Q I rx ry h
  obtain ⟨l, b, xs, zs, rfl, rfl, hH, hB, hz, q⟩ := h
  cases rx
  cases ry
  obtain ⟨its, r, ⟨⟨cls, dd, data, sl⟩, n, e, hc, hdn, hd⟩, hlen⟩ := I.list hH
  obtain ⟨its2, r2, ⟨⟨cls2, dd2, data2, sl2⟩, n2, e2, hc2, hdn2, hd2⟩, hlen2⟩ := I.list hB
  simp only at hc hd hc2 hd2
  subst hc hd hc2 hd2
  have l1 := r.length
  have l2 := r2.length
  have ea : its.toArray ++ its2.toArray = (its ++ its2).toArray := by simp
  refine concat_meets ⟨_, e, rfl⟩ ⟨_, e2, rfl⟩ noFill_list_add seq_list_add PySem.F.slot_list_add PySem.F.entry_list_add (PySem.F.args_list_add_2 _ _) (list_addW l b its.toArray its2.toArray n n2 dd dd2 sl sl2 (by rw [List.size_toArray, List.size_toArray]; omega)) ⟨e, e2, ?_⟩
  rw [ea]
  exact ⟨.ref _, _, I.lnew (t' := s.toks) (r.append r2) (by rw [List.length_append]; omega), rfl, q _ I.fresh⟩
theorem catX {X : Cx} : OpR X (binaryOp .Add) (rCatK X.K) := catK X.K
end Ww
/-! answers: what each tells, as an object, asked -/
namespace Ww
open PySem PySem.Spec PyProof.Rows L2
/-- a comprehension over zip of two lists of one length -/
theorem lc_zip {K : PySem.W.Frag} {a b : Addr} {xs ys : List V} {g : TG} {tt : TT} {te : TE} {vs : List Nat} {σ : L2.St} {H1 : Hp} {D : Addr} {Qd : Hp → Prop} (hl : xs.length = ys.length) (Pv : Nat → Hp → Prop) (h0 : Pv 0 (upd H1 D (.lst []))) (hq : ∀ i H, Pv i H → SqL K H a xs ∧ SqL K H b ys)
    (hs : ∀ (i : Nat) (x y : V) (T : Addr) (H : Hp), xs[i]? = some x → ys[i]? = some y → Pv i H → H T = none → g (.ref T) (wipe σ vs) (upd H T (.tup [x, y])) fun σ2 H2 => wipe σ2 vs = wipe σ vs ∧ tt σ2 H2 fun c H3 =>
      if c = true then te σ2 H3 fun y H4 => ∃ acc, H4 D = some (.lst acc) ∧ acc.length < sizeLine ∧ Pv (i + 1) (upd H4 D (.lst (acc ++ [y]))) else Pv (i + 1) H3) (hd : ∀ H, Pv xs.length H → Qd H) :
    ∃ W : Nat → Nat → Hp → Prop, (∃ m, W 0 m (upd H1 D (.lst []))) ∧ ∀ i m H, W i m H →
      ((Itz K a b).stop i H ∧ Qd H) ∨ ((Itz K a b).go i H ∧ ∃ Nx : Hp → Prop, (∀ H', Nx H' → ∃ m', m' < m ∧ W (i + 1) m' H') ∧ ∀ x H', (Itz K a b).yld i H x H' → g x (wipe σ vs) H' fun σ2 H2 => wipe σ2 vs = wipe σ vs ∧ tt σ2 H2 fun c H3 =>
        if c = true then te σ2 H3 fun y H4 => ∃ acc, H4 D = some (.lst acc) ∧ acc.length < sizeLine ∧ Nx (upd H4 D (.lst (acc ++ [y]))) else Nx H3) := by
  refine ⟨fun i m H => m = xs.length - i ∧ i ≤ xs.length ∧ Pv i H, ⟨xs.length, by simp, Nat.zero_le _, h0⟩, ?_⟩
  rintro i m H ⟨rfl, hi, p⟩
  obtain ⟨qx, qy⟩ := hq i H p
  by_cases hlt : i < xs.length
  · have hx : xs[i]? = some xs[i] := List.getElem?_eq_getElem hlt
    have hy : ys[i]? = some (ys[i]'(by omega)) := List.getElem?_eq_getElem (by omega)
    refine .inr ⟨⟨xs, ys, _, _, qx, qy, hx, hy⟩, Pv (i + 1), fun H' p' => ⟨xs.length - (i + 1), by omega, rfl, hlt, p'⟩, fun v H' y => ?_⟩
    obtain ⟨T, x', y', rfl, hT, rfl, f1, f2⟩ := y
    exact hs i x' y' T H (f1 xs qx) (f2 ys qy) p hT
  · have e : i = xs.length := by omega
    subst e
    exact .inl ⟨⟨xs, ys, qx, qy, Or.inl (Nat.le_refl _)⟩, hd H p⟩
/-- what an answer tells -/
inductive Ans
  | around
  | dead (st : List Int)
  | odd
/-- how many wheels can be turned -/
def turn (ws : List Int) : Nat := (ws.filter fun s => decide (1 < s)).length
/-- how many neighbours a setting has, wheel by wheel -/
def way1 (p s : Int) : Int := (if decide (0 < p) then 1 else 0) + (if decide (p + 1 < s) then 1 else 0)
def waysL (st ws : List Int) : List Int := List.zipWith way1 st ws
theorem waysL_more {st ws : List Int} {i : Nat} {p s : Int} (h1 : st[i]? = some p) (h2 : ws[i]? = some s) : (waysL st ws).take (i + 1) = (waysL st ws).take i ++ [way1 p s] := by
  refine take_more ?_
  unfold waysL
  rw [List.getElem?_zipWith, h1, h2]
def shown (ws : List Int) : Ans → Bool
  | .around => decide (prd ws % 2 = 0) && decide (1 < turn ws)
  | .dead st => isB ws st && decide ((waysL st ws).sum < 2)
  | .odd => decide (prd ws % 2 = 1)
/-- an own class as isinstance asks of it -/
structure OCls (K : PySem.W.Frag) (C : Addr) : Prop where
  cl : Cls K C
  ha : PySem.W.findIn K (.ref C) "__class__" = some (some (.builtin "object.__class__"))
  hn : PySem.W.specialIn K (.builtin "object.__class__") "__get__" = some (some (.builtin "getset_descriptor.__get__"))
  ht : PySem.W.takesIn K (.builtin "object.__class__") = some true
  hm : PySem.W.mroIn K C (.type "object") = some true
/-- the three classes told apart -/
structure Three (K : PySem.W.Frag) (CA CD CO : Addr) : Prop where
  a : OCls K CA
  d : OCls K CD
  o : OCls K CO
  aa : PySem.W.kitOne K (.ref CA) (.ref CA) = some true
  ad : PySem.W.kitOne K (.ref CA) (.ref CD) = some false
  ao : PySem.W.kitOne K (.ref CA) (.ref CO) = some false
  da : PySem.W.kitOne K (.ref CD) (.ref CA) = some false
  dd : PySem.W.kitOne K (.ref CD) (.ref CD) = some true
  do_ : PySem.W.kitOne K (.ref CD) (.ref CO) = some false
  oa : PySem.W.kitOne K (.ref CO) (.ref CA) = some false
  od : PySem.W.kitOne K (.ref CO) (.ref CD) = some false
  oo : PySem.W.kitOne K (.ref CO) (.ref CO) = some true
  ns : NoAttr K CD "setting"
/-- the answer at a -/
def AnsAt (K : PySem.W.Frag) (CA CD CO : Addr) (H : Hp) (a : Addr) : Ans → Prop
  | .around => ∃ dx fs, H a = some (.ins CA dx fs)
  | .dead st => ∃ dx fs p, H a = some (.ins CD dx fs) ∧ fs.lookup (("setting" : Str)) = some (V.ref p) ∧ SqL K H p (st.map V.int)
  | .odd => ∃ dx fs, H a = some (.ins CO dx fs)
section
variable {P : Program} {w : World} {K : PySem.W.Frag} {mg : Str → Option Value} {base : Heap}
theorem tyo {H : Hp} {a dx C : Addr} {fs : List (Str × V)} (e : H a = some (.ins C dx fs)) (O : OCls K C) : TyX K H (.ref a) (.ref C) := .base (.ins e O.cl O.ha O.hn O.ht O.hm)
/-- an answer as it was made -/
def AnsNew (CA CD CO : Addr) (H0 H : Hp) (a : Addr) : Ans → Prop
  | .around => ∃ dx fs, H0 a = none ∧ H a = some (.ins CA dx fs) ∧ fs.lookup (("shows" : Str)) = none
  | .dead st => ∃ dx fs p, H0 a = none ∧ H a = some (.ins CD dx fs) ∧ fs.lookup (("shows" : Str)) = none ∧ fs.lookup (("setting" : Str)) = some (V.ref p) ∧ H0 p = none ∧ H p = some (.lst (st.map V.int)) ∧ p ≠ a
  | .odd => ∃ dx fs, H0 a = none ∧ H a = some (.ins CO dx fs) ∧ fs.lookup (("shows" : Str)) = none
theorem AnsNew.at {CA CD CO : Addr} {H0 H : Hp} {a : Addr} {A : Ans} (h : AnsNew CA CD CO H0 H a A) : AnsAt K CA CD CO H a A := by
  cases A with
  | around =>
    obtain ⟨dx, fs, _, h, _⟩ := h
    exact ⟨dx, fs, h⟩
  | dead st =>
    obtain ⟨dx, fs, p, _, h, _, h2, _, h3, _⟩ := h
    exact ⟨dx, fs, p, h, h2, SqL.of h3⟩
  | odd =>
    obtain ⟨dx, fs, _, h, _⟩ := h
    exact ⟨dx, fs, h⟩
theorem AnsNew.same {CA CD CO : Addr} {H0 H H' : Hp} {a : Addr} {A : Ans} (h : AnsNew CA CD CO H0 H a A) (s : Same H H') : AnsNew CA CD CO H0 H' a A := by
  cases A with
  | around =>
    obtain ⟨dx, fs, h0, h, h1⟩ := h
    exact ⟨dx, fs, h0, s _ _ h, h1⟩
  | dead st =>
    obtain ⟨dx, fs, p, h0, h, h1, h2, h3, h4, h5⟩ := h
    exact ⟨dx, fs, p, h0, s _ _ h, h1, h2, h3, s _ _ h4, h5⟩
  | odd =>
    obtain ⟨dx, fs, h0, h, h1⟩ := h
    exact ⟨dx, fs, h0, s _ _ h, h1⟩
/-- around(wheels) -/
def sp_around (K : PySem.W.Frag) (PT CA CD CO : Addr) : Sp := fun vs H Q _ => ∃ (a : Addr) (ws : List Int), vs = [.ref a] ∧ GxR.TabG H PT ∧ SqL K H a (ws.map V.int) ∧ sizes ws ∧ ws.length ≤ 1000 ∧
  ∀ (A : Ans) (p : Addr) (H' : Hp), Same H H' → AnsNew CA CD CO H H' p A → shown ws A = true → (A = .around ↔ ¬ noRing ws) → (∀ st, A = .dead st → st.length = ws.length) → Q (.ref p) H'
/-- the method shows, as each of the three classes has it -/
def tag : Ans → Nat
  | .around => 0
  | .dead _ => 1
  | .odd => 2
def sp_shows (K : PySem.W.Frag) (PT CA CD CO : Addr) (n : Nat) : Sp := fun vs H Q _ => ∃ (a b : Addr) (ws : List Int) (A : Ans), vs = [.ref a, .ref b] ∧ tag A = n ∧ (n = 1 ∨ GxR.TabG H PT) ∧ AnsAt K CA CD CO H a A ∧ (∀ st, A = .dead st → st.length ≤ 1000) ∧ SqL K H b (ws.map V.int) ∧ sizes ws ∧ ws.length ≤ 1000 ∧ ∀ H' : Hp, Same H H' → Q (.bl (shown ws A)) H'
def ShowsOf (P : Program) (w : World) (K : PySem.W.Frag) (mg : Str → Option Value) (base : Heap) (PT CA CD CO : Addr) (n : Nat) (C : Addr) : Prop := ∃ (f : Addr) (fd : FuncData) (ps : List Str), Meth K C "shows" f ∧ Binds K fd ps [] ∧ FnOk P w K mg base CX0 10 f fd ps (sp_shows K PT CA CD CO n)
structure Shows (P : Program) (w : World) (K : PySem.W.Frag) (mg : Str → Option Value) (base : Heap) (PT CA CD CO : Addr) : Prop where
  a : ShowsOf P w K mg base PT CA CD CO 0 CA
  d : ShowsOf P w K mg base PT CA CD CO 1 CD
  o : ShowsOf P w K mg base PT CA CD CO 2 CO
/-- Dead's __init__: the list copied into the field -/
def sp_dead_init (K : PySem.W.Frag) (CD : Addr) : Sp := fun vs H Q _ => ∃ (x dx h : Addr) (st : List Int), vs = [.ref x, .ref h] ∧ H x = some (.ins CD dx []) ∧ SqL K H h (st.map V.int) ∧
  ∀ (fs : List (Str × V)) (p : Addr) (H' : Hp), Same (off H x) (off H' x) → H' x = some (.ins CD dx fs) → fs.lookup (("shows" : Str)) = none → fs.lookup (("setting" : Str)) = some (V.ref p) → H p = none → H' p = some (.lst (st.map V.int)) → Q .non H'
def clsOf (CA CD CO : Addr) : Ans → Addr
  | .around => CA
  | .dead _ => CD
  | .odd => CO
def isA : Ans → Bool
  | .around => true
  | _ => false
def isD : Ans → Bool
  | .dead _ => true
  | _ => false
def isO : Ans → Bool
  | .odd => true
  | _ => false
theorem kitA {CA CD CO : Addr} (T : Three K CA CD CO) : ∀ A : Ans, PySem.W.kitOne K (.ref (clsOf CA CD CO A)) (.ref CA) = some (isA A)
  | .around => T.aa
  | .dead _ => T.da
  | .odd => T.oa
theorem kitD {CA CD CO : Addr} (T : Three K CA CD CO) : ∀ A : Ans, PySem.W.kitOne K (.ref (clsOf CA CD CO A)) (.ref CD) = some (isD A)
  | .around => T.ad
  | .dead _ => T.dd
  | .odd => T.od
theorem kitO {CA CD CO : Addr} (T : Three K CA CD CO) : ∀ A : Ans, PySem.W.kitOne K (.ref (clsOf CA CD CO A)) (.ref CO) = some (isO A)
  | .around => T.ao
  | .dead _ => T.do_
  | .odd => T.oo
theorem oclsA {CA CD CO : Addr} (T : Three K CA CD CO) : ∀ A : Ans, OCls K (clsOf CA CD CO A)
  | .around => T.a
  | .dead _ => T.d
  | .odd => T.o
theorem AnsNew.ob {CA CD CO : Addr} {H0 H : Hp} {a : Addr} {A : Ans} (h : AnsNew CA CD CO H0 H a A) : ∃ dx fs, H a = some (.ins (clsOf CA CD CO A) dx fs) ∧ fs.lookup (("shows" : Str)) = none := by
  cases A with
  | around =>
    obtain ⟨dx, fs, _, h, h1⟩ := h
    exact ⟨dx, fs, h, h1⟩
  | dead st =>
    obtain ⟨dx, fs, p, _, h, h1, _⟩ := h
    exact ⟨dx, fs, h, h1⟩
  | odd =>
    obtain ⟨dx, fs, _, h, h1⟩ := h
    exact ⟨dx, fs, h, h1⟩
theorem tyA {CA CD CO : Addr} (T : Three K CA CD CO) {H0 H : Hp} {a : Addr} {A : Ans} (h : AnsNew CA CD CO H0 H a A) : TyX K H (.ref a) (.ref (clsOf CA CD CO A)) := by
  obtain ⟨dx, fs, e, _⟩ := h.ob
  exact tyo e (oclsA T A)
theorem rd_shows {PT CA CD CO : Addr} (T : Three K CA CD CO) (S : Shows P w K mg base PT CA CD CO) {i : Nat} {σ : L2.St} {H : Hp} {p : Addr} {A : Ans} {Q : VK} {t : TA} (hσ : σ[i]? = some (some (.ref p))) (ho : ∃ dx fs, H p = some (.ins (clsOf CA CD CO A) dx fs) ∧ fs.lookup (("shows" : Str)) = none)
    (h : t σ H fun vs H2 => sp_shows K PT CA CD CO (tag A) (.ref p :: vs) H2 Q E0) : tMethP P w K mg base 10 "shows" (tVar i) t σ H Q := by
  obtain ⟨dx, fs, e, l⟩ := ho
  refine ⟨_, hσ, ?_⟩
  cases A with
  | around =>
    obtain ⟨f, fd, ps, m, b, F⟩ := S.a
    exact ⟨p, _, dx, fs, f, fd, ps, _, rfl, e, l, T.a.cl, m, b, F, h⟩
  | dead st =>
    obtain ⟨f, fd, ps, m, b, F⟩ := S.d
    exact ⟨p, _, dx, fs, f, fd, ps, _, rfl, e, l, T.d.cl, m, b, F, h⟩
  | odd =>
    obtain ⟨f, fd, ps, m, b, F⟩ := S.o
    exact ⟨p, _, dx, fs, f, fd, ps, _, rfl, e, l, T.o.cl, m, b, F, h⟩
end
end Ww
/-! answers.py: how each class shows what it tells -/
namespace Ww
open PySem PySem.Spec PyProof.Rows L2
/-! ### odd sizes -/
theorem odd_mul (a b : Int) : decide (a * b % 2 = 1) = (decide (b % 2 = 1) && decide (a % 2 = 1)) := by
  have ha := Int.emod_emod_of_dvd a (show (2 : Int) ∣ 2 by decide)
  have h1 : a % 2 = 0 ∨ a % 2 = 1 := by omega
  have h2 : b % 2 = 0 ∨ b % 2 = 1 := by omega
  rw [Int.mul_emod]
  rcases h1 with h1 | h1 <;> rcases h2 with h2 | h2 <;> rw [h1, h2] <;> decide
theorem odd_all : ∀ ws : List Int, ws.all (fun z => decide (z % 2 = 1)) = decide (prd ws % 2 = 1)
  | [] => by decide
  | s :: r => by
    rw [List.all_cons, odd_all r]
    exact (odd_mul (prd r) s).symm
theorem odd_turning : ∀ {ws : List Int}, ones ws → (ws.filter fun s => decide (1 < s)).all (fun z => decide (z % 2 = 1)) = ws.all fun z => decide (z % 2 = 1)
  | [], _ => rfl
  | s :: r, ho => by
    have ih := odd_turning (ones_tail ho)
    have h := ones_head ho
    by_cases c : 1 < s
    · rw [List.filter_cons_of_pos (by exact decide_eq_true c), List.all_cons, List.all_cons, ih]
    · have e : s = 1 := by omega
      subst e
      rw [List.filter_cons_of_neg (by decide), List.all_cons, ih]
      rfl
theorem even_odd (n : Int) : decide (n % 2 = 0) = !decide (n % 2 = 1) := by
  have h : n % 2 = 0 ∨ n % 2 = 1 := by omega
  rcases h with h | h <;> rw [h] <;> decide
section
variable {P : Program} {w : World} {K : PySem.W.Frag} {mg : Str → Option Value} {base : Heap}
/-! ### _all_odd -/
/-- the def with its code object c, whose table is at PT -/
structure DfT (K : PySem.W.Frag) (mg : Str → Option Value) (x : Str) (st : Stmt) (ps : List Str) (c : Addr) : Prop where
  ex : ∃ (f : Addr) (oc : Value) (od an : Option Addr) (kV doc pm ct : Value) (osl : Array (Option Value)), K.lookup f = some ⟨oc, od, .func (PySem.W.fnOf x x (defArgs st) (defBody st) (defScope st) .none kV doc pm an (.ref c) ct), osl⟩ ∧ PySem.W.codeIn K (.ref c) x = true ∧
    PySem.W.keepIn K (.ref f) = true ∧ mg x = some (.ref f) ∧ Binds K (PySem.W.fnOf x x (defArgs st) (defBody st) (defScope st) .none kV doc pm an (.ref c) ct) ps []
def sp_all_odd (K : PySem.W.Frag) (PT : Addr) : Sp := fun vs H Q _ => ∃ (a : Addr) (ns : List Int), vs = [.ref a] ∧ GxR.TabG H PT ∧ SqL K H a (ns.map V.int) ∧ ∀ H' : Hp, Same H H' → Q (.bl (ns.all fun z => decide (z % 2 = 1))) H'
theorem ok_all_odd {c PT : Addr} (D : DfT K mg "_all_odd" s_all_odd ["sizes"] c) (TB : GxR.TabB base mg c PT) (B : Bi mg) : Ok P w K mg base "_all_odd" ["sizes"] 1 (sp_all_odd K PT) := by
  obtain ⟨f, oc, od, an, kV, doc, pm, ct, osl, lk, hcd, kp, g, b⟩ := D.ex
  refine ⟨f, _, g, kp, b, fn_of lk hcd sc_all_odd (fun vs H Q E h => ?_) fun A outer s H vs Q E hr h => ?_⟩
  · obtain ⟨a, ns, rfl, _⟩ := h
    rfl
  · obtain ⟨a, ns, rfl, hT, hS, q⟩ := h
    suffices hh : ∃ t, PSs (cxOf CX0 P w K mg base ["sizes"] "_all_odd" (defScope s_all_odd) f (.ref c) A outer s H E).nox (defBody s_all_odd) t ∧ t { nx := fun _ H' => Q .non H', rt := Q } (start ["sizes"] [.ref a]) H by
      obtain ⟨t, h1, h2⟩ := hh
      exact ⟨t, h1.nox, h2⟩
    refine ⟨_, (pss_one (ps_ret (pe_allI hr (by rfl) B.all TB rfl ⟨rfl, rfl, by decide +kernel, rfl, rfl, fun y hy e => absurd e ((by decide +kernel : ∀ y ∈ _, y.2 ≠ PySem.NameKind.free) y hy)⟩ (pv 0) (elt_odd rfl rfl) (fun _ => rfl)))), ?_⟩
    exact ⟨_, rfl, a, ns, rfl, hS, hT, hT, fun H2 s2 => q H2 s2⟩
end
end Ww
namespace Ww
open PySem PySem.Spec PyProof.Rows L2
section
variable {P : Program} {w : World} {K : PySem.W.Frag} {mg : Str → Option Value} {base : Heap}
/-! ### shows -/
theorem ok_around_shows {PT CA CD CO f : Addr} {fd : FuncData} (F : Fun K "shows" "Around.shows" s_Around_shows f fd) (B : Bi mg) (G_all_odd : Ok P w K mg base "_all_odd" ["sizes"] 1 (sp_all_odd K PT)) :
    FnOk P w K mg base CX0 10 f fd ["self", "wheels"] (sp_shows K PT CA CD CO 0) := by
  refine F.ok sc_Around_shows (fun vs H Q E h => ?_) (fun cdv A outer s H vs Q E hr h => ?_)
  · obtain ⟨a, b, ws, An, rfl, _⟩ := h
    rfl
  · obtain ⟨a, b, ws, An, rfl, ht, hT, hA, hd, hW, hs, hl, q⟩ := h
    replace hT : GxR.TabG H PT := hT.resolve_left (by decide)
    refine ⟨_, (pss_cons (ps_setLc (i := 2) (own := [("size", 3)]) (g := gName 3) (tt := _) rfl sc_Around_shows.nd rfl rfl (sw_true rfl rfl rfl (by decide +kernel)) (pi_list (pv 1)) (blkOk_by (own := [("size", 3)]) (N := ["self", "wheels", "turning", "size"]) (sc := defScope s_Around_shows) (by decide +kernel)) (fun _ _ _ _ _ => pg_name (i := 3) sc_Around_shows.nd rfl (.inl rfl)) (fun _ _ _ _ _ => pts_one (pt_cmpR op_gt (pv 3) pe_int (nomark _))) (fun _ _ _ _ _ => (pv 3)))
      (pss_one (ps_ret (pe_and (pe_cmpR op_gt (pe_callB (lenK K) (by rfl) B.len PySem.boot_len (pa_cons (pv 2) pa_nil)) pe_int (nomark _)) (pe_one (pe_not (pe_ok G_all_odd hr (by decide) (pa_cons (pv 2) pa_nil)))))))), ?_⟩
    cases An with
    | dead st => cases ht
    | odd => cases ht
    | around =>
      have e : shown ws .around = (decide (prd ws % 2 = 0) && decide (1 < turn ws)) := rfl
      rw [e, even_odd, ← odd_all, ← odd_turning hs.ones] at q
      refine ⟨_, rfl, b, rfl, ⟨_, hW⟩, fun D nD => ?_⟩
      refine lc_list (K := K) (a := b) (xs := ws.map V.int) (fun i H4 => Same H H4 ∧ H4 D = some (.lst (((ws.take i).filter fun s => decide (1 < s)).map V.int))) ⟨same_upd nD, upd_same⟩ (fun i H4 _ h => h.1.seq hW) ?_ ?_
      · rintro i x H4 hx ⟨s4, eD⟩
        obtain ⟨z, hz, rfl⟩ := map_int_at hx
        have hi : i < ws.length := (List.getElem?_eq_some_iff.mp hz).1
        refine ⟨rfl, _, rfl, _, _, rfl, rfl, _, rfl, ?_⟩
        have et : ((ws.take (i + 1)).filter fun s => decide (1 < s)) = ((ws.take i).filter fun s => decide (1 < s)) ++ (if decide (1 < z) = true then [z] else []) := by
          rw [take_more hz, List.filter_append]
          congr 1
          by_cases c : decide (1 < z) = true
          · rw [if_pos c]; exact List.filter_cons_of_pos (p := fun s => decide (1 < s)) (l := []) c
          · rw [if_neg c]; exact List.filter_cons_of_neg (p := fun s => decide (1 < s)) (l := []) c
        refine ite2 (fun c => ?_) (fun c => ?_)
        · rw [if_pos c] at et
          refine ⟨_, rfl, _, eD, ?_, ?_, ?_⟩
          · rw [List.length_map]
            have z1 := List.length_filter_le (fun s => decide (1 < s)) (ws.take i)
            have z2 := List.length_take (i := i) (l := ws)
            exact lt_line (by omega)
          · intro d u e
            rw [upd_ne (ne_of_none e nD)]
            exact s4 _ _ e
          · rw [upd_same, et, List.map_append]
            rfl
        · rw [if_neg c, List.append_nil] at et
          refine ⟨s4, ?_⟩
          rw [et]
          exact eD
      · rintro H4 ⟨s4, eD⟩
        rw [List.length_map, List.take_length] at eD
        refine ⟨_, rfl, D, _, rfl, .inl (SqL.of eD), _, _, rfl, rfl, _, rfl, ?_⟩
        rw [List.length_map]
        have ez : decide ((1 : Int) < ((ws.filter fun s => decide (1 < s)).length : Nat)) = decide (1 < turn ws) := by
          unfold turn
          exact decide_eq_decide.mpr (by omega)
        rw [ez]
        cases hc : decide (1 < turn ws) with
        | false =>
          rw [hc, Bool.and_false] at q
          exact q H4 s4
        | true =>
          rw [hc, Bool.and_true] at q
          exact ⟨_, rfl, D, _, rfl, s4.tab hT, SqL.of eD, fun H5 s5 => ⟨_, rfl, q H5 (s4.trans s5)⟩⟩
theorem ok_odd_shows {PT CA CD CO f : Addr} {fd : FuncData} (F : Fun K "shows" "Odd.shows" s_Odd_shows f fd) (B : Bi mg) (G_all_odd : Ok P w K mg base "_all_odd" ["sizes"] 1 (sp_all_odd K PT)) :
    FnOk P w K mg base CX0 10 f fd ["self", "wheels"] (sp_shows K PT CA CD CO 2) := by
  refine F.ok sc_Odd_shows (fun vs H Q E h => ?_) (fun cdv A outer s H vs Q E hr h => ?_)
  · obtain ⟨a, b, ws, An, rfl, _⟩ := h
    rfl
  · obtain ⟨a, b, ws, An, rfl, ht, hT, hA, hd, hW, hs, hl, q⟩ := h
    replace hT : GxR.TabG H PT := hT.resolve_left (by decide)
    refine ⟨_, (pss_one (ps_ret (pe_ok G_all_odd hr (by decide) (pa_cons (pv 1) pa_nil)))), ?_⟩
    cases An with
    | dead st => cases ht
    | around => cases ht
    | odd =>
      have e : shown ws .odd = decide (prd ws % 2 = 1) := rfl
      rw [e, ← odd_all] at q
      exact ⟨_, rfl, b, ws, rfl, hT, hW, q⟩
/-! ### how many neighbours a setting has -/
theorem way1_eq (p s : Int) : way1 p s = (if decide (0 < p) then 1 else 0) + (if decide (p < s - 1) then 1 else 0) := by
  unfold way1
  have e : decide (p + 1 < s) = decide (p < s - 1) := decide_eq_decide.mpr (by omega)
  rw [e]
theorem sum_snoc (l : List Int) (x : Int) : (l ++ [x]).sum = l.sum + x := by
  rw [List.sum_append, List.sum_cons, List.sum_nil, Int.add_zero]
def sp_steps_from (K : PySem.W.Frag) : Sp := fun vs H Q _ => ∃ (a b : Addr) (ws st : List Int), vs = [.ref a, .ref b] ∧ SqL K H a (ws.map V.int) ∧ SqL K H b (st.map V.int) ∧ st.length = ws.length ∧ ∀ H' : Hp, Same H H' → Q (.int (waysL st ws).sum) H'
theorem ok_steps_from (D : Df K mg "_steps_from" s_steps_from ["wheels", "setting"]) (B : Bi mg) : Ok P w K mg base "_steps_from" ["wheels", "setting"] 1 (sp_steps_from K) := by
  refine D.ok sc_steps_from (fun vs H Q E h => ?_) (fun f cdv A outer s H vs Q E hr h => ?_)
  · obtain ⟨a, b, ws, st, rfl, _⟩ := h
    rfl
  · obtain ⟨a, b, ws, st, rfl, hW, hS, hl, q⟩ := h
    refine ⟨_, (pss_cons (ps_set (i := 2) sc_steps_from.nd rfl (.inl rfl) pe_int)
      (pss_cons (ps_for PassesOwn.never rfl (pi_zip (by rfl) B.zip (pa_cons (pv 0) (pa_cons (pv 1) pa_nil))) (pg_tup rfl (pgs_cons (pg_name (i := 3) sc_steps_from.nd rfl (.inl rfl)) (pgs_cons (pg_name (i := 4) sc_steps_from.nd rfl (.inl rfl)) pgs_nil)))
        (pss_cons (ps_if (pt_cmpR op_gt (pv 4) pe_int (nomark _))
          (pss_one (ps_set (i := 2) sc_steps_from.nd rfl (.inl rfl) (pe_op op_add (pv 2) pe_int)))
          pss_nil)
        (pss_one (ps_if (pt_cmpR op_lt (pv 4) (pe_op op_sub (pv 3) pe_int) (nomark _))
          (pss_one (ps_set (i := 2) sc_steps_from.nd rfl (.inl rfl) (pe_op op_add (pv 2) pe_int)))
          pss_nil))))
      (pss_one (ps_ret (pv 2))))), ?_⟩
    refine ⟨_, rfl, _, rfl, a, b, _, _, rfl, hW, hS, RZ.for_zipL (K := K) (a := a) (b := b) (by rw [List.length_map, List.length_map, hl]) (fun i σ H3 => ∃ y3 y4 : Option V, σ = [some (.ref a), some (.ref b), some (.int ((waysL st ws).take i).sum), y3, y4] ∧ Same H H3)
      ⟨none, none, rfl, Same.refl H⟩ (fun i σ H3 ⟨_, _, _, s3⟩ => ⟨s3.seq hW, s3.seq hS⟩) ?_ ?_⟩
    · rintro i x y T σ H3 hx hy ⟨y3, y4, rfl, s3⟩ nT
      obtain ⟨sz, hsz, rfl⟩ := map_int_at hx
      obtain ⟨p, hp, rfl⟩ := map_int_at hy
      have sT : Same H (upd H3 T (.tup [.int sz, .int p])) := s3.trans (same_upd nT)
      have e := waysL_more hp hsz
      refine ⟨T, [.int sz, .int p], rfl, SqT.of upd_same, rfl, .int sz, [.int p], rfl, .int p, [], rfl, rfl, ?_⟩
      rw [e, sum_snoc, way1_eq]
      refine ⟨_, rfl, _, _, rfl, rfl, _, rfl, ite2 (fun c => ?_) (fun c => ?_)⟩
      · rw [if_pos c]
        refine ⟨_, rfl, _, _, rfl, rfl, _, rfl, _, rfl, _, _, rfl, rfl, _, _, rfl, rfl, _, rfl, ite2 (fun d => ?_) (fun d => ?_)⟩
        · rw [if_pos d]
          refine ⟨_, rfl, _, _, rfl, rfl, some (.int sz), some (.int p), ?_, sT⟩
          rw [← Int.add_assoc]
          rfl
        · rw [if_neg d]
          exact ⟨some (.int sz), some (.int p), rfl, sT⟩
      · rw [if_neg c]
        refine ⟨_, rfl, _, rfl, _, _, rfl, rfl, _, _, rfl, rfl, _, rfl, ite2 (fun d => ?_) (fun d => ?_)⟩
        · rw [if_pos d]
          refine ⟨_, rfl, _, _, rfl, rfl, some (.int sz), some (.int p), ?_, sT⟩
          rw [Int.zero_add]
          rfl
        · rw [if_neg d]
          exact ⟨some (.int sz), some (.int p), by rw [Int.add_zero, Int.add_zero]; rfl, sT⟩
    · rintro σ H3 ⟨y3, y4, rfl, s3⟩
      refine ⟨_, rfl, ?_⟩
      have z3 : (ws.map V.int).length = (waysL st ws).length := by unfold waysL; rw [List.length_map, List.length_zipWith, hl]; omega
      rw [z3, List.take_length]
      exact q H3 s3
theorem ok_dead_shows {PT CA CD CO f : Addr} {fd : FuncData} (F : Fun K "shows" "Dead.shows" s_Dead_shows f fd) (T : Three K CA CD CO) (G_is_setting : Ok P w K mg base "is_setting" ["wheels", "setting"] 2 (sp_is_set K)) (G_steps_from : Ok P w K mg base "_steps_from" ["wheels", "setting"] 1 (sp_steps_from K)) :
    FnOk P w K mg base CX0 10 f fd ["self", "wheels"] (sp_shows K PT CA CD CO 1) := by
  refine F.ok sc_Dead_shows (fun vs H Q E h => ?_) (fun cdv A outer s H vs Q E hr h => ?_)
  · obtain ⟨a, b, ws, An, rfl, _⟩ := h
    rfl
  · obtain ⟨a, b, ws, An, rfl, ht, hT, hA, hd, hW, hs, hl, q⟩ := h
    refine ⟨_, (pss_one (ps_ret (pe_and (pe_ok G_is_setting hr (by decide) (pa_cons (pv 1) (pa_cons (pe_fld (pv 0) (by rfl)) pa_nil))) (pe_one (pe_cmpR op_lt (pe_ok G_steps_from hr (by decide) (pa_cons (pv 1) (pa_cons (pe_fld (pv 0) (by rfl)) pa_nil))) pe_int (nomark _)))))), ?_⟩
    cases An with
    | around => cases ht
    | odd => cases ht
    | dead st =>
      obtain ⟨dx, fs, p, eb, hp, hS⟩ := hA
      have e : shown ws (.dead st) = (isB ws st && decide ((waysL st ws).sum < 2)) := rfl
      rw [e] at q
      refine ⟨_, rfl, _, rfl, a, _, dx, fs, _, rfl, eb, T.d.cl, T.ns, hp, b, p, ws, st, rfl, hW, hS, fun H1 s1 => ⟨_, rfl, ?_⟩⟩
      cases hb : isB ws st with
      | false =>
        rw [hb, Bool.false_and] at q
        exact q H1 s1
      | true =>
        rw [hb, Bool.true_and] at q
        exact ⟨_, rfl, _, rfl, a, _, dx, fs, _, rfl, s1 _ _ eb, T.d.cl, T.ns, hp, b, p, ws, st, rfl, s1.seq hW, s1.seq hS, okS_len (of_isB hb), fun H2 s2 => ⟨_, _, rfl, rfl, q H2 (s1.trans s2)⟩⟩
/-! ### Dead's __init__ -/
theorem look_no {x y : Str} {v : V} (h : (x == y) = false) : [(y, v)].lookup x = none := by
  show (match x == y with | true => some v | false => List.lookup x []) = none
  rw [h]
  rfl
theorem look_one {y : Str} {v : V} : [(y, v)].lookup y = some v := by
  show (match y == y with | true => some v | false => List.lookup y []) = some v
  rw [beq_self_eq_true]
theorem ok_dead_init {CD f : Addr} {fd : FuncData} (F : Fun K "__init__" "Dead.__init__" s_Dead_init f fd) (B : Bi mg) (c : Cls K CD) (n : NoAttr K CD "setting") : FnOk P w K mg base CX0 10 f fd ["self", "setting"] (sp_dead_init K CD) := by
  refine F.ok sc_Dead_init (fun vs H Q E h => ?_) (fun cdv A outer s H vs Q E hr h => ?_)
  · obtain ⟨x, dx, h, st, rfl, _⟩ := h
    rfl
  · obtain ⟨x, dx, h, st, rfl, ex, hS, q⟩ := h
    refine ⟨_, (pss_one (ps_fld (pv 0) (pe_callTy (listK K) (by rfl) B.list boot_list (pa_cons (pv 1) pa_nil)) rfl)), ?_⟩
    refine ⟨_, rfl, h, _, rfl, .inl hS, fun p np => ?_⟩
    have nxp : x ≠ p := ne_of_none ex np
    refine ⟨_, rfl, x, CD, dx, _, rfl, (upd_ne nxp).trans ex, c, n, (by decide), ?_⟩
    refine q [("setting", .ref p)] p _ ?_ upd_same (look_no (by decide +kernel)) look_one np ?_
    · rw [off_upd]
      exact off_mono (same_upd np)
    · rw [upd_ne nxp.symm, upd_same]
end
end Ww
/-! wheels of sizes of many more figures: what the program's own helpers are asked with -/
namespace Ww
open PySem PySem.Spec PyProof.Rows L2
/-- sizes below 2 ^ B, not too many of them -/
structure WideB (B : Nat) (ws : List Int) : Prop where
  one : ones ws
  bits : ∀ s ∈ ws, s.natAbs < 2 ^ B
  lim : B * ws.length + 1 + B ≤ 134217728
theorem WideB.at {B : Nat} {ws : List Int} (h : WideB B ws) {i : Nat} {s : Int} (e : ws[i]? = some s) : 1 ≤ s ∧ s.natAbs < 2 ^ B := ⟨h.one s (List.mem_of_getElem? e), h.bits s (List.mem_of_getElem? e)⟩
theorem prd_bitsW {B : Nat} : ∀ {l : List Int}, (∀ s ∈ l, s.natAbs < 2 ^ B) → (prd l).natAbs < 2 ^ (B * l.length + 1)
  | [], _ => by
    show (1 : Int).natAbs < 2 ^ (B * 0 + 1)
    rw [Nat.mul_zero]
    decide
  | s :: r, h => by
    have h1 := prd_bitsW (l := r) fun x hx => h x (List.mem_cons_of_mem _ hx)
    have h2 := h s List.mem_cons_self
    have h3 := wide_lt h1 h2
    have e : B * (s :: r).length + 1 = B * r.length + 1 + B := by
      rw [List.length_cons, Nat.mul_succ]
      omega
    rw [e]
    exact h3
theorem log2_of {x : Int} {n : Nat} (h : x.natAbs < 2 ^ (n + 1)) : x.natAbs.log2 ≤ n := by
  by_cases h0 : x.natAbs = 0
  · rw [h0]
    exact Nat.le_trans (by decide) (Nat.zero_le n)
  · have := (Nat.log2_lt h0).mpr h
    omega
/-- a number below a small times the divisor -/
theorem noPy {x y r : Int} (h0 : 0 ≤ x) (hy : 1 ≤ y) (h : x < r * y) (hr : 0 ≤ r) (hb : r.natAbs < 2 ^ 200) : Builtin.divisionGoesByPylong x y = false := by
  by_cases hx : x = 0
  · subst hx
    unfold Builtin.divisionGoesByPylong
    simp
  have e : x.natAbs < 2 ^ (200 + (y.natAbs.log2 + 1)) := by
    have h1 : x.natAbs < r.natAbs * y.natAbs := by
      rw [← Int.natAbs_mul]
      omega
    have h2 : y.natAbs < 2 ^ (y.natAbs.log2 + 1) := Nat.lt_log2_self
    have h3 : r.natAbs * y.natAbs ≤ 2 ^ 200 * 2 ^ (y.natAbs.log2 + 1) := Nat.mul_le_mul (Nat.le_of_lt hb) (Nat.le_of_lt h2)
    rw [Nat.pow_add]
    omega
  have e2 := log2_of (n := 200 + y.natAbs.log2) e
  have hy0 : (y == 0) = false := beq_eq_false_iff_ne.mpr (by omega)
  have hx0 : (x == 0) = false := beq_eq_false_iff_ne.mpr hx
  have key : ¬ (if (x == 0) = true then 0 else x.natAbs.log2 / 30 + 1) > (if (y == 0) = true then 0 else y.natAbs.log2 / 30 + 1) + 150 := by
    rw [hy0, hx0, if_neg (by decide), if_neg (by decide)]
    omega
  show (_ && decide ((if (x == 0) = true then 0 else x.natAbs.log2 / 30 + 1) > (if (y == 0) = true then 0 else y.natAbs.log2 / 30 + 1) + 150)) = false
  rw [decide_eq_false key, Bool.and_false]
section
variable {P : Program} {w : World} {K : PySem.W.Frag} {mg : Str → Option Value} {base : Heap}
def sp_settingsW (K : PySem.W.Frag) (B : Nat) : Sp := fun vs H Q _ => ∃ (a : Addr) (ws : List Int), vs = [.ref a] ∧ SqL K H a (ws.map V.int) ∧ WideB B ws ∧ Q (.int (prd ws)) H
theorem ok_settingsW (N : Nat) (D : Df K mg "settings" s_settings ["wheels"]) (B : Bi mg) (G_check_wheels : Ok P w K mg base "check_wheels" ["wheels"] 2 (sp_check_wheels K)) : Ok P w K mg base "settings" ["wheels"] 3 (sp_settingsW K N) := by
  refine D.ok sc_settings (fun vs H Q E h => ?_) (fun f cdv A outer s H vs Q E hr h => ?_)
  · obtain ⟨a, ws, rfl, _⟩ := h
    rfl
  · obtain ⟨a, ws, rfl, hW, hs, q⟩ := h
    refine ⟨_, (pss_cons (ps_expr (pe_ok G_check_wheels hr (by decide) (pa_cons (pv 0) pa_nil)))
      (pss_cons (ps_set (i := 1) sc_settings.nd rfl (.inl rfl) pe_int)
      (pss_cons (ps_for PassesOwn.never rfl (pi_list (pv 0)) (pg_name (i := 2) sc_settings.nd rfl (.inl rfl))
        (pss_one (ps_set (i := 1) sc_settings.nd rfl (.inl rfl) (pe_op op_mulX (pv 1) (pv 2)))))
      (pss_one (ps_ret (pv 1)))))), ?_⟩
    refine ⟨_, rfl, a, ws, rfl, hW, hs.one, ?_⟩
    refine ⟨_, rfl, a, rfl, ⟨_, hW⟩, for_list (K := K) (a := a) (xs := ws.map V.int) (fun i σ H3 => ∃ y2 : Option V, σ = [some (.ref a), some (.int (prd (ws.take i).reverse)), y2] ∧ H3 = H)
      ⟨none, rfl, rfl⟩ (fun i σ H3 _ ⟨_, _, e⟩ => by rw [e]; exact hW) ?_ ?_⟩
    · rintro i x σ H3 hx ⟨y2, rfl, rfl⟩
      obtain ⟨sz, hsz, rfl⟩ := map_int_at hx
      have hi : i < ws.length := (List.getElem?_eq_some_iff.mp hsz).1
      have b1 := prd_bitsW (B := N) (l := (ws.take i).reverse) fun x hx => hs.bits x (List.mem_of_mem_take (List.mem_reverse.mp hx))
      have b2 := (hs.at hsz).2
      have hlim := hs.lim
      refine ⟨_, rfl, _, rfl, _, _, rfl, rfl, mulx_ok b1 b2 ?_, some (.int sz), ?_, rfl⟩
      · have : N * (ws.take i).reverse.length ≤ N * ws.length := Nat.mul_le_mul_left _ (by rw [List.length_reverse, List.length_take]; omega)
        omega
      · rw [prd_snoc hsz]
        rfl
    · rintro σ H3 ⟨y2, rfl, rfl⟩
      refine ⟨_, rfl, ?_⟩
      rw [List.length_map, List.take_length, prd_reverse]
      exact q
/-- setting_of, of a few wheels with one great size behind: the numbers that are divided stay below a small times the size -/
def sp_setting_ofW (K : PySem.W.Frag) (B : Nat) : Sp := fun vs H Q _ => ∃ (a : Addr) (ws : List Int) (n : Int), vs = [.ref a, .int n] ∧ SqL K H a (ws.map V.int) ∧ WideB B ws ∧ ws.length ≤ 1000 ∧ 0 ≤ n ∧ n < prd ws ∧
  (∀ (i : Nat) (s : Int), ws.reverse[i]? = some s → Builtin.divisionGoesByPylong (ahd (ws.reverse.take i) n) s = false) ∧
  ∀ (p : Addr) (H' : Hp), Same H H' → H p = none → H' p = some (.lst ((setF ws n).map V.int)) → Q (.ref p) H'
theorem ok_setting_ofW (N : Nat) (D : Df K mg "setting_of" s_setting_of ["wheels", "number"]) (B : Bi mg) (G_settings : Ok P w K mg base "settings" ["wheels"] 3 (sp_settingsW K N))
    (G_check_number : Ok P w K mg base "check_number" ["number", "many"] 2 sp_check_number) (G_mirrored : Ok P w K mg base "_mirrored" ["size", "place", "ahead"] 1 sp_mirrored) :
    Ok P w K mg base "setting_of" ["wheels", "number"] 4 (sp_setting_ofW K N) := by
  refine D.ok sc_setting_of (fun vs H Q E h => ?_) (fun f cdv A outer s H vs Q E hr h => ?_)
  · obtain ⟨a, ws, n, rfl, _⟩ := h
    rfl
  · obtain ⟨a, ws, n, rfl, hW, hs, hlen, h0, h1, hd, q⟩ := h
    refine ⟨_, (pss_cons (ps_set (i := 2) sc_setting_of.nd rfl (.inl rfl) (pe_ok G_settings hr (by decide) (pa_cons (pv 0) pa_nil)))
      (pss_cons (ps_expr (pe_ok G_check_number hr (by decide) (pa_cons (pv 1) (pa_cons (pv 2) pa_nil))))
      (pss_cons (ps_set (i := 3) sc_setting_of.nd rfl (.inl rfl) (pe_lst pa_nil))
      (pss_cons (ps_set (i := 4) sc_setting_of.nd rfl (.inl rfl) (pv 1))
      (pss_cons (ps_for PassesOwn.never rfl (pi_reversed (by rfl) B.reversed (pa_cons (pv 0) pa_nil)) (pg_name (i := 5) sc_setting_of.nd rfl (.inl rfl))
        (pss_cons (ps_asg (pe_callB call_divmodW (by rfl) B.divmod (by decide +kernel) (pa_cons (pv 4) (pa_cons (pv 5) pa_nil))) (pg_tup rfl (pgs_cons (pg_name (i := 4) sc_setting_of.nd rfl (.inl rfl)) (pgs_cons (pg_name (i := 6) sc_setting_of.nd rfl (.inl rfl)) pgs_nil))))
        (pss_one (ps_expr (pe_bm PySem.F.plainAttrs_list PySem.F.slot_list_append PySem.F.type_list_append mt_append (pv 3) (pa_cons (pe_ok G_mirrored hr (by decide) (pa_cons (pv 5) (pa_cons (pv 6) (pa_cons (pv 4) pa_nil)))) pa_nil))))))
      (pss_one (ps_ret (pe_revL (pv 3))))))))), ?_⟩
    refine ⟨_, rfl, a, ws, rfl, hW, hs, ?_⟩
    refine ⟨_, rfl, _, rfl, n, _, rfl, h0, h1, ?_⟩
    refine ⟨Nat.zero_le _, fun o no => ?_⟩
    refine ⟨_, rfl, ?_⟩
    have sO : Same H (upd H o (.lst [])) := same_upd no
    refine ⟨_, rfl, a, ws.map V.int, rfl, sO.seq hW, for_revL (K := K) (a := a) (xs := ws.map V.int)
      (fun i σ H3 => ∃ y5 y6 : Option V, σ = [some (.ref a), some (.int n), some (.int (prd ws)), some (.ref o), some (.int (ahd (ws.reverse.take i) n)), y5, y6] ∧ Same H H3 ∧ H3 o = some (.lst ((sof (ws.reverse.take i) n).map V.int)))
      ⟨none, none, rfl, sO, upd_same⟩ (fun i σ H3 ⟨_, _, _, s3, _⟩ => s3.seq hW) ?_ ?_⟩
    · rintro i x σ H3 hx ⟨y5, y6, rfl, s3, eo⟩
      rw [← List.map_reverse] at hx
      obtain ⟨sz, hsz, rfl⟩ := map_int_at hx
      have hin : 1 ≤ sz := hs.one sz (List.mem_reverse.mp (List.mem_of_getElem? hsz))
      have hi : i < ws.length := by
        have := (List.getElem?_eq_some_iff.mp hsz).1
        rw [List.length_reverse] at this
        exact this
      refine ⟨_, rfl, _, rfl, _, _, rfl, ⟨by omega, hd i sz hsz⟩, fun T nT => ?_⟩
      refine ⟨T, _, rfl, SqT.of upd_same, rfl, _, _, rfl, _, _, rfl, rfl, ?_⟩
      have sT : Same H3 (upd H3 T (.tup [.int (ahd (ws.reverse.take i) n / sz), .int (ahd (ws.reverse.take i) n % sz)])) := same_upd nT
      have eoT := sT _ _ eo
      refine ⟨_, rfl, .inl ⟨rfl, _, SqL.of eoT⟩, _, rfl, _, rfl, _, rfl, _, _, _, rfl, o, _, _, rfl, rfl, eoT, ?_, ?_⟩
      · rw [List.length_map, sof_len, List.length_take]
        exact lt_line (by omega)
      · refine ⟨some (.int sz), some (.int (ahd (ws.reverse.take i) n % sz)), ?_, fun c u e => ?_, ?_⟩
        · rw [take_more hsz, ahd_snoc]
          rfl
        · rw [upd_ne (ne_of_none e no)]
          exact (s3.trans sT) _ _ e
        · rw [upd_same, take_more hsz, sof_snoc, List.map_append]
          rfl
    · rintro σ H3 ⟨y5, y6, rfl, s3, eo⟩
      rw [List.length_map, ← List.length_reverse, List.take_length] at eo
      refine ⟨_, rfl, o, _, rfl, SqL.of eo, fun p np => ?_⟩
      refine q p _ (s3.trans (same_upd np)) (s3.free np) ?_
      rw [upd_same, ← List.map_reverse]
      rfl
def sp_number_ofW (K : PySem.W.Frag) (B : Nat) : Sp := fun vs H Q _ => ∃ (a b : Addr) (ws st : List Int), vs = [.ref a, .ref b] ∧ SqL K H a (ws.map V.int) ∧ SqL K H b (st.map V.int) ∧ WideB B ws ∧ okS ws st ∧
  ∀ H' : Hp, Same H H' → Q (.int (numF ws st)) H'
theorem ok_number_ofW (N : Nat) (D : Df K mg "number_of" s_number_of ["wheels", "setting"]) (B : Bi mg) (G_check_wheels : Ok P w K mg base "check_wheels" ["wheels"] 2 (sp_check_wheels K))
    (G_check_setting : Ok P w K mg base "check_setting" ["wheels", "setting"] 3 (sp_check_setting K)) (G_mirrored : Ok P w K mg base "_mirrored" ["size", "place", "ahead"] 1 sp_mirrored) :
    Ok P w K mg base "number_of" ["wheels", "setting"] 4 (sp_number_ofW K N) := by
  refine D.ok sc_number_of (fun vs H Q E h => ?_) (fun f cdv A outer s H vs Q E hr h => ?_)
  · obtain ⟨a, b, ws, st, rfl, _⟩ := h
    rfl
  · obtain ⟨a, b, ws, st, rfl, hW, hS, hs, hok, q⟩ := h
    have el := okS_len hok
    refine ⟨_, (pss_cons (ps_expr (pe_ok G_check_wheels hr (by decide) (pa_cons (pv 0) pa_nil)))
      (pss_cons (ps_expr (pe_ok G_check_setting hr (by decide) (pa_cons (pv 0) (pa_cons (pv 1) pa_nil))))
      (pss_cons (ps_set (i := 2) sc_number_of.nd rfl (.inl rfl) pe_int)
      (pss_cons (ps_for PassesOwn.never rfl (pi_zip (by rfl) B.zip (pa_cons (pv 0) (pa_cons (pv 1) pa_nil))) (pg_tup rfl (pgs_cons (pg_name (i := 3) sc_number_of.nd rfl (.inl rfl)) (pgs_cons (pg_name (i := 4) sc_number_of.nd rfl (.inl rfl)) pgs_nil)))
        (pss_one (ps_set (i := 2) sc_number_of.nd rfl (.inl rfl) (pe_op op_add (pe_op op_mulX (pv 2) (pv 3)) (pe_ok G_mirrored hr (by decide) (pa_cons (pv 3) (pa_cons (pv 4) (pa_cons (pv 2) pa_nil))))))))
      (pss_one (ps_ret (pv 2))))))), ?_⟩
    refine ⟨_, rfl, a, ws, rfl, hW, hs.one, ?_⟩
    refine ⟨_, rfl, _, rfl, a, b, ws, st, rfl, hW, hS, hok, fun H1 s1 => ?_⟩
    refine ⟨_, rfl, _, rfl, a, b, _, _, rfl, s1.seq hW, s1.seq hS, RZ.for_zipL (K := K) (a := a) (b := b) (by rw [List.length_map, List.length_map, el])
      (fun i σ H3 => ∃ y3 y4 : Option V, σ = [some (.ref a), some (.ref b), some (.int (nofR (ws.take i).reverse (st.take i).reverse)), y3, y4] ∧ Same H H3)
      ⟨none, none, rfl, s1⟩ (fun i σ H3 ⟨_, _, _, s3⟩ => ⟨s3.seq hW, s3.seq hS⟩) ?_ ?_⟩
    · rintro i x y T σ H3 hx hy ⟨y3, y4, rfl, s3⟩ nT
      obtain ⟨sz, hsz, rfl⟩ := map_int_at hx
      obtain ⟨p, hp, rfl⟩ := map_int_at hy
      have hi : i < ws.length := (List.getElem?_eq_some_iff.mp hsz).1
      have hn := nof_in (okS_reverse (okS_take i hok))
      have b1 : (nofR (ws.take i).reverse (st.take i).reverse).natAbs < 2 ^ (N * (ws.take i).reverse.length + 1) := wide_le hn.1 (Int.le_of_lt hn.2) (prd_bitsW fun x hx => hs.bits x (List.mem_of_mem_take (List.mem_reverse.mp hx)))
      have b2 := (hs.at hsz).2
      have hlim := hs.lim
      refine ⟨T, [.int sz, .int p], rfl, SqT.of upd_same, rfl, .int sz, [.int p], rfl, .int p, [], rfl, rfl, ?_⟩
      refine ⟨_, rfl, _, rfl, _, _, rfl, rfl, mulx_ok b1 b2 ?_, _, rfl, _, rfl, _, rfl, _, _, _, rfl, _, _, rfl, rfl, some (.int sz), some (.int p), ?_, s3.trans (same_upd nT)⟩
      · have : N * (ws.take i).reverse.length ≤ N * ws.length := Nat.mul_le_mul_left _ (by rw [List.length_reverse, List.length_take]; omega)
        omega
      · rw [nofR_snoc hsz hp]
        rfl
    · rintro σ H3 ⟨y3, y4, rfl, s3⟩
      refine ⟨_, rfl, ?_⟩
      rw [List.length_map, List.take_length, ← el, List.take_length]
      exact q H3 s3
end
end Ww
/-! the ring as the program goes it: rows of the first even wheel, columns along the way of the others; home along the first column -/
namespace Ww
/-! ### the first even wheel -/
def evAt : List Int → Nat
  | [] => 0
  | s :: r => if s % 2 = 1 then evAt r + 1 else 0
theorem evAt_spec : ∀ {ws : List Int}, prd ws % 2 = 0 → ∃ s, ws[evAt ws]? = some s ∧ s % 2 = 0 ∧ ∀ j, j < evAt ws → ∃ t, ws[j]? = some t ∧ t % 2 = 1
  | [], h => absurd h (by decide)
  | s :: r, h => by
    by_cases c : s % 2 = 1
    · have hr : prd r % 2 = 0 := by
        have h2 : (prd r * s) % 2 = 0 := h
        rw [Int.mul_emod, c] at h2
        omega
      obtain ⟨x, h1, h2, h3⟩ := evAt_spec hr
      have e : evAt (s :: r) = evAt r + 1 := by
        show (if s % 2 = 1 then evAt r + 1 else 0) = _
        rw [if_pos c]
      rw [e]
      refine ⟨x, h1, h2, fun j hj => ?_⟩
      match j with
      | 0 => exact ⟨s, rfl, c⟩
      | j + 1 => exact h3 j (by omega)
    · have e : evAt (s :: r) = 0 := by
        show (if s % 2 = 1 then evAt r + 1 else 0) = _
        rw [if_neg c]
      rw [e]
      exact ⟨s, rfl, by omega, fun j hj => absurd hj (Nat.not_lt_zero _)⟩
/-- all but the k-th -/
def dropAt {α : Type} (k : Nat) (l : List α) : List α := l.take k ++ l.drop (k + 1)
/-- x put in ahead of the k-th -/
def putAt {α : Type} (k : Nat) (x : α) (l : List α) : List α := l.take k ++ x :: l.drop k
theorem dropAt_len {α : Type} {k : Nat} {l : List α} (h : k < l.length) : (dropAt k l).length + 1 = l.length := by
  unfold dropAt
  rw [List.length_append, List.length_take, List.length_drop]
  omega
theorem split_at {α : Type} {k : Nat} {l : List α} {x : α} (h : l[k]? = some x) : l = l.take k ++ x :: l.drop (k + 1) := by
  obtain ⟨hk, e⟩ := List.getElem?_eq_some_iff.mp h
  have h1 := List.take_append_drop k l
  rw [List.drop_eq_getElem_cons hk, e] at h1
  exact h1.symm
theorem put_drop {α : Type} {k : Nat} {l : List α} {x : α} (h : l[k]? = some x) : putAt k x (dropAt k l) = l := by
  have hk : k < l.length := (List.getElem?_eq_some_iff.mp h).1
  have e : l.take k ++ x :: l.drop (k + 1) = l := (split_at h).symm
  unfold putAt dropAt
  have hl : (l.take k).length = k := by rw [List.length_take]; omega
  have e1 : (l.take k ++ l.drop (k + 1)).take k = l.take k := by
    rw [List.take_append, hl, Nat.sub_self, List.take_zero, List.append_nil, List.take_of_length_le (by omega)]
  have e2 : (l.take k ++ l.drop (k + 1)).drop k = l.drop (k + 1) := by
    rw [List.drop_append, hl, Nat.sub_self, List.drop_zero, List.drop_of_length_le (by omega)]
    rfl
  rw [e1, e2]
  exact e
theorem drop_put {α : Type} {k : Nat} {l : List α} {x : α} (h : k ≤ l.length) : dropAt k (putAt k x l) = l := by
  unfold putAt dropAt
  have hl : (l.take k).length = k := by rw [List.length_take]; omega
  have e1 : (l.take k ++ x :: l.drop k).take k = l.take k := by
    rw [List.take_append, hl, Nat.sub_self, List.take_zero, List.append_nil, List.take_of_length_le (by omega)]
  have e2 : (l.take k ++ x :: l.drop k).drop (k + 1) = l.drop k := by
    rw [List.drop_append, hl, List.drop_of_length_le (by omega), show k + 1 - k = 1 by omega]
    rfl
  rw [e1, e2, List.take_append_drop]
theorem put_at {α : Type} {k : Nat} {l : List α} {x : α} (h : k ≤ l.length) : (putAt k x l)[k]? = some x := by
  unfold putAt
  have hl : (l.take k).length = k := by rw [List.length_take]; omega
  rw [List.getElem?_append_right (by omega), hl, Nat.sub_self]
  rfl
theorem put_len {α : Type} {k : Nat} {l : List α} {x : α} (h : k ≤ l.length) : (putAt k x l).length = l.length + 1 := by
  unfold putAt
  rw [List.length_append, List.length_take, List.length_cons, List.length_drop]
  omega
theorem prd_split {k : Nat} {ws : List Int} {s : Int} (h : ws[k]? = some s) : prd ws = s * prd (dropAt k ws) := by
  have e := split_at h
  have h1 : prd ws = prd (ws.take k ++ s :: ws.drop (k + 1)) := congrArg prd e
  rw [h1, prd_append]
  unfold dropAt
  rw [prd_append]
  show prd (ws.take k) * (prd (ws.drop (k + 1)) * s) = _
  rw [← Int.mul_assoc, Int.mul_comm]
theorem okS_split : ∀ {k : Nat} {ws st : List Int} {s p : Int}, ws[k]? = some s → st[k]? = some p → okS ws st → okS (dropAt k ws) (dropAt k st)
  | _, [], _, _, _, h, _, _ => by simp at h
  | _, _ :: _, [], _, _, _, h, _ => by simp at h
  | 0, _ :: _, _ :: _, _, _, _, _, h => h.2.2
  | k + 1, _ :: ws, _ :: st, _, _, h1, h2, h => ⟨h.1, h.2.1, okS_split (k := k) (ws := ws) (st := st) h1 h2 h.2.2⟩
theorem okS_put : ∀ {k : Nat} {ws st : List Int} {s p : Int}, ws[k]? = some s → okS (dropAt k ws) st → 0 ≤ p → p < s → okS ws (putAt k p st)
  | _, [], _, _, _, h, _, _, _ => by simp at h
  | 0, w :: ws, st, s, p, h, hk, h0, h1 => by
    have e : w = s := Option.some.inj h
    subst e
    exact ⟨h0, h1, hk⟩
  | k + 1, w :: ws, [], s, p, h, hk, _, _ => hk.elim
  | k + 1, w :: ws, q :: st, s, p, h, hk, h0, h1 => ⟨hk.1, hk.2.1, okS_put (k := k) (ws := ws) (st := st) h hk.2.2 h0 h1⟩
theorem dist_put : ∀ {k : Nat} {a b : List Int} (p q : Int), a.length = b.length → k ≤ a.length → dist (putAt k p a) (putAt k q b) = absI (p - q) + dist a b
  | 0, a, b, p, q, _, _ => rfl
  | k + 1, [], _, _, _, _, h => absurd h (by simp)
  | k + 1, _ :: _, [], _, _, h, _ => by simp at h
  | k + 1, x :: a, y :: b, p, q, h, hk => by
    have ih := dist_put (k := k) (a := a) (b := b) p q (by simpa using h) (by simpa using hk)
    show absI (x - y) + dist (putAt k p a) (putAt k q b) = absI (p - q) + (absI (x - y) + dist a b)
    rw [ih]
    omega
theorem ones_drop {k : Nat} {ws : List Int} (h : ones ws) : ones (dropAt k ws) := fun x hx => by
  rcases List.mem_append.mp hx with hx | hx
  · exact h x (List.mem_of_mem_take hx)
  · exact h x (List.mem_of_mem_drop hx)
theorem filter_split {k : Nat} {ws : List Int} {s : Int} (h : ws[k]? = some s) : (ws.filter fun s => decide (1 < s)).length ≤ ((dropAt k ws).filter fun s => decide (1 < s)).length + 1 := by
  have e := split_at h
  have h1 : ws.filter (fun s => decide (1 < s)) = (ws.take k ++ s :: ws.drop (k + 1)).filter (fun s => decide (1 < s)) := congrArg _ e
  rw [h1]
  unfold dropAt
  rw [List.filter_append, List.filter_append, List.length_append, List.length_append, List.filter_cons]
  split
  · rw [List.length_cons]; omega
  · omega
theorem prd_two : ∀ {ws : List Int}, ones ws → 1 ≤ (ws.filter fun s => decide (1 < s)).length → 2 ≤ prd ws
  | [], _, h => by simp at h
  | s :: r, ho, h => by
    have h1 := prd_pos (ones_tail ho)
    have h2 := ones_head ho
    show 2 ≤ prd r * s
    by_cases c : 1 < s
    · have : 1 * 2 ≤ prd r * s := Int.mul_le_mul h1 c (by omega) (by omega)
      omega
    · have e : s = 1 := by omega
      subst e
      rw [Int.mul_one]
      refine prd_two (ones_tail ho) ?_
      rw [List.filter_cons_of_neg (by simp)] at h
      exact h
/-! ### the grid -/
theorem sof2 (R C m : Int) : sof [C, R] m = [mir C (m % C) (m / C), mir R (m / C % R) (m / C / R)] := rfl
/-- the row and the column of a number -/
def gpos (R C n : Int) : Int × Int :=
  if (R * C - n) % (R * C) < R then ((R * C - n) % (R * C), 0)
  else match (sof [C - 1, R] (n - 1)).reverse with
    | [r, b] => (r, b + 1)
    | _ => (0, 0)
def gnum (R C r c : Int) : Int := if c = 0 then (R * C - r) % (R * C) else nofR [C - 1, R] [c - 1, r] + 1
theorem prd2 (R C : Int) : prd [C, R] = R * C := by
  show 1 * R * C = R * C
  rw [Int.one_mul]
theorem ones2 {R C : Int} (h1 : 1 ≤ R) (h2 : 1 ≤ C) : ones [C, R] := fun x hx => by
  simp only [List.mem_cons, List.not_mem_nil, or_false] at hx
  rcases hx with rfl | rfl <;> assumption
section
variable {R C : Int}
theorem gprod (hR : 2 ≤ R) (hC : 2 ≤ C) : R * C = R * (C - 1) + R ∧ 2 ≤ R * (C - 1) := by
  have e : R * (C - 1) = R * C - R := by rw [Int.mul_sub, Int.mul_one]
  have h : 2 * 1 ≤ R * (C - 1) := Int.mul_le_mul hR (by omega) (by omega) (by omega)
  omega
theorem gleft (hR : 2 ≤ R) (hC : 2 ≤ C) {n : Int} (h0 : 0 ≤ n) (h1 : n < R * C) : (R * C - n) % (R * C) = if n = 0 then 0 else R * C - n := by
  split
  · rename_i h
    subst h
    rw [Int.sub_zero, Int.emod_self]
  · rw [Int.emod_eq_of_lt (by omega) (by omega)]
/-- the three stretches of the ring -/
theorem gpos0 (hR : 2 ≤ R) (hC : 2 ≤ C) : gpos R C 0 = (0, 0) := by
  have h := gprod hR hC
  have e := gleft hR hC (n := 0) (by omega) (by omega)
  unfold gpos
  rw [e, if_pos rfl, if_pos (by omega)]
theorem gposH (hR : 2 ≤ R) (hC : 2 ≤ C) {n : Int} (h0 : R * (C - 1) < n) (h1 : n < R * C) : gpos R C n = (R * C - n, 0) := by
  have h := gprod hR hC
  have e := gleft hR hC (n := n) (by omega) (by omega)
  rw [if_neg (by omega)] at e
  unfold gpos
  rw [e, if_pos (by omega)]
theorem gposS (hR : 2 ≤ R) (hC : 2 ≤ C) {n : Int} (h0 : 1 ≤ n) (h1 : n ≤ R * (C - 1)) : ∃ r b : Int, sof [C - 1, R] (n - 1) = [b, r] ∧ gpos R C n = (r, b + 1) ∧ 0 ≤ b ∧ b < C - 1 ∧ 0 ≤ r ∧ r < R := by
  have h := gprod hR hC
  have e := gleft hR hC (n := n) (by omega) (by omega)
  rw [if_neg (by omega)] at e
  have ok := sof_ok (l := [C - 1, R]) (n := n - 1) (ones2 (by omega) (by omega))
  rw [sof2] at ok
  obtain ⟨k1, k2, k3, k4, _⟩ := ok
  refine ⟨_, _, sof2 _ _ _, ?_, k1, k2, k3, k4⟩
  unfold gpos
  rw [e, if_neg (by omega), sof2]
  rfl
theorem gpos_in (hR : 2 ≤ R) (hC : 2 ≤ C) {n : Int} (h0 : 0 ≤ n) (h1 : n < R * C) : 0 ≤ (gpos R C n).1 ∧ (gpos R C n).1 < R ∧ 0 ≤ (gpos R C n).2 ∧ (gpos R C n).2 < C := by
  have h := gprod hR hC
  by_cases c : n = 0
  · subst c
    rw [gpos0 hR hC]
    exact ⟨by decide, by show (0 : Int) < R; omega, by decide, by show (0 : Int) < C; omega⟩
  by_cases c2 : n ≤ R * (C - 1)
  · obtain ⟨r, b, _, e, h1, h2, h3, h4⟩ := gposS hR hC (n := n) (by omega) c2
    rw [e]
    exact ⟨h3, h4, by show 0 ≤ b + 1; omega, by show b + 1 < C; omega⟩
  · rw [gposH hR hC (by omega) h1]
    exact ⟨by show 0 ≤ R * C - n; omega, by show R * C - n < R; omega, Int.le_refl 0, by show (0 : Int) < C; omega⟩
theorem gnum_pos (hR : 2 ≤ R) (hC : 2 ≤ C) {n : Int} (h0 : 0 ≤ n) (h1 : n < R * C) : gnum R C (gpos R C n).1 (gpos R C n).2 = n := by
  have h := gprod hR hC
  by_cases c : n = 0
  · subst c
    rw [gpos0 hR hC]
    unfold gnum
    rw [if_pos rfl, Int.sub_zero, Int.emod_self]
  by_cases c2 : n ≤ R * (C - 1)
  · obtain ⟨r, b, e0, e, h1, h2, h3, h4⟩ := gposS hR hC (n := n) (by omega) c2
    rw [e]
    unfold gnum
    show (if b + 1 = 0 then _ else nofR [C - 1, R] [b + 1 - 1, r] + 1) = n
    rw [if_neg (by omega), show b + 1 - 1 = b by omega, ← e0, nof_sof (ones2 (by omega) (by omega)) (by omega) (by rw [prd2]; omega)]
    omega
  · rw [gposH hR hC (by omega) h1]
    unfold gnum
    show (if (0 : Int) = 0 then (R * C - (R * C - n)) % (R * C) else _) = n
    rw [if_pos rfl, show R * C - (R * C - n) = n by omega, Int.emod_eq_of_lt h0 h1]
theorem gnum_in (hR : 2 ≤ R) (hC : 2 ≤ C) {r c : Int} (h0 : 0 ≤ r) (h1 : r < R) (h2 : 0 ≤ c) (h3 : c < C) : 0 ≤ gnum R C r c ∧ gnum R C r c < R * C := by
  have h := gprod hR hC
  unfold gnum
  split
  · exact ⟨Int.emod_nonneg _ (by omega), Int.emod_lt_of_pos _ (by omega)⟩
  · have k := nof_in (l := [C - 1, R]) (q := [c - 1, r]) ⟨by omega, by omega, h0, h1, trivial⟩
    rw [prd2] at k
    omega
theorem gpos_num (hR : 2 ≤ R) (hC : 2 ≤ C) {r c : Int} (h0 : 0 ≤ r) (h1 : r < R) (h2 : 0 ≤ c) (h3 : c < C) : gpos R C (gnum R C r c) = (r, c) := by
  have h := gprod hR hC
  by_cases cc : c = 0
  · subst cc
    have e : gnum R C r 0 = (R * C - r) % (R * C) := rfl
    by_cases rr : r = 0
    · subst rr
      rw [e, Int.sub_zero, Int.emod_self, gpos0 hR hC]
    · rw [e, Int.emod_eq_of_lt (by omega) (by omega), gposH hR hC (by omega) (by omega), show R * C - (R * C - r) = r by omega]
  · have ok : okS [C - 1, R] [c - 1, r] := ⟨by omega, by omega, h0, h1, trivial⟩
    have k := nof_in ok
    rw [prd2] at k
    have e : gnum R C r c = nofR [C - 1, R] [c - 1, r] + 1 := by
      unfold gnum
      rw [if_neg cc]
    obtain ⟨r2, b, e0, e2, _⟩ := gposS hR hC (n := gnum R C r c) (by omega) (by omega)
    rw [e, show nofR [C - 1, R] [c - 1, r] + 1 - 1 = nofR [C - 1, R] [c - 1, r] by omega, sof_nof ok] at e0
    rw [e2]
    injection e0 with e3 e4
    injection e4 with e4
    rw [← e3, ← e4, show c - 1 + 1 = c by omega]
/-- a step on the grid -/
def gstep (p q : Int × Int) : Prop := absI (p.1 - q.1) + absI (p.2 - q.2) = 1
theorem gpos_step (hR : 2 ≤ R) (hC : 2 ≤ C) (hev : R % 2 = 0) {n : Int} (h0 : 0 ≤ n) (h1 : n < R * C) : gstep (gpos R C n) (gpos R C ((n + 1) % (R * C))) := by
  have h := gprod hR hC
  have ho : ones [C - 1, R] := ones2 (by omega) (by omega)
  unfold gstep
  by_cases c : n + 1 = R * C
  · rw [c, Int.emod_self, gpos0 hR hC, gposH hR hC (by omega) h1, absI_eq, absI_eq]
    show ((R * C - n - 0).natAbs : Int) + (((0 : Int) - 0).natAbs : Int) = 1
    omega
  rw [Int.emod_eq_of_lt (by omega) (by omega)]
  by_cases c0 : n = 0
  · subst c0
    obtain ⟨r, b, e0, e, _⟩ := gposS hR hC (n := 0 + 1) (by omega) (by omega)
    have z : sof [C - 1, R] (0 + 1 - 1) = [0, 0] := sof_zero ho
    rw [z] at e0
    injection e0 with e3 e4
    injection e4 with e4
    rw [gpos0 hR hC, e, ← e3, ← e4]
    rfl
  by_cases c1 : n + 1 ≤ R * (C - 1)
  · obtain ⟨r, b, e0, e, _⟩ := gposS hR hC (n := n) (by omega) (by omega)
    obtain ⟨r2, b2, e02, e2, _⟩ := gposS hR hC (n := n + 1) (by omega) c1
    have s := sof_step (l := [C - 1, R]) (n := n - 1) ho (by omega) (by rw [prd2]; omega)
    rw [show n - 1 + 1 = n + 1 - 1 by omega, e0, e02] at s
    rw [e, e2]
    have s2 : absI (b - b2) + (absI (r - r2) + 0) = 1 := s
    show absI (r - r2) + absI (b + 1 - (b2 + 1)) = 1
    rw [show b + 1 - (b2 + 1) = b - b2 by omega]
    omega
  by_cases c2 : n = R * (C - 1)
  · subst c2
    obtain ⟨r, b, e0, e, hb⟩ := gposS hR hC (n := R * (C - 1)) (by omega) (by omega)
    rw [e, gposH hR hC (by omega) (by omega)]
    have d1 : (R * (C - 1) - 1) / (C - 1) = R - 1 := by
      have : R * (C - 1) - 1 = (C - 2) + (R - 1) * (C - 1) := by
        rw [Int.sub_mul, Int.one_mul]
        omega
      rw [this, Int.add_mul_ediv_right _ _ (by omega), Int.ediv_eq_zero_of_lt (by omega) (by omega)]
      omega
    have d2 : (R * (C - 1) - 1) % (C - 1) = C - 2 := by
      have : R * (C - 1) - 1 = (C - 2) + (R - 1) * (C - 1) := by
        rw [Int.sub_mul, Int.one_mul]
        omega
      rw [this, Int.add_mul_emod_self_right, Int.emod_eq_of_lt (by omega) (by omega)]
    rw [sof2, d1, d2, Int.ediv_eq_zero_of_lt (show 0 ≤ R - 1 by omega) (by omega), Int.emod_eq_of_lt (show 0 ≤ R - 1 by omega) (by omega)] at e0
    injection e0 with e3 e4
    injection e4 with e4
    have m1 : mir (C - 1) (C - 2) (R - 1) = 0 := by
      rcases mir_cases (C - 1) (C - 2) (R - 1) with ⟨q, w⟩ | ⟨q, w⟩ <;> omega
    have m2 : mir R (R - 1) 0 = R - 1 := by
      rcases mir_cases R (R - 1) 0 with ⟨q, w⟩ | ⟨q, w⟩ <;> omega
    rw [← e3, ← e4, m1, m2, absI_eq, absI_eq]
    show ((R - 1 - (R * C - (R * (C - 1) + 1))).natAbs : Int) + (((0 : Int) + 1 - 0).natAbs : Int) = 1
    omega
  · rw [gposH hR hC (by omega) (by omega), gposH hR hC (by omega) (by omega), absI_eq, absI_eq]
    show ((R * C - n - (R * C - (n + 1))).natAbs : Int) + (((0 : Int) - 0).natAbs : Int) = 1
    omega
end
/-! ### the ring of wheels -/
def rRows (ws : List Int) : Int := (ws[evAt ws]?).getD 1
def rOth (ws : List Int) : List Int := dropAt (evAt ws) ws
def rPut (ws : List Int) (p : Int × Int) : List Int := putAt (evAt ws) p.1 (sof (rOth ws).reverse p.2).reverse
def rSet (ws : List Int) (n : Int) : List Int := rPut ws (gpos (rRows ws) (prd (rOth ws)) n)
def rNum (ws st : List Int) : Int := gnum (rRows ws) (prd (rOth ws)) ((st[evAt ws]?).getD 0) (nofR (rOth ws).reverse (dropAt (evAt ws) st).reverse)
structure RingW (ws : List Int) : Prop where
  lt : evAt ws < ws.length
  at_ : ws[evAt ws]? = some (rRows ws)
  ev : rRows ws % 2 = 0
  two : 2 ≤ rRows ws
  cols : 2 ≤ prd (rOth ws)
  mul : prd ws = rRows ws * prd (rOth ws)
  len : (rOth ws).length + 1 = ws.length
  oth : ones (rOth ws)
theorem ringW {ws : List Int} (ho : ones ws) (h : prd ws % 2 = 0 ∧ 2 ≤ (ws.filter fun s => decide (1 < s)).length) : RingW ws := by
  obtain ⟨s, h1, h2, _⟩ := evAt_spec h.1
  have e : rRows ws = s := by
    unfold rRows
    rw [h1]
    rfl
  have hs : 1 ≤ s := ho s (List.mem_of_getElem? h1)
  have hlt : evAt ws < ws.length := (List.getElem?_eq_some_iff.mp h1).1
  refine ⟨hlt, by rw [e]; exact h1, by rw [e]; exact h2, by rw [e]; omega, ?_, ?_, dropAt_len hlt, ones_drop ho⟩
  · refine prd_two (ones_drop ho) ?_
    have := filter_split h1
    have := h.2
    unfold rOth at *
    omega
  · rw [e]
    exact prd_split h1
section
variable {ws : List Int}
theorem way_ok (W : RingW ws) (c : Int) : okS (rOth ws) (sof (rOth ws).reverse c).reverse := by
  have h := okS_reverse (sof_ok (l := (rOth ws).reverse) (n := c) (fun x hx => W.oth x (List.mem_reverse.mp hx)))
  rw [List.reverse_reverse] at h
  exact h
theorem way_len (W : RingW ws) (c : Int) : (sof (rOth ws).reverse c).reverse.length + 1 = ws.length := by
  rw [List.length_reverse, sof_len, List.length_reverse]
  exact W.len
theorem way_step (W : RingW ws) {c d : Int} (hc : 0 ≤ c) (hd : 0 ≤ d) (hc1 : c < prd (rOth ws)) (hd1 : d < prd (rOth ws)) (h : absI (c - d) ≤ 1) : dist (sof (rOth ws).reverse c).reverse (sof (rOth ws).reverse d).reverse = absI (c - d) := by
  have ho : ones (rOth ws).reverse := fun x hx => W.oth x (List.mem_reverse.mp hx)
  rw [dist_reverse (by rw [sof_len, sof_len])]
  rw [absI_eq] at h ⊢
  by_cases e : c = d
  · subst e
    rw [dist_self]
    omega
  by_cases e2 : d = c + 1
  · subst e2
    rw [sof_step ho hc (by rw [prd_reverse]; exact hd1)]
    omega
  · have e3 : c = d + 1 := by omega
    subst e3
    rw [dist_comm, sof_step ho hd (by rw [prd_reverse]; exact hc1)]
    omega
theorem rSet_ok (W : RingW ws) {n : Int} (h0 : 0 ≤ n) (h1 : n < prd ws) : okS ws (rSet ws n) := by
  rw [W.mul] at h1
  have g := gpos_in W.two W.cols h0 h1
  exact okS_put W.at_ (way_ok W _) g.1 g.2.1
theorem evAt_le (W : RingW ws) (c : Int) : evAt ws ≤ (sof (rOth ws).reverse c).reverse.length := by
  have h1 := way_len W c
  have h2 := W.lt
  omega
theorem rNum_set (W : RingW ws) {n : Int} (h0 : 0 ≤ n) (h1 : n < prd ws) : rNum ws (rSet ws n) = n := by
  rw [W.mul] at h1
  have g := gpos_in W.two W.cols h0 h1
  unfold rNum rSet rPut
  rw [put_at (evAt_le W _), drop_put (evAt_le W _), List.reverse_reverse, nof_sof (fun x hx => W.oth x (List.mem_reverse.mp hx)) g.2.2.1 (by rw [prd_reverse]; exact g.2.2.2)]
  exact gnum_pos W.two W.cols h0 h1
theorem rSet_step (W : RingW ws) {n : Int} (h0 : 0 ≤ n) (h1 : n < prd ws) : dist (rSet ws n) (rSet ws ((n + 1) % prd ws)) = 1 := by
  rw [W.mul] at h1 ⊢
  have hp : 0 < rRows ws * prd (rOth ws) := by omega
  have e0 := Int.emod_nonneg (n + 1) (show rRows ws * prd (rOth ws) ≠ 0 by omega)
  have e1 := Int.emod_lt_of_pos (n + 1) hp
  have g := gpos_in W.two W.cols h0 h1
  have g2 := gpos_in W.two W.cols e0 e1
  have st := gpos_step W.two W.cols W.ev h0 h1
  unfold gstep at st
  unfold rSet rPut
  have nn : ∀ z : Int, 0 ≤ absI z := fun z => by rw [absI_eq]; omega
  have n1 := nn ((gpos (rRows ws) (prd (rOth ws)) n).1 - (gpos (rRows ws) (prd (rOth ws)) ((n + 1) % (rRows ws * prd (rOth ws)))).1)
  rw [dist_put _ _ (by have := way_len W (gpos (rRows ws) (prd (rOth ws)) n).2; have := way_len W (gpos (rRows ws) (prd (rOth ws)) ((n + 1) % (rRows ws * prd (rOth ws)))).2; omega) (evAt_le W _), way_step W g.2.2.1 g2.2.2.1 g.2.2.2 g2.2.2.2 (by omega)]
  exact st
theorem set_parts (W : RingW ws) {st : List Int} (h : okS ws st) : ∃ p, st[evAt ws]? = some p ∧ 0 ≤ p ∧ p < rRows ws ∧ okS (rOth ws) (dropAt (evAt ws) st) := by
  have hl := okS_len h
  have hlt : evAt ws < st.length := by rw [hl]; exact W.lt
  have e : st[evAt ws]? = some st[evAt ws] := List.getElem?_eq_getElem hlt
  have h2 := okS_at h W.at_ e
  exact ⟨_, e, h2.1, h2.2, okS_split W.at_ e h⟩
theorem col_in (W : RingW ws) {q : List Int} (h : okS (rOth ws) q) : 0 ≤ nofR (rOth ws).reverse q.reverse ∧ nofR (rOth ws).reverse q.reverse < prd (rOth ws) := by
  have h2 := nof_in (okS_reverse h)
  rw [prd_reverse] at h2
  exact h2
theorem rNum_in (W : RingW ws) {st : List Int} (h : okS ws st) : 0 ≤ rNum ws st ∧ rNum ws st < prd ws := by
  obtain ⟨p, e, h0, h1, h2⟩ := set_parts W h
  have c := col_in W h2
  rw [W.mul]
  unfold rNum
  rw [e]
  exact gnum_in W.two W.cols h0 h1 c.1 c.2
theorem rSet_num (W : RingW ws) {st : List Int} (h : okS ws st) : rSet ws (rNum ws st) = st := by
  obtain ⟨p, e, h0, h1, h2⟩ := set_parts W h
  have c := col_in W h2
  unfold rNum rSet
  rw [e]
  show rPut ws (gpos (rRows ws) (prd (rOth ws)) (gnum (rRows ws) (prd (rOth ws)) p _)) = st
  rw [gpos_num W.two W.cols h0 h1 c.1 c.2]
  unfold rPut
  show putAt (evAt ws) p (sof (rOth ws).reverse (nofR (rOth ws).reverse (dropAt (evAt ws) st).reverse)).reverse = st
  rw [sof_nof (okS_reverse h2), List.reverse_reverse]
  exact put_drop e
end
end Ww
/-! a ring told by number and by setting: what is promised -/
namespace Ww
open PySem PySem.Spec PyProof.Rows L2
/-- a ring: which setting has a number, which number a setting has -/
structure RingF (rs : List Int → Int → List Int) (rn : List Int → List Int → Int) : Prop where
  ok : ∀ {ws : List Int} {n : Int}, ones ws → ¬ noRing ws → 0 ≤ n → n < prd ws → okS ws (rs ws n)
  rn_rs : ∀ {ws : List Int} {n : Int}, ones ws → ¬ noRing ws → 0 ≤ n → n < prd ws → rn ws (rs ws n) = n
  step : ∀ {ws : List Int} {n : Int}, ones ws → ¬ noRing ws → 0 ≤ n → n < prd ws → dist (rs ws n) (rs ws ((n + 1) % prd ws)) = 1
  inn : ∀ {ws st : List Int}, ones ws → ¬ noRing ws → okS ws st → 0 ≤ rn ws st ∧ rn ws st < prd ws
  rs_rn : ∀ {ws st : List Int}, ones ws → ¬ noRing ws → okS ws st → rs ws (rn ws st) = st
def sp_ring_setting (K : PySem.W.Frag) (PT : Addr) (rs : List Int → Int → List Int) : Sp := fun vs H Q _ => ∃ (a : Addr) (ws : List Int) (n : Int), vs = [.ref a, .int n] ∧ GxR.TabG H PT ∧ SqL K H a (ws.map V.int) ∧ sizes ws ∧ ws.length ≤ 1000 ∧ ¬ noRing ws ∧ 0 ≤ n ∧ n < prd ws ∧
  ∀ (p : Addr) (H' : Hp), Same H H' → H p = none → H' p = some (.lst ((rs ws n).map V.int)) → Q (.ref p) H'
def sp_ring_number (K : PySem.W.Frag) (PT : Addr) (rn : List Int → List Int → Int) : Sp := fun vs H Q _ => ∃ (a b : Addr) (ws st : List Int), vs = [.ref a, .ref b] ∧ GxR.TabG H PT ∧ SqL K H a (ws.map V.int) ∧ SqL K H b (st.map V.int) ∧ sizes ws ∧ ws.length ≤ 1000 ∧ ¬ noRing ws ∧ okS ws st ∧
  ∀ H' : Hp, Same H H' → Q (.int (rn ws st)) H'
end Ww
/-! around.py: the doors of a ring -/
namespace Ww
open PySem PySem.Spec PyProof.Rows L2
theorem ring_of {ws : List Int} (h : ¬ noRing ws) : prd ws % 2 = 0 ∧ 2 ≤ (ws.filter fun s => decide (1 < s)).length := Classical.byContradiction h
theorem ringW' {ws : List Int} (hs : sizes ws) (h : ¬ noRing ws) : RingW ws := ringW hs.ones (ring_of h)
theorem shown_ring {ws : List Int} : shown ws .around = true ↔ ¬ noRing ws := by
  show (decide (prd ws % 2 = 0) && decide (1 < turn ws)) = true ↔ _
  rw [Bool.and_eq_true, decide_eq_true_eq, decide_eq_true_eq]
  unfold noRing turn
  rw [Classical.not_not]
  exact ⟨fun h => ⟨h.1, h.2⟩, fun h => ⟨h.1, h.2⟩⟩
/-- the ring that the program goes -/
theorem ringF : RingF rSet rNum where
  ok := fun ho hR h0 h1 => rSet_ok (ringW ho (ring_of hR)) h0 h1
  rn_rs := fun ho hR h0 h1 => rNum_set (ringW ho (ring_of hR)) h0 h1
  step := fun ho hR h0 h1 => rSet_step (ringW ho (ring_of hR)) h0 h1
  inn := fun ho hR h => rNum_in (ringW ho (ring_of hR)) h
  rs_rn := fun ho hR h => rSet_num (ringW ho (ring_of hR)) h
theorem sizes_drop {ws : List Int} (h : sizes ws) (k : Nat) : sizes (dropAt k ws) := fun s hs => by
  rcases List.mem_append.mp hs with hs | hs
  · exact h s (List.mem_of_mem_take hs)
  · exact h s (List.mem_of_mem_drop hs)
theorem map_drop (k : Nat) (ns : List Int) : (dropAt k ns).map V.int = (ns.map V.int).take k ++ (ns.map V.int).drop (k + 1) := by
  unfold dropAt
  rw [List.map_append, List.map_take, List.map_drop]
theorem map_put (k : Nat) (x : Int) (ns : List Int) : (putAt k x ns).map V.int = (ns.map V.int).take k ++ [V.int x] ++ (ns.map V.int).drop k := by
  unfold putAt
  rw [List.map_append, List.map_cons, List.map_take, List.map_drop, List.append_assoc]
  rfl
/-- two wheels, rows and columns -/
abbrev BW : Nat := 300000
theorem wide2 {R C : Int} (h1 : 1 ≤ R) (h2 : 1 ≤ C) (b1 : R.natAbs < 2 ^ BW) (b2 : C.natAbs < 2 ^ BW) : WideB BW [R, C] := by
  refine ⟨fun x hx => ?_, fun x hx => ?_, by show 300000 * 2 + 1 + 300000 ≤ 134217728; decide⟩
  · simp only [List.mem_cons, List.not_mem_nil, or_false] at hx
    rcases hx with rfl | rfl <;> assumption
  · simp only [List.mem_cons, List.not_mem_nil, or_false] at hx
    rcases hx with rfl | rfl <;> assumption
theorem pow_le2 {a b : Nat} (h : a ≤ b) {x : Nat} (hx : x < 2 ^ a) : x < 2 ^ b := Nat.lt_of_lt_of_le hx (Nat.pow_le_pow_right (by decide) h)
theorem prd2' (R C : Int) : prd [R, C] = R * C := by
  show 1 * C * R = R * C
  rw [Int.one_mul, Int.mul_comm]
theorem dv2 {R C n : Int} (hR : 1 ≤ R) (hC : 1 ≤ C) (bR : R.natAbs < 2 ^ 200) (h0 : 0 ≤ n) (h1 : n < R * C) : ∀ (i : Nat) (s : Int), [R, C].reverse[i]? = some s → Builtin.divisionGoesByPylong (ahd ([R, C].reverse.take i) n) s = false := by
  intro i s h
  match i with
  | 0 =>
    have e : C = s := Option.some.inj h
    subst e
    exact noPy h0 hC h1 (by omega) bR
  | 1 =>
    have e : R = s := Option.some.inj h
    subst e
    exact PyProof.noPylong_of_log2 (Nat.lt_of_lt_of_le (PySem.Flt.log2_lt_of (by decide) bR) (by decide))
  | i + 2 => simp at h
section
variable {P : Program} {w : World} {K : PySem.W.Frag} {mg : Str → Option Value} {base : Heap}
/-! ### the first even wheel -/
def sp_even_wheel (K : PySem.W.Frag) (PT : Addr) : Sp := fun vs H Q _ => ∃ (a : Addr) (ws : List Int), vs = [.ref a] ∧ GxR.TabG H PT ∧ SqL K H a (ws.map V.int) ∧ sizes ws ∧ ws.length ≤ 1000 ∧ ¬ noRing ws ∧ ∀ H' : Hp, Same H H' → Q (.int (evAt ws : Nat)) H'
theorem ok_even_wheel {PT CA CD CO : Addr} (D : Df K mg "_even_wheel" s_even_wheel ["wheels"]) (T : Three K CA CD CO) (S : Shows P w K mg base PT CA CD CO) (M_Around : Mk0 K CA) (g_Around : mg "Around" = some (.ref CA)) (G_check_wheels : Ok P w K mg base "check_wheels" ["wheels"] 2 (sp_check_wheels K)) :
    Ok P w K mg base "_even_wheel" ["wheels"] 11 (sp_even_wheel K PT) := by
  refine D.ok sc_even_wheel (fun vs H Q E h => ?_) (fun f cdv A outer s H vs Q E hr h => ?_)
  · obtain ⟨a, ws, rfl, _⟩ := h
    rfl
  · obtain ⟨a, ws, rfl, hT, hW, hs, hl, hR, q⟩ := h
    refine ⟨_, (pss_cons (ps_expr (pe_ok G_check_wheels hr (by decide) (pa_cons (pv 0) pa_nil)))
      (pss_cons (ps_if (pt_not (pt_truth (pe_methP P w K mg base (k := 10) (pe_makeO M_Around g_Around) hr (by decide) (pa_cons (pv 0) pa_nil)) (fun _ => rfl)))
        (pss_one ps_never)
        pss_nil)
      (pss_cons (ps_set (i := 1) sc_even_wheel.nd rfl (.inl rfl) pe_int)
      (pss_cons (ps_while PassesOwn.never (pt_cmpR op_eq (pe_op op_andM (pe_ix (ixL K) (pv 0) (pv 1) (fun _ _ => rfl)) pe_int) pe_int (nomark _))
        (pss_one (ps_set (i := 1) sc_even_wheel.nd rfl (.inl rfl) (pe_op op_add (pv 1) pe_int))))
      (pss_one (ps_ret (pv 1))))))), ?_⟩
    refine ⟨_, rfl, a, ws, rfl, hW, hs.ones, ?_⟩
    refine fun x dx nx ndx hne => ?_
    have u1 : Same H (upd (upd H dx (.own x)) x (.ins CA dx [])) := fun d u e => by
      rw [upd_ne (ne_of_none e nx), upd_ne (ne_of_none e ndx)]
      exact .self e
    have ex : upd (upd H dx (.own x)) x (.ins CA dx []) x = some (.ins CA dx []) := upd_same
    generalize upd (upd H dx (.own x)) x (.ins CA dx []) = H1 at u1 ex ⊢
    obtain ⟨f1, fd1, ps1, m1, b1, F1⟩ := S.a
    refine ⟨x, CA, dx, [], f1, fd1, ps1, _, rfl, ex, rfl, T.a.cl, m1, b1, F1, _, rfl, ?_⟩
    refine ⟨x, a, ws, .around, rfl, rfl, .inr (u1.tab hT), ⟨dx, [], ex⟩, (fun st e => by cases e), u1.seq hW, hs, hl, fun H2 s2 => ?_⟩
    rw [shown_ring.mpr hR]
    obtain ⟨z, hz, hz2, hodd⟩ := evAt_spec (ring_of hR).1
    have hlt : evAt ws < ws.length := (List.getElem?_eq_some_iff.mp hz).1
    have s02 := u1.trans s2
    refine ⟨_, rfl, ?_⟩
    refine ⟨fun m σ H3 => ∃ k : Nat, σ = [some (.ref a), some (.int (k : Nat))] ∧ k + m = evAt ws ∧ H3 = H2, ⟨evAt ws, 0, rfl, Nat.zero_add _, rfl⟩, ?_⟩
    rintro m σ H3 ⟨k, rfl, hk, rfl⟩
    have hkl : k < ws.length := by omega
    have g := at_map_int (List.getElem?_eq_getElem hkl)
    refine ⟨_, rfl, _, rfl, a, _, _, _, rfl, rfl, s02.seq hW, atI_nat g, _, 1, rfl, rfl, rfl, ?_⟩
    refine ⟨_, rfl, ?_⟩
    rw [dec_int1]
    by_cases c : k < evAt ws
    · obtain ⟨t, ht, ho⟩ := hodd k c
      have et : ws[k] = t := Option.some.inj ((List.getElem?_eq_getElem hkl).symm.trans ht)
      rw [et, decide_eq_true (show t % 2 ^ 1 = 1 from ho)]
      refine iteT ⟨fun σ' H' => ∃ k' : Nat, σ' = [some (.ref a), some (.int (k' : Nat))] ∧ k' = k + 1 ∧ H' = H3, fun σ' H' h => ?_, ?_⟩
      · obtain ⟨k', e1, e2, e3⟩ := h
        exact ⟨m - 1, by omega, k', e1, by omega, e3⟩
      · exact ⟨_, rfl, _, _, rfl, rfl, k + 1, rfl, rfl, rfl⟩
    · have ek : k = evAt ws := by omega
      subst ek
      have et : ws[evAt ws] = z := Option.some.inj ((List.getElem?_eq_getElem hkl).symm.trans hz)
      rw [et, decide_eq_false (show ¬ z % 2 ^ 1 = 1 from fun h => by have h' : z % 2 = 1 := h; omega)]
      exact iteF ⟨_, rfl, q _ s02⟩
/-! ### _without -/
theorem cutTo' (xs : List V) (k : Nat) : cutV xs none (some (k : Int)) = xs.take k := by
  unfold cutV
  rw [HT.sIx_none, HT.sIx_nat, List.drop_zero, Nat.sub_zero]
  by_cases h : k ≤ xs.length
  · rw [Nat.min_eq_left h]
  · rw [Nat.min_eq_right (by omega), List.take_length, List.take_of_length_le (by omega)]
theorem cutFrom' (xs : List V) (k : Nat) : cutV xs (some (k : Int)) none = xs.drop k := by
  unfold cutV
  rw [HT.sIx_none, HT.sIx_nat]
  by_cases h : k ≤ xs.length
  · rw [Nat.min_eq_left h, List.take_of_length_le (by rw [List.length_drop]; exact Nat.le_refl _)]
  · rw [Nat.min_eq_right (by omega), Nat.sub_self, List.take_zero, List.drop_of_length_le (by omega)]
def sp_without (K : PySem.W.Frag) : Sp := fun vs H Q _ => ∃ (a : Addr) (ns : List Int) (k : Nat), vs = [.ref a, .int (k : Nat)] ∧ SqL K H a (ns.map V.int) ∧ k < ns.length ∧ ns.length ≤ 1000 ∧
  ∀ (p : Addr) (H' : Hp), Same H H' → H p = none → H' p = some (.lst ((dropAt k ns).map V.int)) → Q (.ref p) H'
theorem ok_without (D : Df K mg "_without" s_without ["numbers", "at"]) : Ok P w K mg base "_without" ["numbers", "at"] 1 (sp_without K) := by
  refine D.ok sc_without (fun vs H Q E h => ?_) (fun f cdv A outer s H vs Q E hr h => ?_)
  · obtain ⟨a, ns, k, rfl, _⟩ := h
    rfl
  · obtain ⟨a, ns, k, rfl, hS, hk, hl, q⟩ := h
    refine ⟨_, (pss_one (ps_ret (pe_op op_cat (pe_slice (slL K) (pv 0) po_none (po_some (pv 1))) (pe_slice (slL K) (pv 0) (po_some (pe_op op_add (pv 1) pe_int)) po_none)))), ?_⟩
    refine ⟨_, rfl, _, rfl, _, rfl, a, _, rfl, hS, fun p np => ?_⟩
    have t1 : Same H (upd H p (.lst (cutV (ns.map V.int) none (some (k : Int))))) := same_upd np
    have e1 : upd H p (.lst (cutV (ns.map V.int) none (some (k : Int)))) p = some (.lst ((ns.map V.int).take k)) := by rw [upd_same, cutTo']
    generalize upd H p (.lst (cutV (ns.map V.int) none (some (k : Int)))) = H1 at t1 e1 ⊢
    refine ⟨_, rfl, _, rfl, _, _, rfl, rfl, _, rfl, a, _, rfl, t1.seq hS, fun p2 np2 => ?_⟩
    have t2 : Same H1 (upd H1 p2 (.lst (cutV (ns.map V.int) (some ((k : Int) + 1)) none))) := same_upd np2
    have e2 : upd H1 p2 (.lst (cutV (ns.map V.int) (some ((k : Int) + 1)) none)) p2 = some (.lst ((ns.map V.int).drop (k + 1))) := by
      rw [upd_same, show ((k : Int) + 1) = ((k + 1 : Nat) : Int) from rfl, cutFrom']
    generalize upd H1 p2 (.lst (cutV (ns.map V.int) (some ((k : Int) + 1)) none)) = H2 at t2 e2 ⊢
    refine ⟨p, p2, _, _, rfl, rfl, t2 _ _ e1, e2, ?_, fun p3 np3 => ?_⟩
    · rw [List.length_take, List.length_drop, List.length_map]
      exact le_line (by omega)
    · refine q p3 _ ((t1.trans t2).trans (same_upd np3)) ((t1.trans t2).free np3) ?_
      rw [upd_same, map_drop]
/-! ### _spot, _spot_number -/
def sp_spot (K : PySem.W.Frag) : Sp := fun vs H Q _ => ∃ R C n : Int, vs = [.int R, .int C, .int n] ∧ 2 ≤ R ∧ 2 ≤ C ∧ R.natAbs < 2 ^ 200 ∧ C.natAbs < 2 ^ BW ∧ 0 ≤ n ∧ n < R * C ∧
  ∀ (p : Addr) (H' : Hp), Same H H' → H p = none → H' p = some (.tup [.int (gpos R C n).1, .int (gpos R C n).2]) → Q (.ref p) H'
theorem ok_spot (D : Df K mg "_spot" s_spot ["rows", "columns", "number"]) (G_setting_of : Ok P w K mg base "setting_of" ["wheels", "number"] 4 (sp_setting_ofW K BW)) : Ok P w K mg base "_spot" ["rows", "columns", "number"] 5 (sp_spot K) := by
  refine D.ok sc_spot (fun vs H Q E h => ?_) (fun f cdv A outer s H vs Q E hr h => ?_)
  · obtain ⟨R, C, n, rfl, _⟩ := h
    rfl
  · obtain ⟨R, C, n, rfl, hR, hC, bR, bC, h0, h1, q⟩ := h
    have gp := gprod hR hC
    have gl := gleft hR hC h0 h1
    refine ⟨_, (pss_cons (ps_set (i := 3) sc_spot.nd rfl (.inl rfl) (pe_op op_mulX (pv 0) (pv 1)))
      (pss_cons (ps_set (i := 4) sc_spot.nd rfl (.inl rfl) (pe_op op_mod (pe_op op_sub (pv 3) (pv 2)) (pv 3)))
      (pss_cons (ps_if (pt_cmpR op_lt (pv 4) (pv 0) (nomark _))
        (pss_one (ps_ret (pe_tup (pa_cons (pv 4) (pa_cons pe_int pa_nil)))))
        pss_nil)
      (pss_cons (ps_asg (pe_ok G_setting_of hr (by decide) (pa_cons (pe_lst (pa_cons (pv 0) (pa_cons (pe_op op_sub (pv 1) pe_int) pa_nil))) (pa_cons (pe_op op_sub (pv 2) pe_int) pa_nil))) (pg_lst rfl (pgs_cons (pg_name (i := 5) sc_spot.nd rfl (.inl rfl)) (pgs_cons (pg_name (i := 6) sc_spot.nd rfl (.inl rfl)) pgs_nil))))
      (pss_one (ps_ret (pe_tup (pa_cons (pv 5) (pa_cons (pe_op op_add (pv 6) pe_int) pa_nil))))))))), ?_⟩
    refine ⟨_, rfl, _, rfl, _, _, rfl, rfl, mulx_ok bR bC (by decide), ?_⟩
    refine ⟨_, rfl, _, rfl, _, _, rfl, rfl, _, rfl, _, _, rfl, rfl, (by omega), ?_⟩
    refine ⟨_, rfl, _, rfl, _, _, rfl, rfl, _, rfl, ite2 (fun c => ?_) (fun c => ?_)⟩
    · have c' := of_decide_eq_true c
      have e : gpos R C n = ((R * C - n) % (R * C), 0) := by
        unfold gpos
        rw [if_pos c']
      rw [e] at q
      exact ⟨_, rfl, (by show 2 ≤ sizeLine; decide), fun p np => q p _ (same_upd np) np upd_same⟩
    · have c' : ¬ (R * C - n) % (R * C) < R := fun h => c (decide_eq_true h)
      have n1 : 1 ≤ n ∧ n ≤ R * (C - 1) := by
        rw [gl] at c'
        split at c' <;> omega
      obtain ⟨r, b, e0, e, _⟩ := gposS hR hC n1.1 n1.2
      rw [e] at q
      have eF : setF [R, C - 1] (n - 1) = [r, b] := by
        show (sof [C - 1, R] (n - 1)).reverse = [r, b]
        rw [e0]
        rfl
      have hC1 : 1 ≤ C - 1 := by omega
      have bR' : R.natAbs < 2 ^ BW := pow_le2 (by decide) bR
      refine ⟨_, rfl, _, rfl, _, _, rfl, rfl, (by show 2 ≤ sizeLine; decide), fun p1 np1 => ?_⟩
      have t1 : Same H (upd H p1 (.lst [.int R, .int (C - 1)])) := same_upd np1
      refine ⟨_, rfl, _, _, rfl, rfl, p1, [R, C - 1], n - 1, rfl, SqL.of upd_same, wide2 (by omega) hC1 bR' (wide_le (by omega) (by omega) bC), (by show 2 ≤ 1000; decide), (by omega), (by rw [prd2']; omega), dv2 (by omega) hC1 bR (by omega) (by omega), fun p2 H2 s2 np2 ep2 => ?_⟩
      rw [eF] at ep2
      refine ⟨p2, _, rfl, SqL.of ep2, rfl, .int r, [.int b], rfl, .int b, [], rfl, rfl, ?_⟩
      refine ⟨_, rfl, _, rfl, _, _, rfl, rfl, (by show 2 ≤ sizeLine; decide), fun p3 np3 => ?_⟩
      exact q p3 _ ((t1.trans s2).trans (same_upd np3)) ((t1.trans s2).free np3) upd_same
def sp_spot_number (K : PySem.W.Frag) : Sp := fun vs H Q _ => ∃ R C r c : Int, vs = [.int R, .int C, .int r, .int c] ∧ 2 ≤ R ∧ 2 ≤ C ∧ R.natAbs < 2 ^ 200 ∧ C.natAbs < 2 ^ BW ∧ 0 ≤ r ∧ r < R ∧ 0 ≤ c ∧ c < C ∧
  ∀ H' : Hp, Same H H' → Q (.int (gnum R C r c)) H'
theorem ok_spot_number (D : Df K mg "_spot_number" s_spot_number ["rows", "columns", "row", "column"]) (G_number_of : Ok P w K mg base "number_of" ["wheels", "setting"] 4 (sp_number_ofW K BW)) : Ok P w K mg base "_spot_number" ["rows", "columns", "row", "column"] 5 (sp_spot_number K) := by
  refine D.ok sc_spot_number (fun vs H Q E h => ?_) (fun f cdv A outer s H vs Q E hr h => ?_)
  · obtain ⟨R, C, r, c, rfl, _⟩ := h
    rfl
  · obtain ⟨R, C, r, c, rfl, hR, hC, bR, bC, h0, h1, h2, h3, q⟩ := h
    have gp := gprod hR hC
    refine ⟨_, (pss_cons (ps_set (i := 4) sc_spot_number.nd rfl (.inl rfl) (pe_op op_mulX (pv 0) (pv 1)))
      (pss_cons (ps_if (pt_cmpR op_eq (pv 3) pe_int (nomark _))
        (pss_one (ps_ret (pe_op op_mod (pe_op op_sub (pv 4) (pv 2)) (pv 4))))
        pss_nil)
      (pss_one (ps_ret (pe_op op_add (pe_ok G_number_of hr (by decide) (pa_cons (pe_lst (pa_cons (pv 0) (pa_cons (pe_op op_sub (pv 1) pe_int) pa_nil))) (pa_cons (pe_lst (pa_cons (pv 2) (pa_cons (pe_op op_sub (pv 3) pe_int) pa_nil))) pa_nil))) pe_int))))), ?_⟩
    refine ⟨_, rfl, _, rfl, _, _, rfl, rfl, mulx_ok bR bC (by decide), ?_⟩
    refine ⟨_, rfl, rfl, _, rfl, ?_⟩
    rw [dec_int1]
    by_cases cc : c = 0
    · rw [decide_eq_true cc]
      have e : gnum R C r c = (R * C - r) % (R * C) := by
        unfold gnum
        rw [if_pos cc]
      rw [e] at q
      refine ⟨_, rfl, _, rfl, _, _, rfl, rfl, _, rfl, _, _, rfl, rfl, (by omega), q H (Same.refl H)⟩
    · rw [decide_eq_false cc]
      have e : gnum R C r c = nofR [C - 1, R] [c - 1, r] + 1 := by
        unfold gnum
        rw [if_neg cc]
      rw [e] at q
      have eF : numF [R, C - 1] [r, c - 1] = nofR [C - 1, R] [c - 1, r] := rfl
      have hC1 : 1 ≤ C - 1 := by omega
      have bR' : R.natAbs < 2 ^ BW := pow_le2 (by decide) bR
      refine ⟨_, rfl, _, rfl, _, _, rfl, rfl, (by show 2 ≤ sizeLine; decide), fun p1 np1 => ?_⟩
      have t1 : Same H (upd H p1 (.lst [.int R, .int (C - 1)])) := same_upd np1
      have e1 : upd H p1 (.lst [.int R, .int (C - 1)]) p1 = some (.lst (([R, C - 1] : List Int).map V.int)) := upd_same
      generalize upd H p1 (.lst [.int R, .int (C - 1)]) = H1 at t1 e1 ⊢
      refine ⟨_, rfl, _, rfl, _, _, rfl, rfl, (by show 2 ≤ sizeLine; decide), fun p2 np2 => ?_⟩
      have t2 : Same H1 (upd H1 p2 (.lst [.int r, .int (c - 1)])) := same_upd np2
      refine ⟨p1, p2, [R, C - 1], [r, c - 1], rfl, SqL.of (t2 _ _ e1), SqL.of upd_same, wide2 (by omega) hC1 bR' (wide_le (by omega) (by omega) bC), ⟨h0, h1, by omega, by omega, trivial⟩, fun H3 s3 => ?_⟩
      rw [eF]
      exact ⟨_, _, rfl, rfl, q H3 ((t1.trans t2).trans s3)⟩
/-! ### ring_setting, ring_number -/
theorem cols_bits {ws : List Int} (hs : sizes ws) (hl : ws.length ≤ 1000) : (prd (rOth ws)).natAbs < 2 ^ BW := by
  have h := prd_bits (l := rOth ws) (sizes_drop hs _)
  refine pow_le2 ?_ h
  have : (rOth ws).length ≤ ws.length := by
    unfold rOth dropAt
    rw [List.length_append, List.length_take, List.length_drop]
    omega
  show 200 * (rOth ws).length + 1 ≤ 300000
  omega
theorem ok_ring_setting {PT : Addr} (D : Df K mg "ring_setting" s_ring_setting ["wheels", "number"]) (G_even_wheel : Ok P w K mg base "_even_wheel" ["wheels"] 11 (sp_even_wheel K PT)) (G_without : Ok P w K mg base "_without" ["numbers", "at"] 1 (sp_without K))
    (G_settings : Ok P w K mg base "settings" ["wheels"] 3 (sp_count K)) (G_check_number : Ok P w K mg base "check_number" ["number", "many"] 2 sp_check_number) (G_spot : Ok P w K mg base "_spot" ["rows", "columns", "number"] 5 (sp_spot K))
    (G_setting_of : Ok P w K mg base "setting_of" ["wheels", "number"] 4 (sp_setting_of K)) : Ok P w K mg base "ring_setting" ["wheels", "number"] 12 (sp_ring_setting K PT rSet) := by
  refine D.ok sc_ring_setting (fun vs H Q E h => ?_) (fun f cdv A outer s H vs Q E hr h => ?_)
  · obtain ⟨a, ws, n, rfl, _⟩ := h
    rfl
  · obtain ⟨a, ws, n, rfl, hT, hW, hs, hl, hR, h0, h1, q⟩ := h
    have W := ringW' hs hR
    have hw := hs.at W.at_
    have hb := cols_bits hs hl
    have hb1 := size_bits hw.1 hw.2
    have h1' := h1
    rw [W.mul] at h1'
    have gi := gpos_in W.two W.cols h0 h1'
    have lo := W.len
    have hlt := W.lt
    refine ⟨_, (pss_cons (ps_set (i := 2) sc_ring_setting.nd rfl (.inl rfl) (pe_ok G_even_wheel hr (by decide) (pa_cons (pv 0) pa_nil)))
      (pss_cons (ps_set (i := 3) sc_ring_setting.nd rfl (.inl rfl) (pe_ok G_without hr (by decide) (pa_cons (pv 0) (pa_cons (pv 2) pa_nil))))
      (pss_cons (ps_set (i := 4) sc_ring_setting.nd rfl (.inl rfl) (pe_ix (ixL K) (pv 0) (pv 2) (fun _ _ => rfl)))
      (pss_cons (ps_set (i := 5) sc_ring_setting.nd rfl (.inl rfl) (pe_ok G_settings hr (by decide) (pa_cons (pv 3) pa_nil)))
      (pss_cons (ps_expr (pe_ok G_check_number hr (by decide) (pa_cons (pv 1) (pa_cons (pe_op op_mulX (pv 4) (pv 5)) pa_nil))))
      (pss_cons (ps_asg (pe_ok G_spot hr (by decide) (pa_cons (pv 4) (pa_cons (pv 5) (pa_cons (pv 1) pa_nil)))) (pg_tup rfl (pgs_cons (pg_name (i := 6) sc_ring_setting.nd rfl (.inl rfl)) (pgs_cons (pg_name (i := 7) sc_ring_setting.nd rfl (.inl rfl)) pgs_nil))))
      (pss_cons (ps_set (i := 8) sc_ring_setting.nd rfl (.inl rfl) (pe_ok G_setting_of hr (by decide) (pa_cons (pv 3) (pa_cons (pv 7) pa_nil))))
      (pss_cons (ps_expr (pe_bm PySem.F.plainAttrs_list PySem.F.slot_list_insert PySem.F.type_list_insert mt_insert (pv 8) (pa_cons (pv 2) (pa_cons (pv 6) pa_nil))))
      (pss_one (ps_ret (pv 8))))))))))), ?_⟩
    refine ⟨_, rfl, a, ws, rfl, hT, hW, hs, hl, hR, fun H1 s1 => ?_⟩
    refine ⟨_, rfl, _, rfl, a, ws, evAt ws, rfl, s1.seq hW, hlt, hl, fun p2 H2 s2 np2 ep2 => ?_⟩
    refine ⟨_, rfl, _, rfl, a, _, _, _, rfl, rfl, (s1.trans s2).seq hW, atI_nat (at_map_int W.at_), ?_⟩
    refine ⟨_, rfl, p2, rOth ws, rfl, SqL.of ep2, sizes_drop hs _, (by omega), ?_⟩
    refine ⟨_, rfl, _, rfl, _, rfl, _, _, rfl, rfl, mulx_ok hb1 hb (by decide), n, _, rfl, h0, h1', ?_⟩
    refine ⟨_, rfl, _, rfl, _, rfl, _, _, n, rfl, W.two, W.cols, hb1, hb, h0, h1', fun p3 H3 s3 np3 ep3 => ?_⟩
    refine ⟨p3, _, rfl, SqT.of ep3, rfl, _, _, rfl, _, _, rfl, rfl, ?_⟩
    refine ⟨_, rfl, _, rfl, p2, rOth ws, (gpos (rRows ws) (prd (rOth ws)) n).2, rfl, SqL.of (s3 _ _ ep2), sizes_drop hs _, (by omega), gi.2.2.1, gi.2.2.2, fun p4 H4 s4 np4 ep4 => ?_⟩
    have hle := evAt_le W (gpos (rRows ws) (prd (rOth ws)) n).2
    refine ⟨_, rfl, .inl ⟨rfl, _, SqL.of ep4⟩, _, rfl, _, rfl, p4, _, _, _, rfl, rfl, ep4, ?_, (by omega), (by omega), ?_⟩
    · have := way_len W (gpos (rRows ws) (prd (rOth ws)) n).2
      rw [List.length_map]
      unfold setF
      exact lt_line (by omega)
    · have s04 := (s1.trans s2).trans s3
      refine ⟨_, rfl, q p4 _ ((s04.trans s4).put (s04.free np4)) (s04.free np4) ?_⟩
      rw [upd_same, Int.toNat_natCast, ← map_put]
      rfl
theorem ok_ring_number {PT : Addr} (D : Df K mg "ring_number" s_ring_number ["wheels", "setting"]) (G_even_wheel : Ok P w K mg base "_even_wheel" ["wheels"] 11 (sp_even_wheel K PT)) (G_without : Ok P w K mg base "_without" ["numbers", "at"] 1 (sp_without K))
    (G_settings : Ok P w K mg base "settings" ["wheels"] 3 (sp_count K)) (G_check_setting : Ok P w K mg base "check_setting" ["wheels", "setting"] 3 (sp_check_setting K)) (G_spot_number : Ok P w K mg base "_spot_number" ["rows", "columns", "row", "column"] 5 (sp_spot_number K))
    (G_number_of : Ok P w K mg base "number_of" ["wheels", "setting"] 4 (sp_number_of K)) : Ok P w K mg base "ring_number" ["wheels", "setting"] 12 (sp_ring_number K PT rNum) := by
  refine D.ok sc_ring_number (fun vs H Q E h => ?_) (fun f cdv A outer s H vs Q E hr h => ?_)
  · obtain ⟨a, b, ws, st, rfl, _⟩ := h
    rfl
  · obtain ⟨a, b, ws, st, rfl, hT, hW, hS, hs, hl, hR, hok, q⟩ := h
    have W := ringW' hs hR
    have hw := hs.at W.at_
    have hb := cols_bits hs hl
    have hb1 := size_bits hw.1 hw.2
    have lo := W.len
    have hlt := W.lt
    have el := okS_len hok
    obtain ⟨p, ep, hp0, hp1, hoth⟩ := set_parts W hok
    have ci := col_in W hoth
    refine ⟨_, (pss_cons (ps_set (i := 2) sc_ring_number.nd rfl (.inl rfl) (pe_ok G_even_wheel hr (by decide) (pa_cons (pv 0) pa_nil)))
      (pss_cons (ps_expr (pe_ok G_check_setting hr (by decide) (pa_cons (pv 0) (pa_cons (pv 1) pa_nil))))
      (pss_cons (ps_set (i := 3) sc_ring_number.nd rfl (.inl rfl) (pe_ok G_without hr (by decide) (pa_cons (pv 0) (pa_cons (pv 2) pa_nil))))
      (pss_cons (ps_set (i := 4) sc_ring_number.nd rfl (.inl rfl) (pe_ix (ixL K) (pv 1) (pv 2) (fun _ _ => rfl)))
      (pss_cons (ps_set (i := 5) sc_ring_number.nd rfl (.inl rfl) (pe_ok G_number_of hr (by decide) (pa_cons (pv 3) (pa_cons (pe_ok G_without hr (by decide) (pa_cons (pv 1) (pa_cons (pv 2) pa_nil))) pa_nil))))
      (pss_one (ps_ret (pe_ok G_spot_number hr (by decide) (pa_cons (pe_ix (ixL K) (pv 0) (pv 2) (fun _ _ => rfl)) (pa_cons (pe_ok G_settings hr (by decide) (pa_cons (pv 3) pa_nil)) (pa_cons (pv 4) (pa_cons (pv 5) pa_nil)))))))))))), ?_⟩
    refine ⟨_, rfl, a, ws, rfl, hT, hW, hs, hl, hR, fun H1 s1 => ?_⟩
    refine ⟨_, rfl, _, rfl, a, b, ws, st, rfl, s1.seq hW, s1.seq hS, hok, fun H2 s2 => ?_⟩
    have s02 := s1.trans s2
    refine ⟨_, rfl, _, rfl, a, ws, evAt ws, rfl, s02.seq hW, hlt, hl, fun p3 H3 s3 np3 ep3 => ?_⟩
    have s03 := s02.trans s3
    refine ⟨_, rfl, _, rfl, b, _, _, _, rfl, rfl, s03.seq hS, atI_nat (at_map_int ep), ?_⟩
    refine ⟨_, rfl, _, rfl, _, rfl, b, st, evAt ws, rfl, s03.seq hS, (by omega), (by omega), fun p4 H4 s4 np4 ep4 => ?_⟩
    refine ⟨p3, p4, rOth ws, dropAt (evAt ws) st, rfl, SqL.of (s4 _ _ ep3), SqL.of ep4, sizes_drop hs _, (by omega), hoth, fun H5 s5 => ?_⟩
    have s05 := (s03.trans s4).trans s5
    refine ⟨_, rfl, _, rfl, a, _, _, _, rfl, rfl, s05.seq hW, atI_nat (at_map_int W.at_), ?_⟩
    refine ⟨_, rfl, p3, rOth ws, rfl, SqL.of (s5 _ _ (s4 _ _ ep3)), sizes_drop hs _, (by omega), ?_⟩
    refine ⟨_, rfl, _, rfl, _, _, _, _, rfl, W.two, W.cols, hb1, hb, hp0, hp1, ci.1, ci.2, fun H6 s6 => ?_⟩
    have e : rNum ws st = gnum (rRows ws) (prd (rOth ws)) p (numF (rOth ws) (dropAt (evAt ws) st)) := by
      unfold rNum
      rw [ep]
      rfl
    have fin := q H6 (s05.trans s6)
    rw [e] at fin
    exact fin
end
end Ww
/-! around.py: around; what is refused -/
namespace Ww
open PySem PySem.Spec PyProof.Rows L2
theorem way0 (s : Int) : way1 0 s = if decide (1 < s) = true then 1 else 0 := by
  unfold way1
  have e : decide ((0 : Int) + 1 < s) = decide (1 < s) := decide_eq_decide.mpr (by omega)
  rw [e, show decide ((0 : Int) < 0) = false from rfl, if_neg (by decide), Int.zero_add]
theorem ways_noughts : ∀ ws : List Int, (waysL (List.replicate ws.length 0) ws).sum = (turn ws : Int)
  | [] => rfl
  | s :: r => by
    have ih := ways_noughts r
    show (way1 0 s :: waysL (List.replicate r.length 0) r).sum = _
    rw [List.sum_cons, ih, way0]
    unfold turn
    by_cases c : decide (1 < s) = true
    · rw [if_pos c, List.filter_cons_of_pos (by exact c), List.length_cons]
      omega
    · rw [if_neg c, List.filter_cons_of_neg (by exact c)]
      omega
theorem noughts_ok2 : ∀ {ws : List Int}, ones ws → okS ws (List.replicate ws.length 0)
  | [], _ => trivial
  | w :: ws, h => ⟨Int.le_refl 0, by have := h w List.mem_cons_self; omega, noughts_ok2 fun x hx => h x (List.mem_cons_of_mem _ hx)⟩
theorem shown_noughts {ws : List Int} (h : ones ws) : shown ws (.dead (List.replicate ws.length 0)) = decide (turn ws < 2) := by
  show (isB ws (List.replicate ws.length 0) && decide ((waysL (List.replicate ws.length 0) ws).sum < 2)) = _
  rw [isB_of (noughts_ok2 h), Bool.true_and, ways_noughts]
  exact decide_eq_decide.mpr (by omega)
theorem noughts_map2 {n : Nat} : ((List.replicate n [V.int 0]).flatten : List V) = (List.replicate n (0 : Int)).map V.int := by
  induction n with
  | zero => rfl
  | succ n ih =>
    rw [List.replicate_succ, List.flatten_cons, ih]
    rfl
/-- none of two: odd -/
theorem shown_odd {ws : List Int} (h1 : shown ws .around = false) (h2 : ¬ turn ws < 2) : shown ws .odd = true := by
  have e1 : (decide (prd ws % 2 = 0) && decide (1 < turn ws)) = false := h1
  rw [decide_eq_true (show 1 < turn ws by omega), Bool.and_true, even_odd] at e1
  show decide (prd ws % 2 = 1) = true
  cases e : decide (prd ws % 2 = 1) with
  | true => rfl
  | false =>
    rw [e] at e1
    cases e1
section
variable {P : Program} {w : World} {K : PySem.W.Frag} {mg : Str → Option Value} {base : Heap}
theorem ok_around {PT CA CD CO : Addr} (D : Df K mg "around" s_around ["wheels"]) (B : Bi mg) (T : Three K CA CD CO) (S : Shows P w K mg base PT CA CD CO) (M_Around : Mk0 K CA) (g_Around : mg "Around" = some (.ref CA)) (M_Odd : Mk0 K CO) (g_Odd : mg "Odd" = some (.ref CO))
    (M_Dead : C8.Mak P w K mg base 10 "Dead" CD (sp_dead_init K CD) []) (G_check_wheels : Ok P w K mg base "check_wheels" ["wheels"] 2 (sp_check_wheels K)) : Ok P w K mg base "around" ["wheels"] 12 (sp_around K PT CA CD CO) := by
  refine D.ok sc_around (fun vs H Q E h => ?_) (fun f cdv A outer s H vs Q E hr h => ?_)
  · obtain ⟨a, ws, rfl, _⟩ := h
    rfl
  · obtain ⟨a, ws, rfl, hT, hW, hs, hl, q⟩ := h
    refine ⟨_, (pss_cons (ps_expr (pe_ok G_check_wheels hr (by decide) (pa_cons (pv 0) pa_nil)))
      (pss_cons (ps_if (pt_truth (pe_methP P w K mg base (k := 10) (pe_makeO M_Around g_Around) hr (by decide) (pa_cons (pv 0) pa_nil)) (fun _ => rfl))
        (pss_one (ps_ret (pe_makeO M_Around g_Around)))
        pss_nil)
      (pss_cons (ps_set (i := 1) sc_around.nd rfl (.inl rfl) (C8.pe_mk M_Dead hr (by decide) rfl (pa_cons (pe_op op_rep (pe_lst (pa_cons pe_int pa_nil)) (pe_callB (lenK K) (by rfl) B.len PySem.boot_len (pa_cons (pv 0) pa_nil))) pa_nil)))
      (pss_cons (ps_if (pt_truth (pe_methP P w K mg base (k := 10) (pv 1) hr (by decide) (pa_cons (pv 0) pa_nil)) (fun _ => rfl))
        (pss_one (ps_ret (pv 1)))
        pss_nil)
      (pss_one (ps_ret (pe_makeO M_Odd g_Odd))))))), ?_⟩
    refine ⟨_, rfl, a, ws, rfl, hW, hs.ones, ?_⟩
    refine fun x dx nx ndx hne => ?_
    have u1 : Same H (upd (upd H dx (.own x)) x (.ins CA dx [])) := fun d u e => by
      rw [upd_ne (ne_of_none e nx), upd_ne (ne_of_none e ndx)]
      exact .self e
    have ex : upd (upd H dx (.own x)) x (.ins CA dx []) x = some (.ins CA dx []) := upd_same
    generalize upd (upd H dx (.own x)) x (.ins CA dx []) = H1 at u1 ex ⊢
    obtain ⟨f1, fd1, ps1, m1, b1, F1⟩ := S.a
    refine ⟨x, CA, dx, [], f1, fd1, ps1, _, rfl, ex, rfl, T.a.cl, m1, b1, F1, _, rfl, ?_⟩
    refine ⟨x, a, ws, .around, rfl, rfl, .inr (u1.tab hT), ⟨dx, [], ex⟩, (fun st e => by cases e), u1.seq hW, hs, hl, fun H2 s2 => ?_⟩
    have s02 := u1.trans s2
    cases hA : shown ws .around with
    | true =>
      refine ⟨_, rfl, fun x2 dx2 nx2 ndx2 hne2 => ?_⟩
      have u2 : Same H2 (upd (upd H2 dx2 (.own x2)) x2 (.ins CA dx2 [])) := fun d u e => by
        rw [upd_ne (ne_of_none e nx2), upd_ne (ne_of_none e ndx2)]
        exact .self e
      exact q .around x2 _ (s02.trans u2) ⟨dx2, [], s02.free nx2, upd_same, rfl⟩ hA ⟨fun _ => shown_ring.mp hA, fun _ => rfl⟩ fun st e => by cases e
    | false =>
      have hnr : noRing ws := Classical.byContradiction fun h => by
        rw [shown_ring.mpr h] at hA
        cases hA
      refine ⟨_, rfl, ?_⟩
      refine ⟨(by show 1 ≤ sizeLine; decide), fun z nz => ?_⟩
      have t3 : Same H2 (upd H2 z (.lst [.int 0])) := same_upd nz
      have ez : upd H2 z (.lst [.int 0]) z = some (.lst [.int 0]) := upd_same
      generalize upd H2 z (.lst [.int 0]) = H3 at t3 ez ⊢
      have s03 := s02.trans t3
      refine ⟨_, rfl, a, _, rfl, .inl (s03.seq hW), z, _, [.int 0], rfl, rfl, ez, ?_⟩
      rw [List.length_map]
      refine ⟨(by omega), (by omega), (by rw [Int.toNat_natCast]; exact le_line (by show 1 * ws.length ≤ 100000; omega)), fun z2 nz2 => ?_⟩
      rw [Int.toNat_natCast, noughts_map2]
      have t4 : Same H3 (upd H3 z2 (.lst ((List.replicate ws.length (0 : Int)).map V.int))) := same_upd nz2
      have ez2 : upd H3 z2 (.lst ((List.replicate ws.length (0 : Int)).map V.int)) z2 = some (.lst ((List.replicate ws.length (0 : Int)).map V.int)) := upd_same
      generalize upd H3 z2 (.lst ((List.replicate ws.length (0 : Int)).map V.int)) = H4 at t4 ez2 ⊢
      have s04 := s03.trans t4
      refine fun x3 dx3 nx3 ndx3 hne3 => ?_
      have u3 : Same H4 (upd (upd H4 dx3 (.own x3)) x3 (.ins CD dx3 [])) := fun d u e => by
        rw [upd_ne (ne_of_none e nx3), upd_ne (ne_of_none e ndx3)]
        exact .self e
      have ex3 : upd (upd H4 dx3 (.own x3)) x3 (.ins CD dx3 []) x3 = some (.ins CD dx3 []) := upd_same
      generalize upd (upd H4 dx3 (.own x3)) x3 (.ins CD dx3 []) = H5 at u3 ex3 ⊢
      refine ⟨x3, dx3, z2, List.replicate ws.length 0, rfl, ex3, SqL.of (u3 _ _ ez2), fun fs p H6 s6 ex6 hls hset np ep => ⟨rfl, ?_⟩⟩
      have s06 : Same H H6 := s04.over nx3 u3 s6
      have hlr : (List.replicate ws.length (0 : Int)).length ≤ 1000 := by rw [List.length_replicate]; exact hl
      refine rd_shows (A := .dead (List.replicate ws.length 0)) T S rfl ⟨dx3, fs, ex6, hls⟩ ?_
      refine ⟨_, rfl, x3, a, ws, .dead (List.replicate ws.length 0), rfl, rfl, .inl rfl, ⟨dx3, fs, p, ex6, hset, SqL.of ep⟩, (fun st e => by cases e; exact hlr), s06.seq hW, hs, hl, fun H7 s7 => ?_⟩
      have s07 := s06.trans s7
      rw [shown_noughts hs.ones]
      by_cases ht : turn ws < 2
      · rw [decide_eq_true ht]
        refine ⟨_, rfl, _, rfl, ?_⟩
        have h0p : H p = none := (s04.trans u3).free np
        have nep : p ≠ x3 := (ne_of_none ex3 np).symm
        exact q (.dead (List.replicate ws.length 0)) x3 _ s07 ⟨dx3, fs, p, s04.free nx3, s7 _ _ ex6, hls, hset, h0p, s7 _ _ ep, nep⟩ (by rw [shown_noughts hs.ones, decide_eq_true ht]) ⟨fun e => by (cases e), fun h => absurd hnr h⟩ fun st e => by (cases e; rw [List.length_replicate])
      · rw [decide_eq_false ht]
        refine ⟨_, rfl, fun x2 dx2 nx2 ndx2 hne2 => ?_⟩
        have u2 : Same H7 (upd (upd H7 dx2 (.own x2)) x2 (.ins CO dx2 [])) := fun d u e => by
          rw [upd_ne (ne_of_none e nx2), upd_ne (ne_of_none e ndx2)]
          exact .self e
        exact q .odd x2 _ (s07.trans u2) ⟨dx2, [], s07.free nx2, upd_same, rfl⟩ (shown_odd hA ht) ⟨fun e => by (cases e), fun h => absurd hnr h⟩ fun st e => by cases e
/-! ### no ring -/
def sp_no_ring1 (K : PySem.W.Frag) (PT CR : Addr) : Sp := fun vs H _ E => ∃ (a : Addr) (ws : List Int), vs = [.ref a] ∧ GxR.TabG H PT ∧ SqL K H a (ws.map V.int) ∧ sizes ws ∧ ws.length ≤ 1000 ∧ noRing ws ∧ ∀ H' : Hp, Same H H' → E (.ref CR) none H'
theorem bad_even_wheel {PT CA CD CO CR : Addr} (D : Df K mg "_even_wheel" s_even_wheel ["wheels"]) (T : Three K CA CD CO) (S : Shows P w K mg base PT CA CD CO) (M_Around : Mk0 K CA) (g_Around : mg "Around" = some (.ref CA)) (G_check_wheels : Ok P w K mg base "check_wheels" ["wheels"] 2 (sp_check_wheels K)) (T_NoRing : Err K mg "NoRing" CR) :
    OkX P w K mg base "_even_wheel" ["wheels"] 11 (sp_no_ring1 K PT CR) := by
  refine D.okX sc_even_wheel (fun vs H Q E h => ?_) (fun f cdv A outer s H vs Q E hr h => ?_)
  · obtain ⟨a, ws, rfl, _⟩ := h
    rfl
  · obtain ⟨a, ws, rfl, hT, hW, hs, hl, hR, q⟩ := h
    refine ⟨_, (pss_cons (ps_expr (pe_ok G_check_wheels hr (by decide) (pa_cons (pv 0) pa_nil)))
      (pss_cons (ps_if (pt_not (pt_truth (pe_methP P w K mg base (k := 10) (pe_makeO M_Around g_Around) hr (by decide) (pa_cons (pv 0) pa_nil)) (fun _ => rfl)))
        (pss_one (ps_err T_NoRing rfl (L2N.takes_of rfl rfl rfl rfl)))
        pss_nil)
      pss_never)), ?_⟩
    refine ⟨_, rfl, a, ws, rfl, hW, hs.ones, ?_⟩
    refine fun x dx nx ndx hne => ?_
    have u1 : Same H (upd (upd H dx (.own x)) x (.ins CA dx [])) := fun d u e => by
      rw [upd_ne (ne_of_none e nx), upd_ne (ne_of_none e ndx)]
      exact .self e
    have ex : upd (upd H dx (.own x)) x (.ins CA dx []) x = some (.ins CA dx []) := upd_same
    generalize upd (upd H dx (.own x)) x (.ins CA dx []) = H1 at u1 ex ⊢
    obtain ⟨f1, fd1, ps1, m1, b1, F1⟩ := S.a
    refine ⟨x, CA, dx, [], f1, fd1, ps1, _, rfl, ex, rfl, T.a.cl, m1, b1, F1, _, rfl, ?_⟩
    refine ⟨x, a, ws, .around, rfl, rfl, .inr (u1.tab hT), ⟨dx, [], ex⟩, (fun st e => by cases e), u1.seq hW, hs, hl, fun H2 s2 => ?_⟩
    have hA : shown ws .around = false := by
      cases e : shown ws .around with
      | false => rfl
      | true => exact absurd hR (shown_ring.mp e)
    rw [hA]
    exact ⟨_, rfl, q H2 (u1.trans s2)⟩
theorem nor_ring_setting {PT CR : Addr} (D : Df K mg "ring_setting" s_ring_setting ["wheels", "number"]) (X_even_wheel : OkX P w K mg base "_even_wheel" ["wheels"] 11 (sp_no_ring1 K PT CR)) : OkX P w K mg base "ring_setting" ["wheels", "number"] 13 (sp_no_ring K PT CR) := by
  refine D.okX sc_ring_setting (fun vs H Q E h => ?_) (fun f cdv A outer s H vs Q E hr h => ?_)
  · obtain ⟨a, u, ws, rfl, _⟩ := h
    rfl
  · obtain ⟨a, u, ws, rfl, hT, hW, hs, hl, hR, q⟩ := h
    refine ⟨_, (pss_cons (ps_set (i := 2) sc_ring_setting.nd rfl (.inl rfl) (pe_okX X_even_wheel hr (by decide) (L2N.passes_call (L2N.takes_of rfl rfl rfl rfl) (fun _ _ _ _ h => h)) (pa_cons (pv 0) pa_nil)))
      pss_never), ?_⟩
    exact ⟨_, rfl, a, ws, rfl, hT, hW, hs, by omega, hR, q⟩
theorem nor_ring_number {PT CR : Addr} (D : Df K mg "ring_number" s_ring_number ["wheels", "setting"]) (X_even_wheel : OkX P w K mg base "_even_wheel" ["wheels"] 11 (sp_no_ring1 K PT CR)) : OkX P w K mg base "ring_number" ["wheels", "setting"] 13 (sp_no_ring K PT CR) := by
  refine D.okX sc_ring_number (fun vs H Q E h => ?_) (fun f cdv A outer s H vs Q E hr h => ?_)
  · obtain ⟨a, u, ws, rfl, _⟩ := h
    rfl
  · obtain ⟨a, u, ws, rfl, hT, hW, hs, hl, hR, q⟩ := h
    refine ⟨_, (pss_cons (ps_set (i := 2) sc_ring_number.nd rfl (.inl rfl) (pe_okX X_even_wheel hr (by decide) (L2N.passes_call (L2N.takes_of rfl rfl rfl rfl) (fun _ _ _ _ h => h)) (pa_cons (pv 0) pa_nil)))
      pss_never), ?_⟩
    exact ⟨_, rfl, a, ws, rfl, hT, hW, hs, by omega, hR, q⟩
end
end Ww
/-! texts.py: written -/
namespace Ww
open PySem PySem.Spec PyProof.Rows L2
/-- f'..' of two parts or more, its reading by a name (so that it serves within a comprehension) -/
def tFS (ts : List TE) : TE := fun σ H Q => tJs ts Str.empty σ H fun out H1 => Q (.str out) H1
theorem pe_joinedT {X : Cx} {v1 v2 : Expr} {rest : List Expr} {ts : List TE} {pos : Pos} (h : PJ X (v1 :: v2 :: rest) ts) : PE X (.JoinedStr (v1 :: v2 :: rest) pos) (tFS ts) := pe_joined h
/-- a number in figures -/
def fig (n : Int) : Str := Str.ofString (toString n)
/-- a setting written -/
def txtOf (ws st : List Int) : Str := Str.empty ++ Txt.join " " (ws.map fig) ++ ":" ++ Txt.join "" (st.map fun p => Str.empty ++ " " ++ fig p)
theorem fig_len {n : Int} (h0 : 0 ≤ n) (h : n < 10 ^ 60) : (fig n).length ≤ 60 := PyProof.Rows.toString_length_le h0 (by decide) h
theorem fig_bits {n : Int} (h0 : 0 ≤ n) (h : n < 10 ^ 60) : n.natAbs.log2 < 1920 := by
  have h2 : n.natAbs < 2 ^ 200 := by
    have e : (10 : Int) ^ 60 < 2 ^ 200 := by decide +kernel
    omega
  exact Nat.lt_of_lt_of_le (PySem.Flt.log2_lt_of (by decide) h2) (by decide)
theorem app_len (a b : Str) : (a ++ b).length = a.length + b.length := by
  show (a.cps ++ b.cps).size = _
  rw [Array.size_append]
  rfl
theorem sum_le {k : Nat} : ∀ {l : List Nat}, (∀ x ∈ l, x ≤ k) → l.sum ≤ l.length * k
  | [], _ => Nat.zero_le _
  | x :: r, h => by
    have h1 := h x List.mem_cons_self
    have h2 := sum_le (l := r) fun y hy => h y (List.mem_cons_of_mem _ hy)
    rw [List.sum_cons, List.length_cons, Nat.succ_mul]
    omega
theorem sizes_lens {ws : List Int} (h : ∀ x ∈ ws, 0 ≤ x ∧ x < 10 ^ 60) : (((ws.map fig).map (·.length)).sum) ≤ ws.length * 60 := by
  have := sum_le (k := 60) (l := (ws.map fig).map (·.length)) fun x hx => by
    obtain ⟨y, hy, rfl⟩ := List.mem_map.mp hx
    obtain ⟨z, hz, rfl⟩ := List.mem_map.mp hy
    exact fig_len (h z hz).1 (h z hz).2
  rw [List.length_map, List.length_map] at this
  exact this
theorem blank_len {p : Int} (h0 : 0 ≤ p) (h : p < 10 ^ 60) : (Str.empty ++ " " ++ fig p).length ≤ 61 := by
  rw [app_len, app_len]
  have := fig_len h0 h
  have e1 : Str.empty.length = 0 := rfl
  have e2 : (" " : Str).length = 1 := rfl
  omega
theorem nums_lens {st : List Int} (h : ∀ x ∈ st, 0 ≤ x ∧ x < 10 ^ 60) : (((st.map fun p => Str.empty ++ " " ++ fig p).map (·.length)).sum) ≤ st.length * 61 := by
  have := sum_le (k := 61) (l := (st.map fun p => Str.empty ++ " " ++ fig p).map (·.length)) fun x hx => by
    obtain ⟨y, hy, rfl⟩ := List.mem_map.mp hx
    obtain ⟨z, hz, rfl⟩ := List.mem_map.mp hy
    exact blank_len (h z hz).1 (h z hz).2
  rw [List.length_map, List.length_map] at this
  exact this
theorem okS_mem : ∀ {ws st : List Int}, okS ws st → ∀ p ∈ st, 0 ≤ p ∧ ∃ s ∈ ws, p < s
  | [], [], _, p, h => by cases h
  | [], _ :: _, h, _, _ => h.elim
  | _ :: _, [], h, _, _ => h.elim
  | s :: ws, q :: st, h, p, hp => by
    rcases List.mem_cons.mp hp with rfl | hp
    · exact ⟨h.1, s, List.mem_cons_self, h.2.1⟩
    · obtain ⟨h1, s2, h2, h3⟩ := okS_mem h.2.2 p hp
      exact ⟨h1, s2, List.mem_cons_of_mem _ h2, h3⟩
section
variable {P : Program} {w : World} {K : PySem.W.Frag} {mg : Str → Option Value} {base : Heap}
def sp_written (K : PySem.W.Frag) : Sp := fun vs H Q _ => ∃ (a b : Addr) (ws st : List Int), vs = [.ref a, .ref b] ∧ SqL K H a (ws.map V.int) ∧ SqL K H b (st.map V.int) ∧ ones ws ∧ (∀ x ∈ ws, x < 10 ^ 60) ∧ ws.length ≤ 1000 ∧ okS ws st ∧ ∀ H' : Hp, Same H H' → Q (.str (txtOf ws st)) H'
theorem ok_written (D : Df K mg "written" s_written ["wheels", "setting"]) (B : Bi mg) (G_check_wheels : Ok P w K mg base "check_wheels" ["wheels"] 2 (sp_check_wheels K)) (G_check_setting : Ok P w K mg base "check_setting" ["wheels", "setting"] 3 (sp_check_setting K)) :
    Ok P w K mg base "written" ["wheels", "setting"] 12 (sp_written K) := by
  refine D.ok sc_written (fun vs H Q E h => ?_) (fun f cdv A outer s H vs Q E hr h => ?_)
  · obtain ⟨a, b, ws, st, rfl, _⟩ := h
    rfl
  · obtain ⟨a, b, ws, st, rfl, hW, hS, ho, hbig, hl, hok, q⟩ := h
    have el := okS_len hok
    have hws : ∀ x ∈ ws, 0 ≤ x ∧ x < 10 ^ 60 := fun x hx => ⟨by have := ho x hx; omega, hbig x hx⟩
    have hst : ∀ x ∈ st, 0 ≤ x ∧ x < 10 ^ 60 := fun x hx => by
      obtain ⟨h0, z, hz, h1⟩ := okS_mem hok x hx
      have := hbig z hz
      exact ⟨h0, by omega⟩
    refine ⟨_, (pss_cons (ps_expr (pe_ok G_check_wheels hr (by decide) (pa_cons (pv 0) pa_nil)))
      (pss_cons (ps_for PassesOwn.never rfl (pi_list (pv 0)) (pg_name (i := 2) sc_written.nd rfl (.inl rfl))
        (pss_one (ps_if (pt_cmpR op_ge (pv 2) (pe_op op_pow pe_int pe_int) (nomark _))
          (pss_one ps_never)
          pss_nil)))
      (pss_cons (ps_expr (pe_ok G_check_setting hr (by decide) (pa_cons (pv 0) (pa_cons (pv 1) pa_nil))))
      (pss_cons (ps_set (i := 3) sc_written.nd rfl (.inl rfl) (pe_join pe_str (pe_lc (own := [("size", 2)]) (g := gName 2) (tt := tYes) rfl sc_written.nd (pi_list (pv 0)) (blkOk_by (own := [("size", 2)]) (N := ["wheels", "setting", "size", "sizes", "numbers", "place"]) (sc := defScope s_written) (by decide +kernel)) (fun _ _ _ _ _ => pg_name (i := 2) sc_written.nd rfl (.inl rfl)) (fun _ _ _ _ _ => pts_nil) (fun _ _ _ _ _ => (pe_callTy call_str_int (by rfl) B.str boot_str (pa_cons (pv 2) pa_nil))))))
      (pss_cons (ps_set (i := 4) sc_written.nd rfl (.inl rfl) (pe_join pe_str (pe_lc (own := [("place", 5)]) (g := gName 5) (tt := tYes) rfl sc_written.nd (pi_list (pv 1)) (blkOk_by (own := [("place", 5)]) (N := ["wheels", "setting", "size", "sizes", "numbers", "place"]) (sc := defScope s_written) (by decide +kernel)) (fun _ _ _ _ _ => pg_name (i := 5) sc_written.nd rfl (.inl rfl)) (fun _ _ _ _ _ => pts_nil) (fun _ _ _ _ _ => (pe_joinedT (.cons pe_str (.cons (pe_fmt (pv 5)) .nil)))))))
      (pss_one (ps_ret (pe_joinedT (.cons (pe_fmt (pv 3)) (.cons pe_str (.cons (pe_fmt (pv 4)) .nil))))))))))), ?_⟩
    refine ⟨_, rfl, a, ws, rfl, hW, ho, ?_⟩
    refine ⟨_, rfl, a, rfl, ⟨_, hW⟩, for_list (K := K) (a := a) (xs := ws.map V.int) (fun i σ H3 => ∃ y2 : Option V, σ = [some (.ref a), some (.ref b), y2, none, none, none] ∧ H3 = H) ⟨none, rfl, rfl⟩ (fun i σ H3 _ ⟨_, _, e⟩ => by rw [e]; exact hW) ?_ ?_⟩
    · rintro i x σ H3 hx ⟨y2, rfl, rfl⟩
      obtain ⟨z, hz, rfl⟩ := map_int_at hx
      have hlt := hbig z (List.mem_of_getElem? hz)
      refine ⟨_, rfl, _, _, rfl, rfl, ⟨by decide, by decide, by decide⟩, _, _, rfl, rfl, _, rfl, ite2 (fun c => ?_) (fun _ => ⟨_, rfl, rfl⟩)⟩
      have c' : (10 : Int) ^ 60 ≤ z := of_decide_eq_true c
      omega
    · rintro σ H3 ⟨y2, rfl, rfl⟩
      refine ⟨_, rfl, _, rfl, a, b, ws, st, rfl, hW, hS, hok, fun H1 s1 => ?_⟩
      refine ⟨⟨_, rfl⟩, _, rfl, a, rfl, ⟨_, s1.seq hW⟩, fun D nD => ?_⟩
      refine lc_list (K := K) (a := a) (xs := ws.map V.int) (fun i H4 => Same H1 H4 ∧ H4 D = some (.lst (((ws.take i).map fig).map V.str))) ⟨same_upd nD, upd_same⟩ (fun i H4 _ h => (s1.trans h.1).seq hW) ?_ ?_
      · rintro i x H4 hx ⟨s4, eD⟩
        obtain ⟨z, hz, rfl⟩ := map_int_at hx
        have hi : i < ws.length := (List.getElem?_eq_some_iff.mp hz).1
        have hzb := hws z (List.mem_of_getElem? hz)
        refine ⟨rfl, _, rfl, z, rfl, fig_bits hzb.1 hzb.2, _, eD, ?_, ?_, ?_⟩
        · rw [List.length_map, List.length_map, List.length_take]
          exact lt_line (by omega)
        · intro d u e
          rw [upd_ne (ne_of_none e nD)]
          exact s4 _ _ e
        · rw [upd_same, take_more hz, List.map_append, List.map_append]
          rfl
      rintro H4 ⟨s4, eD⟩
      rw [List.length_map, List.take_length] at eD
      have b1 : ((ws.map fig).map (·.length)).sum + (ws.map fig).length * (" " : Str).length ≤ 61000 := by
        have := sizes_lens hws
        have e2 : (" " : Str).length = 1 := rfl
        rw [List.length_map, e2]
        omega
      refine ⟨" ", D, ws.map fig, rfl, rfl, .inl (SqL.of eD), Nat.le_trans b1 (by decide), ?_⟩
      have s14 := s1.trans s4
      refine ⟨⟨_, rfl⟩, _, rfl, b, rfl, ⟨_, s14.seq hS⟩, fun D2 nD2 => ?_⟩
      refine lc_list (K := K) (a := b) (xs := st.map V.int) (fun i H5 => Same H4 H5 ∧ H5 D2 = some (.lst (((st.take i).map fun p => Str.empty ++ " " ++ fig p).map V.str))) ⟨same_upd nD2, upd_same⟩ (fun i H5 _ h => (s14.trans h.1).seq hS) ?_ ?_
      · rintro i x H5 hx ⟨s5, eD2⟩
        obtain ⟨z, hz, rfl⟩ := map_int_at hx
        have hi : i < st.length := (List.getElem?_eq_some_iff.mp hz).1
        have hzb := hst z (List.mem_of_getElem? hz)
        refine ⟨rfl, " ", rfl, (by decide), _, rfl, .inr ⟨z, rfl, fig_bits hzb.1 hzb.2, fig z, rfl, ?_, _, eD2, ?_, ?_, ?_⟩⟩
        · exact Nat.le_trans (blank_len hzb.1 hzb.2) (by decide)
        · rw [List.length_map, List.length_map, List.length_take]
          exact lt_line (by omega)
        · intro d u e
          rw [upd_ne (ne_of_none e nD2)]
          exact s5 _ _ e
        · rw [upd_same, take_more hz, List.map_append, List.map_append]
          rfl
      rintro H5 ⟨s5, eD2⟩
      rw [List.length_map, List.take_length] at eD2
      have b2 : ((st.map fun p => Str.empty ++ " " ++ fig p).map (·.length)).sum + (st.map fun p => Str.empty ++ " " ++ fig p).length * ("" : Str).length ≤ 61000 := by
        have := nums_lens hst
        have e2 : ("" : Str).length = 0 := rfl
        rw [List.length_map, e2]
        omega
      refine ⟨"", D2, st.map fun p => Str.empty ++ " " ++ fig p, rfl, rfl, .inl (SqL.of eD2), Nat.le_trans b2 (by decide), ?_⟩
      have j1 := Nat.le_trans (StrLaws.join_length_le " " (ws.map fig)) b1
      have j2 := Nat.le_trans (StrLaws.join_length_le "" (st.map fun p => Str.empty ++ " " ++ fig p)) b2
      rw [← StrLaws.glued_eq_join] at j1 j2
      have j1' : (Txt.join " " (ws.map fig)).length ≤ 61000 := j1
      have j2' : (Txt.join "" (st.map fun p => Str.empty ++ " " ++ fig p)).length ≤ 61000 := j2
      have e0 : Str.empty.length = 0 := rfl
      have e1 : (":" : Str).length = 1 := rfl
      refine ⟨_, rfl, .inl ⟨_, rfl, Nat.le_trans j1' (by decide), _, rfl, ?_, ":", rfl, ?_, _, rfl, .inl ⟨_, rfl, Nat.le_trans j2' (by decide), _, rfl, ?_, ?_⟩⟩⟩
      · rw [app_len]
        exact le_line (by omega)
      · rw [app_len, app_len]
        exact le_line (by omega)
      · rw [app_len, app_len, app_len]
        exact Nat.le_trans (show _ ≤ 200000 by omega) (by decide)
      · exact q H5 (s14.trans s5)
end
end Ww
/-! what around.py and texts.py refuse -/
namespace Ww
open PySem PySem.Spec PyProof.Rows L2
section
variable {P : Program} {w : World} {K : PySem.W.Frag} {mg : Str → Option Value} {base : Heap}
theorem bad_around {CW : Addr} (D : Df K mg "around" s_around ["wheels"]) (X_check_wheels : OkX P w K mg base "check_wheels" ["wheels"] 2 (sp_bad_wheels K CW)) : OkX P w K mg base "around" ["wheels"] 12 (sp_no_wheels1 K CW) := by
  refine D.okX sc_around (fun vs H Q E h => ?_) (fun f cdv A outer s H vs Q E hr h => ?_)
  · obtain ⟨v, rfl, _⟩ := h
    rfl
  · obtain ⟨v, rfl, hb, e⟩ := h
    refine ⟨_, (pss_cons (ps_expr (pe_okX X_check_wheels hr (by decide) (L2N.passes_call (L2N.takes_of rfl rfl rfl rfl) (fun _ _ _ _ h => h)) (pa_cons (pv 0) pa_nil)))
      pss_never), ?_⟩
    exact ⟨_, rfl, v, rfl, hb, e H (Same.refl H)⟩
theorem badw_even_wheel {CW : Addr} (D : Df K mg "_even_wheel" s_even_wheel ["wheels"]) (X_check_wheels : OkX P w K mg base "check_wheels" ["wheels"] 2 (sp_bad_wheels K CW)) : OkX P w K mg base "_even_wheel" ["wheels"] 11 (sp_bad_wheels K CW) := by
  refine D.okX sc_even_wheel (fun vs H Q E h => ?_) (fun f cdv A outer s H vs Q E hr h => ?_)
  · obtain ⟨v, rfl, _⟩ := h
    rfl
  · obtain ⟨v, rfl, hb, e⟩ := h
    refine ⟨_, (pss_cons (ps_expr (pe_okX X_check_wheels hr (by decide) (L2N.passes_call (L2N.takes_of rfl rfl rfl rfl) (fun _ _ _ _ h => h)) (pa_cons (pv 0) pa_nil)))
      pss_never), ?_⟩
    exact ⟨_, rfl, v, rfl, hb, e⟩
theorem badw_ring_setting {CW : Addr} (D : Df K mg "ring_setting" s_ring_setting ["wheels", "number"]) (X_even_wheel : OkX P w K mg base "_even_wheel" ["wheels"] 11 (sp_bad_wheels K CW)) : OkX P w K mg base "ring_setting" ["wheels", "number"] 12 (sp_no_wheels2 K CW) := by
  refine D.okX sc_ring_setting (fun vs H Q E h => ?_) (fun f cdv A outer s H vs Q E hr h => ?_)
  · obtain ⟨v, u, rfl, _⟩ := h
    rfl
  · obtain ⟨v, u, rfl, hb, e⟩ := h
    refine ⟨_, (pss_cons (ps_set (i := 2) sc_ring_setting.nd rfl (.inl rfl) (pe_okX X_even_wheel hr (by decide) (L2N.passes_call (L2N.takes_of rfl rfl rfl rfl) (fun _ _ _ _ h => h)) (pa_cons (pv 0) pa_nil)))
      pss_never), ?_⟩
    exact ⟨_, rfl, v, rfl, hb, e H (Same.refl H)⟩
theorem badw_ring_number {CW : Addr} (D : Df K mg "ring_number" s_ring_number ["wheels", "setting"]) (X_even_wheel : OkX P w K mg base "_even_wheel" ["wheels"] 11 (sp_bad_wheels K CW)) : OkX P w K mg base "ring_number" ["wheels", "setting"] 12 (sp_no_wheels2 K CW) := by
  refine D.okX sc_ring_number (fun vs H Q E h => ?_) (fun f cdv A outer s H vs Q E hr h => ?_)
  · obtain ⟨v, u, rfl, _⟩ := h
    rfl
  · obtain ⟨v, u, rfl, hb, e⟩ := h
    refine ⟨_, (pss_cons (ps_set (i := 2) sc_ring_number.nd rfl (.inl rfl) (pe_okX X_even_wheel hr (by decide) (L2N.passes_call (L2N.takes_of rfl rfl rfl rfl) (fun _ _ _ _ h => h)) (pa_cons (pv 0) pa_nil)))
      pss_never), ?_⟩
    exact ⟨_, rfl, v, rfl, hb, e H (Same.refl H)⟩
theorem badn_ring_setting {PT CN : Addr} (D : Df K mg "ring_setting" s_ring_setting ["wheels", "number"]) (G_even_wheel : Ok P w K mg base "_even_wheel" ["wheels"] 11 (sp_even_wheel K PT)) (G_without : Ok P w K mg base "_without" ["numbers", "at"] 1 (sp_without K))
    (G_settings : Ok P w K mg base "settings" ["wheels"] 3 (sp_count K)) (X_check_number : OkX P w K mg base "check_number" ["number", "many"] 2 (sp_bad_number K CN)) : OkX P w K mg base "ring_setting" ["wheels", "number"] 13 (sp_ring_badn K PT CN) := by
  refine D.okX sc_ring_setting (fun vs H Q E h => ?_) (fun f cdv A outer s H vs Q E hr h => ?_)
  · obtain ⟨a, v, ws, rfl, _⟩ := h
    rfl
  · obtain ⟨a, v, ws, rfl, hT, hW, hs, hl, hR, hb, e⟩ := h
    have W := ringW' hs hR
    have hw := hs.at W.at_
    have hbt := cols_bits hs (show ws.length ≤ 1000 by omega)
    have hb1 := size_bits hw.1 hw.2
    have lo := W.len
    have hlt := W.lt
    refine ⟨_, (pss_cons (ps_set (i := 2) sc_ring_setting.nd rfl (.inl rfl) (pe_ok G_even_wheel hr (by decide) (pa_cons (pv 0) pa_nil)))
      (pss_cons (ps_set (i := 3) sc_ring_setting.nd rfl (.inl rfl) (pe_ok G_without hr (by decide) (pa_cons (pv 0) (pa_cons (pv 2) pa_nil))))
      (pss_cons (ps_set (i := 4) sc_ring_setting.nd rfl (.inl rfl) (pe_ix (ixL K) (pv 0) (pv 2) (fun _ _ => rfl)))
      (pss_cons (ps_set (i := 5) sc_ring_setting.nd rfl (.inl rfl) (pe_ok G_settings hr (by decide) (pa_cons (pv 3) pa_nil)))
      (pss_cons (ps_expr (pe_okX X_check_number hr (by decide) (L2N.passes_call (L2N.takes_of rfl rfl rfl rfl) (fun _ _ _ _ h => h)) (pa_cons (pv 1) (pa_cons (pe_op op_mulX (pv 4) (pv 5)) pa_nil))))
      pss_never))))), ?_⟩
    refine ⟨_, rfl, a, ws, rfl, hT, hW, hs, (by omega), hR, fun H1 s1 => ?_⟩
    refine ⟨_, rfl, _, rfl, a, ws, evAt ws, rfl, s1.seq hW, hlt, (by omega), fun p2 H2 s2 np2 ep2 => ?_⟩
    refine ⟨_, rfl, _, rfl, a, _, _, _, rfl, rfl, (s1.trans s2).seq hW, atI_nat (at_map_int W.at_), ?_⟩
    refine ⟨_, rfl, p2, rOth ws, rfl, SqL.of ep2, sizes_drop hs _, (by omega), ?_⟩
    rw [W.mul] at hb
    exact ⟨_, rfl, _, rfl, _, rfl, _, _, rfl, rfl, mulx_ok hb1 hbt (by decide), v, _, rfl, hb.same (s1.trans s2), e H2 (s1.trans s2)⟩
theorem bads_ring_number {PT CS : Addr} (D : Df K mg "ring_number" s_ring_number ["wheels", "setting"]) (G_even_wheel : Ok P w K mg base "_even_wheel" ["wheels"] 11 (sp_even_wheel K PT)) (X_check_setting : OkX P w K mg base "check_setting" ["wheels", "setting"] 3 (sp_bad_setting K CS)) :
    OkX P w K mg base "ring_number" ["wheels", "setting"] 13 (sp_ring_bads K PT CS) := by
  refine D.okX sc_ring_number (fun vs H Q E h => ?_) (fun f cdv A outer s H vs Q E hr h => ?_)
  · obtain ⟨a, v, ws, rfl, _⟩ := h
    rfl
  · obtain ⟨a, v, ws, rfl, hT, hW, hs, hl, hR, hb, e⟩ := h
    refine ⟨_, (pss_cons (ps_set (i := 2) sc_ring_number.nd rfl (.inl rfl) (pe_ok G_even_wheel hr (by decide) (pa_cons (pv 0) pa_nil)))
      (pss_cons (ps_expr (pe_okX X_check_setting hr (by decide) (L2N.passes_call (L2N.takes_of rfl rfl rfl rfl) (fun _ _ _ _ h => h)) (pa_cons (pv 0) (pa_cons (pv 1) pa_nil))))
      pss_never)), ?_⟩
    refine ⟨_, rfl, a, ws, rfl, hT, hW, hs, (by omega), hR, fun H1 s1 => ?_⟩
    exact ⟨_, rfl, _, rfl, a, v, ws, rfl, s1.seq hW, hs.ones, hb.same s1, fun H2 s2 => e H2 (s1.trans s2)⟩
theorem x_written {CW : Addr} (D : Df K mg "written" s_written ["wheels", "setting"]) (B : Bi mg) (T_BadWheels : Err K mg "BadWheels" CW) (G_check_wheels : Ok P w K mg base "check_wheels" ["wheels"] 2 (sp_check_wheels K)) (X_check_wheels : OkX P w K mg base "check_wheels" ["wheels"] 2 (sp_bad_wheels K CW)) :
    OkX P w K mg base "written" ["wheels", "setting"] 12 (sp_no_wheelsG K CW) := by
  refine D.okX sc_written (fun vs H Q E h => ?_) (fun f cdv A outer s H vs Q E hr h => ?_)
  · obtain ⟨v, u, rfl, _⟩ := h
    rfl
  · obtain ⟨v, u, rfl, hb, e⟩ := h
    rcases hb with hb | ⟨a, ws, rfl, hW, ho, hl, h61, z, hz, hz60⟩
    · skip
      refine ⟨_, (pss_cons (ps_expr (pe_okX X_check_wheels hr (by decide) (L2N.passes_call (L2N.takes_of rfl rfl rfl rfl) (fun _ _ _ _ h => h)) (pa_cons (pv 0) pa_nil)))
      pss_never), ?_⟩
      exact ⟨_, rfl, v, rfl, hb, e H (Same.refl H)⟩
    · skip
      refine ⟨_, (pss_cons (ps_expr (pe_ok G_check_wheels hr (by decide) (pa_cons (pv 0) pa_nil)))
      (pss_cons (ps_for (L2.passes_of rfl) rfl (pi_list (pv 0)) (pg_name (i := 2) sc_written.nd rfl (.inl rfl))
        (pss_one (ps_if (pt_cmpR op_ge (pv 2) (pe_op op_pow pe_int pe_int) (nomark _))
          (pss_one (ps_err T_BadWheels rfl (L2N.takes_of rfl rfl rfl rfl)))
          pss_nil)))
      pss_never)), ?_⟩
      refine ⟨_, rfl, a, ws, rfl, hW, ho, ?_⟩
      refine ⟨_, rfl, a, rfl, ⟨_, hW⟩, for_list (K := K) (a := a) (xs := ws.map V.int) (fun i σ H3 => (∃ y2 : Option V, σ = [some (.ref a), some u, y2, none, none, none] ∧ H3 = H) ∧ ∀ (j : Nat) (x : Int), j < i → ws[j]? = some x → x < 10 ^ 60)
        ⟨⟨none, rfl, rfl⟩, fun _ _ h => absurd h (Nat.not_lt_zero _)⟩ (fun i σ H3 _ ⟨⟨_, _, e⟩, _⟩ => by rw [e]; exact hW) ?_ ?_⟩
      · rintro i x σ H3 hx ⟨⟨y2, rfl, rfl⟩, hall⟩
        obtain ⟨y, hy, rfl⟩ := map_int_at hx
        refine ⟨_, rfl, _, _, rfl, rfl, ⟨by decide, by decide, by decide⟩, _, _, rfl, rfl, _, rfl, ite2 (fun _ => e H3 (Same.refl H3)) (fun c => ⟨⟨_, rfl, rfl⟩, fun j x hj hxj => ?_⟩)⟩
        have c' : ¬ (10 : Int) ^ 60 ≤ y := fun h => c (decide_eq_true h)
        by_cases hji : j = i
        · subst hji
          have e1 := Option.some.inj (hy.symm.trans hxj)
          omega
        · exact hall j x (by omega) hxj
      · rintro σ H3 ⟨⟨y2, rfl, rfl⟩, hall⟩
        rw [List.length_map] at hall
        obtain ⟨j, hj, ej⟩ := List.getElem_of_mem hz
        have := hall j z hj (by rw [List.getElem?_eq_getElem hj, ej])
        omega
theorem s_written_bad {CW CS : Addr} (D : Df K mg "written" s_written ["wheels", "setting"]) (B : Bi mg) (T_BadWheels : Err K mg "BadWheels" CW) (G_check_wheels : Ok P w K mg base "check_wheels" ["wheels"] 2 (sp_check_wheels K)) (X_check_setting : OkX P w K mg base "check_setting" ["wheels", "setting"] 3 (sp_bad_setting K CS)) :
    OkX P w K mg base "written" ["wheels", "setting"] 12 (sp_bad_written K CS) := by
  refine D.okX sc_written (fun vs H Q E h => ?_) (fun f cdv A outer s H vs Q E hr h => ?_)
  · obtain ⟨a, v, ws, rfl, _⟩ := h
    rfl
  · obtain ⟨a, v, ws, rfl, hW, ho, hl, hbig, hb, e⟩ := h
    refine ⟨_, (pss_cons (ps_expr (pe_ok G_check_wheels hr (by decide) (pa_cons (pv 0) pa_nil)))
      (pss_cons (ps_for (L2.passes_of rfl) rfl (pi_list (pv 0)) (pg_name (i := 2) sc_written.nd rfl (.inl rfl))
        (pss_one (ps_if (pt_cmpR op_ge (pv 2) (pe_op op_pow pe_int pe_int) (nomark _))
          (pss_one (ps_err T_BadWheels rfl (L2N.takes_of rfl rfl rfl rfl)))
          pss_nil)))
      (pss_cons (ps_expr (pe_okX X_check_setting hr (by decide) (L2N.passes_call (L2N.takes_of rfl rfl rfl rfl) (fun _ _ _ _ h => h)) (pa_cons (pv 0) (pa_cons (pv 1) pa_nil))))
      pss_never))), ?_⟩
    refine ⟨_, rfl, a, ws, rfl, hW, ho, ?_⟩
    refine ⟨_, rfl, a, rfl, ⟨_, hW⟩, for_list (K := K) (a := a) (xs := ws.map V.int) (fun i σ H3 => ∃ y2 : Option V, σ = [some (.ref a), some v, y2, none, none, none] ∧ H3 = H) ⟨none, rfl, rfl⟩ (fun i σ H3 _ ⟨_, _, e⟩ => by rw [e]; exact hW) ?_ ?_⟩
    · rintro i x σ H3 hx ⟨y2, rfl, rfl⟩
      obtain ⟨z, hz, rfl⟩ := map_int_at hx
      have hlt := hbig z (List.mem_of_getElem? hz)
      refine ⟨_, rfl, _, _, rfl, rfl, ⟨by decide, by decide, by decide⟩, _, _, rfl, rfl, _, rfl, ite2 (fun c => ?_) (fun _ => ⟨_, rfl, rfl⟩)⟩
      have c' : (10 : Int) ^ 60 ≤ z := of_decide_eq_true c
      omega
    · rintro σ H3 ⟨y2, rfl, rfl⟩
      exact ⟨_, rfl, _, rfl, a, v, ws, rfl, hW, ho, hb, e⟩
theorem ok_weak {x : Str} {ps : List Str} {k : Nat} {sp sp2 : Sp} (C : Ok P w K mg base x ps k sp) (h : ∀ vs H Q E, sp2 vs H Q E → sp vs H Q E) : Ok P w K mg base x ps k sp2 := by
  obtain ⟨f, fd, g, kp, b, F⟩ := C.ex
  exact ⟨f, fd, g, kp, b, ⟨fun vs H Q E hh => F.len vs H Q E (h _ _ _ _ hh), fun A outer s H args us vs Q E hr e0 hb r hsp => F.run A outer s H args us vs Q E hr e0 hb r (h _ _ _ _ hsp)⟩⟩
theorem nine60 : txtOf [10 ^ 60 - 1] [0] = repS "9" 60 ++ ": 0" := by decide +kernel
theorem written60 (C : Ok P w K mg base "written" ["wheels", "setting"] 12 (sp_written K)) : Ok P w K mg base "written" ["wheels", "setting"] 12 (sp_written60 K) := ok_weak C fun vs H Q E h => by
  obtain ⟨a, b, rfl, hW, hS, q⟩ := h
  have e1 : (1 : Int) ≤ 10 ^ 60 - 1 := by decide +kernel
  refine ⟨a, b, [10 ^ 60 - 1], [0], rfl, hW, hS, fun x hx => ?_, fun x hx => ?_, (by decide), ⟨Int.le_refl 0, by omega, trivial⟩, fun H' s => ?_⟩
  · rw [List.mem_singleton.mp hx]
    exact e1
  · rw [List.mem_singleton.mp hx]
    omega
  · rw [nine60]
    exact q H' s
end
end Ww
namespace Ww
open PySem PySem.Spec PyProof.Rows L2
/-! ### what the top has written of each def -/
theorem all_mk {l : PySem.W.OpenLaw} {w : World} {K : PySem.W.Frag} {h : Heap} {mg : Str → Option Value} {fa f1 f2 f3 f4 f5 f6 f7 f8 f9 f10 f11 f12 f13 f14 f15 f16 f17 f18 f19 f20 f21 f22 f23 f24 f25 f26 f27 f28 f29 f30 f31 : Addr} (X : K.In h) (G : h.Ns mainGlobals mg) (hfa : mg "law" = some (.ref fa))
    {od1 an1 od2 an2 od3 an3 od4 an4 od5 an5 od6 an6 od7 an7 od8 an8 od9 an9 od10 an10 od11 an11 od12 an12 od13 an13 od14 an14 od15 an15 od16 an16 od17 an17 od18 an18 od19 an19 od20 an20 od21 an21 od22 an22 od23 an23 od24 an24 od25 an25 od26 an26 od27 an27 od28 an28 od29 an29 od30 an30 od31 an31 : Option Addr} {sl1 sl2 sl3 sl4 sl5 sl6 sl7 sl8 sl9 sl10 sl11 sl12 sl13 sl14 sl15 sl16 sl17 sl18 sl19 sl20 sl21 sl22 sl23 sl24 sl25 sl26 sl27 sl28 sl29 sl30 sl31 : Array (Option Value)} {oc1 kV1 dc1 pm1 cd1 ct1 oc2 kV2 dc2 pm2 cd2 ct2 oc3 kV3 dc3 pm3 cd3 ct3 oc4 kV4 dc4 pm4 cd4 ct4 oc5 kV5 dc5 pm5 cd5 ct5 oc6 kV6 dc6 pm6 ct6 oc7 kV7 dc7 pm7 cd7 ct7 oc8 kV8 dc8 pm8 cd8 ct8 oc9 kV9 dc9 pm9 cd9 ct9 oc10 kV10 dc10 pm10 cd10 ct10 oc11 kV11 dc11 pm11 cd11 ct11 oc12 kV12 dc12 pm12 cd12 ct12 oc13 kV13 dc13 pm13 cd13 ct13 oc14 kV14 dc14 pm14 cd14 ct14 oc15 kV15 dc15 pm15 cd15 ct15 oc16 kV16 dc16 pm16 cd16 ct16 oc17 kV17 dc17 pm17 cd17 ct17 oc18 kV18 dc18 pm18 cd18 ct18 oc19 kV19 dc19 pm19 cd19 ct19 oc20 kV20 dc20 pm20 cd20 ct20 oc21 kV21 dc21 pm21 cd21 ct21 oc22 kV22 dc22 pm22 cd22 ct22 oc23 kV23 dc23 pm23 cd23 ct23 oc24 kV24 dc24 pm24 cd24 ct24 oc25 kV25 dc25 pm25 cd25 ct25 oc26 kV26 dc26 pm26 cd26 ct26 oc27 kV27 dc27 pm27 cd27 ct27 oc28 kV28 dc28 pm28 cd28 ct28 oc29 kV29 dc29 pm29 cd29 ct29 oc30 kV30 dc30 pm30 cd30 ct30 oc31 kV31 dc31 pm31 cd31 ct31 : Value}
    {f_Around_shows : Addr} {od_Around_shows an_Around_shows : Option Addr} {sl_Around_shows : Array (Option Value)} {oc_Around_shows kV_Around_shows dc_Around_shows pm_Around_shows cd_Around_shows ct_Around_shows : Value}
    {f_Dead_init : Addr} {od_Dead_init an_Dead_init : Option Addr} {sl_Dead_init : Array (Option Value)} {oc_Dead_init kV_Dead_init dc_Dead_init pm_Dead_init cd_Dead_init ct_Dead_init : Value}
    {f_Dead_shows : Addr} {od_Dead_shows an_Dead_shows : Option Addr} {sl_Dead_shows : Array (Option Value)} {oc_Dead_shows kV_Dead_shows dc_Dead_shows pm_Dead_shows cd_Dead_shows ct_Dead_shows : Value}
    {f_Odd_shows : Addr} {od_Odd_shows an_Odd_shows : Option Addr} {sl_Odd_shows : Array (Option Value)} {oc_Odd_shows kV_Odd_shows dc_Odd_shows pm_Odd_shows cd_Odd_shows ct_Odd_shows : Value}
    {cc PT : Addr} {ddc : Option Addr} {vsc : Array Value} {slc : Array (Option Value)} {file : Str} {tf tg tt : Tok} {flags text : Int} {inF : Bool} (own : ∀ fo, mg "_all_odd" = some (.ref fo) → LamX.OwnTab K fo h)
    (a1 : PySem.W.nsIn K mainGlobals "is_whole" = some (some (.ref f1))) (l1 : K.lookup f1 = some ⟨oc1, od1, .func (PySem.W.fnOf "is_whole" "is_whole" (defArgs s_is_whole) (defBody s_is_whole) (defScope s_is_whole) .none kV1 dc1 pm1 an1 cd1 ct1), sl1⟩) (c1 : PySem.W.codeIn K cd1 "is_whole" = true) (k1 : PySem.W.keepIn K (.ref f1) = true)
    (a2 : PySem.W.nsIn K mainGlobals "check_wheels" = some (some (.ref f2))) (l2 : K.lookup f2 = some ⟨oc2, od2, .func (PySem.W.fnOf "check_wheels" "check_wheels" (defArgs s_check_wheels) (defBody s_check_wheels) (defScope s_check_wheels) .none kV2 dc2 pm2 an2 cd2 ct2), sl2⟩) (c2 : PySem.W.codeIn K cd2 "check_wheels" = true) (k2 : PySem.W.keepIn K (.ref f2) = true)
    (a3 : PySem.W.nsIn K mainGlobals "is_setting" = some (some (.ref f3))) (l3 : K.lookup f3 = some ⟨oc3, od3, .func (PySem.W.fnOf "is_setting" "is_setting" (defArgs s_is_setting) (defBody s_is_setting) (defScope s_is_setting) .none kV3 dc3 pm3 an3 cd3 ct3), sl3⟩) (c3 : PySem.W.codeIn K cd3 "is_setting" = true) (k3 : PySem.W.keepIn K (.ref f3) = true)
    (a4 : PySem.W.nsIn K mainGlobals "check_setting" = some (some (.ref f4))) (l4 : K.lookup f4 = some ⟨oc4, od4, .func (PySem.W.fnOf "check_setting" "check_setting" (defArgs s_check_setting) (defBody s_check_setting) (defScope s_check_setting) .none kV4 dc4 pm4 an4 cd4 ct4), sl4⟩) (c4 : PySem.W.codeIn K cd4 "check_setting" = true) (k4 : PySem.W.keepIn K (.ref f4) = true)
    (a5 : PySem.W.nsIn K mainGlobals "check_number" = some (some (.ref f5))) (l5 : K.lookup f5 = some ⟨oc5, od5, .func (PySem.W.fnOf "check_number" "check_number" (defArgs s_check_number) (defBody s_check_number) (defScope s_check_number) .none kV5 dc5 pm5 an5 cd5 ct5), sl5⟩) (c5 : PySem.W.codeIn K cd5 "check_number" = true) (k5 : PySem.W.keepIn K (.ref f5) = true)
    (a6 : PySem.W.nsIn K mainGlobals "_all_odd" = some (some (.ref f6))) (l6 : K.lookup f6 = some ⟨oc6, od6, .func (PySem.W.fnOf "_all_odd" "_all_odd" (defArgs s_all_odd) (defBody s_all_odd) (defScope s_all_odd) .none kV6 dc6 pm6 an6 (.ref cc) ct6), sl6⟩) (c6 : PySem.W.codeIn K (.ref cc) "_all_odd" = true) (k6 : PySem.W.keepIn K (.ref f6) = true)
    (a7 : PySem.W.nsIn K mainGlobals "_steps_from" = some (some (.ref f7))) (l7 : K.lookup f7 = some ⟨oc7, od7, .func (PySem.W.fnOf "_steps_from" "_steps_from" (defArgs s_steps_from) (defBody s_steps_from) (defScope s_steps_from) .none kV7 dc7 pm7 an7 cd7 ct7), sl7⟩) (c7 : PySem.W.codeIn K cd7 "_steps_from" = true) (k7 : PySem.W.keepIn K (.ref f7) = true)
    (a8 : PySem.W.nsIn K mainGlobals "settings" = some (some (.ref f8))) (l8 : K.lookup f8 = some ⟨oc8, od8, .func (PySem.W.fnOf "settings" "settings" (defArgs s_settings) (defBody s_settings) (defScope s_settings) .none kV8 dc8 pm8 an8 cd8 ct8), sl8⟩) (c8 : PySem.W.codeIn K cd8 "settings" = true) (k8 : PySem.W.keepIn K (.ref f8) = true)
    (a9 : PySem.W.nsIn K mainGlobals "near" = some (some (.ref f9))) (l9 : K.lookup f9 = some ⟨oc9, od9, .func (PySem.W.fnOf "near" "near" (defArgs s_near) (defBody s_near) (defScope s_near) .none kV9 dc9 pm9 an9 cd9 ct9), sl9⟩) (c9 : PySem.W.codeIn K cd9 "near" = true) (k9 : PySem.W.keepIn K (.ref f9) = true)
    (a10 : PySem.W.nsIn K mainGlobals "apart" = some (some (.ref f10))) (l10 : K.lookup f10 = some ⟨oc10, od10, .func (PySem.W.fnOf "apart" "apart" (defArgs s_apart) (defBody s_apart) (defScope s_apart) .none kV10 dc10 pm10 an10 cd10 ct10), sl10⟩) (c10 : PySem.W.codeIn K cd10 "apart" = true) (k10 : PySem.W.keepIn K (.ref f10) = true)
    (a11 : PySem.W.nsIn K mainGlobals "setting_of" = some (some (.ref f11))) (l11 : K.lookup f11 = some ⟨oc11, od11, .func (PySem.W.fnOf "setting_of" "setting_of" (defArgs s_setting_of) (defBody s_setting_of) (defScope s_setting_of) .none kV11 dc11 pm11 an11 cd11 ct11), sl11⟩) (c11 : PySem.W.codeIn K cd11 "setting_of" = true) (k11 : PySem.W.keepIn K (.ref f11) = true)
    (a12 : PySem.W.nsIn K mainGlobals "number_of" = some (some (.ref f12))) (l12 : K.lookup f12 = some ⟨oc12, od12, .func (PySem.W.fnOf "number_of" "number_of" (defArgs s_number_of) (defBody s_number_of) (defScope s_number_of) .none kV12 dc12 pm12 an12 cd12 ct12), sl12⟩) (c12 : PySem.W.codeIn K cd12 "number_of" = true) (k12 : PySem.W.keepIn K (.ref f12) = true)
    (a13 : PySem.W.nsIn K mainGlobals "around" = some (some (.ref f13))) (l13 : K.lookup f13 = some ⟨oc13, od13, .func (PySem.W.fnOf "around" "around" (defArgs s_around) (defBody s_around) (defScope s_around) .none kV13 dc13 pm13 an13 cd13 ct13), sl13⟩) (c13 : PySem.W.codeIn K cd13 "around" = true) (k13 : PySem.W.keepIn K (.ref f13) = true)
    (a14 : PySem.W.nsIn K mainGlobals "ring_setting" = some (some (.ref f14))) (l14 : K.lookup f14 = some ⟨oc14, od14, .func (PySem.W.fnOf "ring_setting" "ring_setting" (defArgs s_ring_setting) (defBody s_ring_setting) (defScope s_ring_setting) .none kV14 dc14 pm14 an14 cd14 ct14), sl14⟩) (c14 : PySem.W.codeIn K cd14 "ring_setting" = true) (k14 : PySem.W.keepIn K (.ref f14) = true)
    (a15 : PySem.W.nsIn K mainGlobals "ring_number" = some (some (.ref f15))) (l15 : K.lookup f15 = some ⟨oc15, od15, .func (PySem.W.fnOf "ring_number" "ring_number" (defArgs s_ring_number) (defBody s_ring_number) (defScope s_ring_number) .none kV15 dc15 pm15 an15 cd15 ct15), sl15⟩) (c15 : PySem.W.codeIn K cd15 "ring_number" = true) (k15 : PySem.W.keepIn K (.ref f15) = true)
    (a16 : PySem.W.nsIn K mainGlobals "_even_wheel" = some (some (.ref f16))) (l16 : K.lookup f16 = some ⟨oc16, od16, .func (PySem.W.fnOf "_even_wheel" "_even_wheel" (defArgs s_even_wheel) (defBody s_even_wheel) (defScope s_even_wheel) .none kV16 dc16 pm16 an16 cd16 ct16), sl16⟩) (c16 : PySem.W.codeIn K cd16 "_even_wheel" = true) (k16 : PySem.W.keepIn K (.ref f16) = true)
    (a17 : PySem.W.nsIn K mainGlobals "_without" = some (some (.ref f17))) (l17 : K.lookup f17 = some ⟨oc17, od17, .func (PySem.W.fnOf "_without" "_without" (defArgs s_without) (defBody s_without) (defScope s_without) .none kV17 dc17 pm17 an17 cd17 ct17), sl17⟩) (c17 : PySem.W.codeIn K cd17 "_without" = true) (k17 : PySem.W.keepIn K (.ref f17) = true)
    (a18 : PySem.W.nsIn K mainGlobals "written" = some (some (.ref f18))) (l18 : K.lookup f18 = some ⟨oc18, od18, .func (PySem.W.fnOf "written" "written" (defArgs s_written) (defBody s_written) (defScope s_written) .none kV18 dc18 pm18 an18 cd18 ct18), sl18⟩) (c18 : PySem.W.codeIn K cd18 "written" = true) (k18 : PySem.W.keepIn K (.ref f18) = true)
    (a19 : PySem.W.nsIn K mainGlobals "_law_cell_at" = some (some (.ref f19))) (l19 : K.lookup f19 = some ⟨oc19, od19, .func (PySem.W.fnOf "_law_cell_at" "_law_cell_at" (defArgs s_law_cell_at) (defBody s_law_cell_at) (defScope s_law_cell_at) .none kV19 dc19 pm19 an19 cd19 ct19), sl19⟩) (c19 : PySem.W.codeIn K cd19 "_law_cell_at" = true) (k19 : PySem.W.keepIn K (.ref f19) = true)
    (a20 : PySem.W.nsIn K mainGlobals "_law_draw" = some (some (.ref f20))) (l20 : K.lookup f20 = some ⟨oc20, od20, .func (PySem.W.fnOf "_law_draw" "_law_draw" (defArgs s_law_draw) (defBody s_law_draw) (defScope s_law_draw) .none kV20 dc20 pm20 an20 cd20 ct20), sl20⟩) (c20 : PySem.W.codeIn K cd20 "_law_draw" = true) (k20 : PySem.W.keepIn K (.ref f20) = true)
    (a21 : PySem.W.nsIn K mainGlobals "_law_wheels" = some (some (.ref f21))) (l21 : K.lookup f21 = some ⟨oc21, od21, .func (PySem.W.fnOf "_law_wheels" "_law_wheels" (defArgs s_law_wheels) (defBody s_law_wheels) (defScope s_law_wheels) .none kV21 dc21 pm21 an21 cd21 ct21), sl21⟩) (c21 : PySem.W.codeIn K cd21 "_law_wheels" = true) (k21 : PySem.W.keepIn K (.ref f21) = true)
    (a22 : PySem.W.nsIn K mainGlobals "_law_setting" = some (some (.ref f22))) (l22 : K.lookup f22 = some ⟨oc22, od22, .func (PySem.W.fnOf "_law_setting" "_law_setting" (defArgs s_law_setting) (defBody s_law_setting) (defScope s_law_setting) .none kV22 dc22 pm22 an22 cd22 ct22), sl22⟩) (c22 : PySem.W.codeIn K cd22 "_law_setting" = true) (k22 : PySem.W.keepIn K (.ref f22) = true)
    (a23 : PySem.W.nsIn K mainGlobals "_law_count" = some (some (.ref f23))) (l23 : K.lookup f23 = some ⟨oc23, od23, .func (PySem.W.fnOf "_law_count" "_law_count" (defArgs s_law_count) (defBody s_law_count) (defScope s_law_count) .none kV23 dc23 pm23 an23 cd23 ct23), sl23⟩) (c23 : PySem.W.codeIn K cd23 "_law_count" = true) (k23 : PySem.W.keepIn K (.ref f23) = true)
    (a24 : PySem.W.nsIn K mainGlobals "_law_kinds" = some (some (.ref f24))) (l24 : K.lookup f24 = some ⟨oc24, od24, .func (PySem.W.fnOf "_law_kinds" "_law_kinds" (defArgs s_law_kinds) (defBody s_law_kinds) (defScope s_law_kinds) .none kV24 dc24 pm24 an24 cd24 ct24), sl24⟩) (c24 : PySem.W.codeIn K cd24 "_law_kinds" = true) (k24 : PySem.W.keepIn K (.ref f24) = true)
    (a25 : PySem.W.nsIn K mainGlobals "_law_with_wheels" = some (some (.ref f25))) (l25 : K.lookup f25 = some ⟨oc25, od25, .func (PySem.W.fnOf "_law_with_wheels" "_law_with_wheels" (defArgs s_law_with_wheels) (defBody s_law_with_wheels) (defScope s_law_with_wheels) .none kV25 dc25 pm25 an25 cd25 ct25), sl25⟩) (c25 : PySem.W.codeIn K cd25 "_law_with_wheels" = true) (k25 : PySem.W.keepIn K (.ref f25) = true)
    (a26 : PySem.W.nsIn K mainGlobals "_law_with_setting" = some (some (.ref f26))) (l26 : K.lookup f26 = some ⟨oc26, od26, .func (PySem.W.fnOf "_law_with_setting" "_law_with_setting" (defArgs s_law_with_setting) (defBody s_law_with_setting) (defScope s_law_with_setting) .none kV26 dc26 pm26 an26 cd26 ct26), sl26⟩) (c26 : PySem.W.codeIn K cd26 "_law_with_setting" = true) (k26 : PySem.W.keepIn K (.ref f26) = true)
    (a27 : PySem.W.nsIn K mainGlobals "_law_with_number" = some (some (.ref f27))) (l27 : K.lookup f27 = some ⟨oc27, od27, .func (PySem.W.fnOf "_law_with_number" "_law_with_number" (defArgs s_law_with_number) (defBody s_law_with_number) (defScope s_law_with_number) .none kV27 dc27 pm27 an27 cd27 ct27), sl27⟩) (c27 : PySem.W.codeIn K cd27 "_law_with_number" = true) (k27 : PySem.W.keepIn K (.ref f27) = true)
    (a28 : PySem.W.nsIn K mainGlobals "_law_told" = some (some (.ref f28))) (l28 : K.lookup f28 = some ⟨oc28, od28, .func (PySem.W.fnOf "_law_told" "_law_told" (defArgs s_law_told) (defBody s_law_told) (defScope s_law_told) .none kV28 dc28 pm28 an28 cd28 ct28), sl28⟩) (c28 : PySem.W.codeIn K cd28 "_law_told" = true) (k28 : PySem.W.keepIn K (.ref f28) = true)
    (a29 : PySem.W.nsIn K mainGlobals "_law_settings_refused" = some (some (.ref f29))) (l29 : K.lookup f29 = some ⟨oc29, od29, .func (PySem.W.fnOf "_law_settings_refused" "_law_settings_refused" (defArgs s_law_settings_refused) (defBody s_law_settings_refused) (defScope s_law_settings_refused) .none kV29 dc29 pm29 an29 cd29 ct29), sl29⟩) (c29 : PySem.W.codeIn K cd29 "_law_settings_refused" = true) (k29 : PySem.W.keepIn K (.ref f29) = true)
    (a30 : PySem.W.nsIn K mainGlobals "_law_rings_right" = some (some (.ref f30))) (l30 : K.lookup f30 = some ⟨oc30, od30, .func (PySem.W.fnOf "_law_rings_right" "_law_rings_right" (defArgs s_law_rings_right) (defBody s_law_rings_right) (defScope s_law_rings_right) .none kV30 dc30 pm30 an30 cd30 ct30), sl30⟩) (c30 : PySem.W.codeIn K cd30 "_law_rings_right" = true) (k30 : PySem.W.keepIn K (.ref f30) = true)
    (a31 : PySem.W.nsIn K mainGlobals "law" = some (some (.ref f31))) (l31 : K.lookup f31 = some ⟨oc31, od31, .func (PySem.W.fnOf "law" "law" (defArgs s_law) (defBody s_law) (defScope s_law) .none kV31 dc31 pm31 an31 cd31 ct31), sl31⟩) (c31 : PySem.W.codeIn K cd31 "law" = true) (k31 : PySem.W.keepIn K (.ref f31) = true)
    {C_Around C_Dead C_Odd : Addr}
    {C_WheelError C_BadWheels C_BadSetting C_BadNumber C_NoRing C_BadText : Addr}
    (gc_WheelError : PySem.W.nsIn K mainGlobals "WheelError" = some (some (.ref C_WheelError)))
    (kc_WheelError : PySem.W.keepIn K (.ref C_WheelError) = true)
    (xc_WheelError : PySem.W.excIn K C_WheelError [.type "ValueError", .type "Exception", .type "BaseException", .type "object"] "ValueError.__new__" = true)
    (sc_WheelError : PySem.W.subIn K (.ref C_WheelError) (.type "BaseException") = some true)
    (tc_WheelError : PySem.W.typeIn K (.ref C_WheelError) = some (.type "type"))
    (e1_WheelError : PySem.W.findIn K (.ref C_WheelError) "__getattribute__" = some (some (.builtin "BaseException.__getattribute__")))
    (e2_WheelError : PySem.W.findIn K (.ref C_WheelError) "__getattr__" = some none)
    (e4_WheelError : PySem.W.hasDictIn K C_WheelError = true)
    (e5_WheelError : PySem.W.findIn K (.ref C_WheelError) "__class__" = some (some (.builtin "object.__class__")))
    (e6_WheelError : PySem.W.specialIn K (.builtin "object.__class__") "__get__" = some (some (.builtin "getset_descriptor.__get__")))
    (e7_WheelError : PySem.W.takesIn K (.builtin "object.__class__") = some true)
    (e8_WheelError : PySem.W.mroIn K C_WheelError (.type "object") = some true)
    (gc_BadWheels : PySem.W.nsIn K mainGlobals "BadWheels" = some (some (.ref C_BadWheels)))
    (kc_BadWheels : PySem.W.keepIn K (.ref C_BadWheels) = true)
    (xc_BadWheels : PySem.W.excIn K C_BadWheels [.type "ValueError", .type "Exception", .type "BaseException", .type "object"] "ValueError.__new__" = true)
    (sc_BadWheels : PySem.W.subIn K (.ref C_BadWheels) (.type "BaseException") = some true)
    (tc_BadWheels : PySem.W.typeIn K (.ref C_BadWheels) = some (.type "type"))
    (e1_BadWheels : PySem.W.findIn K (.ref C_BadWheels) "__getattribute__" = some (some (.builtin "BaseException.__getattribute__")))
    (e2_BadWheels : PySem.W.findIn K (.ref C_BadWheels) "__getattr__" = some none)
    (e4_BadWheels : PySem.W.hasDictIn K C_BadWheels = true)
    (e5_BadWheels : PySem.W.findIn K (.ref C_BadWheels) "__class__" = some (some (.builtin "object.__class__")))
    (e6_BadWheels : PySem.W.specialIn K (.builtin "object.__class__") "__get__" = some (some (.builtin "getset_descriptor.__get__")))
    (e7_BadWheels : PySem.W.takesIn K (.builtin "object.__class__") = some true)
    (e8_BadWheels : PySem.W.mroIn K C_BadWheels (.type "object") = some true)
    (gc_BadSetting : PySem.W.nsIn K mainGlobals "BadSetting" = some (some (.ref C_BadSetting)))
    (kc_BadSetting : PySem.W.keepIn K (.ref C_BadSetting) = true)
    (xc_BadSetting : PySem.W.excIn K C_BadSetting [.type "ValueError", .type "Exception", .type "BaseException", .type "object"] "ValueError.__new__" = true)
    (sc_BadSetting : PySem.W.subIn K (.ref C_BadSetting) (.type "BaseException") = some true)
    (tc_BadSetting : PySem.W.typeIn K (.ref C_BadSetting) = some (.type "type"))
    (e1_BadSetting : PySem.W.findIn K (.ref C_BadSetting) "__getattribute__" = some (some (.builtin "BaseException.__getattribute__")))
    (e2_BadSetting : PySem.W.findIn K (.ref C_BadSetting) "__getattr__" = some none)
    (e4_BadSetting : PySem.W.hasDictIn K C_BadSetting = true)
    (e5_BadSetting : PySem.W.findIn K (.ref C_BadSetting) "__class__" = some (some (.builtin "object.__class__")))
    (e6_BadSetting : PySem.W.specialIn K (.builtin "object.__class__") "__get__" = some (some (.builtin "getset_descriptor.__get__")))
    (e7_BadSetting : PySem.W.takesIn K (.builtin "object.__class__") = some true)
    (e8_BadSetting : PySem.W.mroIn K C_BadSetting (.type "object") = some true)
    (gc_BadNumber : PySem.W.nsIn K mainGlobals "BadNumber" = some (some (.ref C_BadNumber)))
    (kc_BadNumber : PySem.W.keepIn K (.ref C_BadNumber) = true)
    (xc_BadNumber : PySem.W.excIn K C_BadNumber [.type "ValueError", .type "Exception", .type "BaseException", .type "object"] "ValueError.__new__" = true)
    (sc_BadNumber : PySem.W.subIn K (.ref C_BadNumber) (.type "BaseException") = some true)
    (tc_BadNumber : PySem.W.typeIn K (.ref C_BadNumber) = some (.type "type"))
    (e1_BadNumber : PySem.W.findIn K (.ref C_BadNumber) "__getattribute__" = some (some (.builtin "BaseException.__getattribute__")))
    (e2_BadNumber : PySem.W.findIn K (.ref C_BadNumber) "__getattr__" = some none)
    (e4_BadNumber : PySem.W.hasDictIn K C_BadNumber = true)
    (e5_BadNumber : PySem.W.findIn K (.ref C_BadNumber) "__class__" = some (some (.builtin "object.__class__")))
    (e6_BadNumber : PySem.W.specialIn K (.builtin "object.__class__") "__get__" = some (some (.builtin "getset_descriptor.__get__")))
    (e7_BadNumber : PySem.W.takesIn K (.builtin "object.__class__") = some true)
    (e8_BadNumber : PySem.W.mroIn K C_BadNumber (.type "object") = some true)
    (gc_NoRing : PySem.W.nsIn K mainGlobals "NoRing" = some (some (.ref C_NoRing)))
    (kc_NoRing : PySem.W.keepIn K (.ref C_NoRing) = true)
    (xc_NoRing : PySem.W.excIn K C_NoRing [.type "ValueError", .type "Exception", .type "BaseException", .type "object"] "ValueError.__new__" = true)
    (sc_NoRing : PySem.W.subIn K (.ref C_NoRing) (.type "BaseException") = some true)
    (tc_NoRing : PySem.W.typeIn K (.ref C_NoRing) = some (.type "type"))
    (e1_NoRing : PySem.W.findIn K (.ref C_NoRing) "__getattribute__" = some (some (.builtin "BaseException.__getattribute__")))
    (e2_NoRing : PySem.W.findIn K (.ref C_NoRing) "__getattr__" = some none)
    (e4_NoRing : PySem.W.hasDictIn K C_NoRing = true)
    (e5_NoRing : PySem.W.findIn K (.ref C_NoRing) "__class__" = some (some (.builtin "object.__class__")))
    (e6_NoRing : PySem.W.specialIn K (.builtin "object.__class__") "__get__" = some (some (.builtin "getset_descriptor.__get__")))
    (e7_NoRing : PySem.W.takesIn K (.builtin "object.__class__") = some true)
    (e8_NoRing : PySem.W.mroIn K C_NoRing (.type "object") = some true)
    (gc_BadText : PySem.W.nsIn K mainGlobals "BadText" = some (some (.ref C_BadText)))
    (kc_BadText : PySem.W.keepIn K (.ref C_BadText) = true)
    (xc_BadText : PySem.W.excIn K C_BadText [.type "ValueError", .type "Exception", .type "BaseException", .type "object"] "ValueError.__new__" = true)
    (sc_BadText : PySem.W.subIn K (.ref C_BadText) (.type "BaseException") = some true)
    (tc_BadText : PySem.W.typeIn K (.ref C_BadText) = some (.type "type"))
    (e1_BadText : PySem.W.findIn K (.ref C_BadText) "__getattribute__" = some (some (.builtin "BaseException.__getattribute__")))
    (e2_BadText : PySem.W.findIn K (.ref C_BadText) "__getattr__" = some none)
    (e4_BadText : PySem.W.hasDictIn K C_BadText = true)
    (e5_BadText : PySem.W.findIn K (.ref C_BadText) "__class__" = some (some (.builtin "object.__class__")))
    (e6_BadText : PySem.W.specialIn K (.builtin "object.__class__") "__get__" = some (some (.builtin "getset_descriptor.__get__")))
    (e7_BadText : PySem.W.takesIn K (.builtin "object.__class__") = some true)
    (e8_BadText : PySem.W.mroIn K C_BadText (.type "object") = some true)
    (m1_BadWheels : PySem.W.kitOne K (.ref C_BadWheels) (.ref C_BadWheels) = some true)
    (m2_BadWheels : PySem.W.kitOne K (.ref C_BadWheels) (.ref C_BadSetting) = some false)
    (m3_BadWheels : PySem.W.kitOne K (.ref C_BadWheels) (.ref C_BadNumber) = some false)
    (m4_BadWheels : PySem.W.kitOne K (.ref C_BadWheels) (.ref C_NoRing) = some false)
    (m5_BadWheels : PySem.W.kitOne K (.ref C_BadWheels) (.ref C_BadText) = some false)
    (m6_BadWheels : PySem.W.kitOne K (.ref C_BadWheels) (.type "ValueError") = some true)
    (m7_BadWheels : PySem.W.exmOne K (.ref C_BadWheels) (.ref C_WheelError) = some true)
    (m1_BadSetting : PySem.W.kitOne K (.ref C_BadSetting) (.ref C_BadWheels) = some false)
    (m2_BadSetting : PySem.W.kitOne K (.ref C_BadSetting) (.ref C_BadSetting) = some true)
    (m3_BadSetting : PySem.W.kitOne K (.ref C_BadSetting) (.ref C_BadNumber) = some false)
    (m4_BadSetting : PySem.W.kitOne K (.ref C_BadSetting) (.ref C_NoRing) = some false)
    (m5_BadSetting : PySem.W.kitOne K (.ref C_BadSetting) (.ref C_BadText) = some false)
    (m6_BadSetting : PySem.W.kitOne K (.ref C_BadSetting) (.type "ValueError") = some true)
    (m7_BadSetting : PySem.W.exmOne K (.ref C_BadSetting) (.ref C_WheelError) = some true)
    (m1_BadNumber : PySem.W.kitOne K (.ref C_BadNumber) (.ref C_BadWheels) = some false)
    (m2_BadNumber : PySem.W.kitOne K (.ref C_BadNumber) (.ref C_BadSetting) = some false)
    (m3_BadNumber : PySem.W.kitOne K (.ref C_BadNumber) (.ref C_BadNumber) = some true)
    (m4_BadNumber : PySem.W.kitOne K (.ref C_BadNumber) (.ref C_NoRing) = some false)
    (m5_BadNumber : PySem.W.kitOne K (.ref C_BadNumber) (.ref C_BadText) = some false)
    (m6_BadNumber : PySem.W.kitOne K (.ref C_BadNumber) (.type "ValueError") = some true)
    (m7_BadNumber : PySem.W.exmOne K (.ref C_BadNumber) (.ref C_WheelError) = some true)
    (m1_NoRing : PySem.W.kitOne K (.ref C_NoRing) (.ref C_BadWheels) = some false)
    (m2_NoRing : PySem.W.kitOne K (.ref C_NoRing) (.ref C_BadSetting) = some false)
    (m3_NoRing : PySem.W.kitOne K (.ref C_NoRing) (.ref C_BadNumber) = some false)
    (m4_NoRing : PySem.W.kitOne K (.ref C_NoRing) (.ref C_NoRing) = some true)
    (m5_NoRing : PySem.W.kitOne K (.ref C_NoRing) (.ref C_BadText) = some false)
    (m6_NoRing : PySem.W.kitOne K (.ref C_NoRing) (.type "ValueError") = some true)
    (m7_NoRing : PySem.W.exmOne K (.ref C_NoRing) (.ref C_WheelError) = some true)
    (go_Around : PySem.W.nsIn K mainGlobals "Around" = some (some (.ref C_Around)))
    (pg_Around : PySem.W.plainGet K C_Around Str.empty = true)
    (hd_Around : PySem.W.hasDictIn K C_Around = true)
    (po_Around : PySem.W.plainOver K C_Around = true)
    (sa_Around : PySem.W.findIn K (.ref C_Around) "__setattr__" = some (some (.builtin "object.__setattr__")))
    (oa_Around : PySem.W.findIn K (.ref C_Around) "__class__" = some (some (.builtin "object.__class__")))
    (on_Around : PySem.W.specialIn K (.builtin "object.__class__") "__get__" = some (some (.builtin "getset_descriptor.__get__")))
    (ot_Around : PySem.W.takesIn K (.builtin "object.__class__") = some true)
    (om_Around : PySem.W.mroIn K C_Around (.type "object") = some true)
    (go_Dead : PySem.W.nsIn K mainGlobals "Dead" = some (some (.ref C_Dead)))
    (pg_Dead : PySem.W.plainGet K C_Dead Str.empty = true)
    (hd_Dead : PySem.W.hasDictIn K C_Dead = true)
    (po_Dead : PySem.W.plainOver K C_Dead = true)
    (sa_Dead : PySem.W.findIn K (.ref C_Dead) "__setattr__" = some (some (.builtin "object.__setattr__")))
    (oa_Dead : PySem.W.findIn K (.ref C_Dead) "__class__" = some (some (.builtin "object.__class__")))
    (on_Dead : PySem.W.specialIn K (.builtin "object.__class__") "__get__" = some (some (.builtin "getset_descriptor.__get__")))
    (ot_Dead : PySem.W.takesIn K (.builtin "object.__class__") = some true)
    (om_Dead : PySem.W.mroIn K C_Dead (.type "object") = some true)
    (go_Odd : PySem.W.nsIn K mainGlobals "Odd" = some (some (.ref C_Odd)))
    (pg_Odd : PySem.W.plainGet K C_Odd Str.empty = true)
    (hd_Odd : PySem.W.hasDictIn K C_Odd = true)
    (po_Odd : PySem.W.plainOver K C_Odd = true)
    (sa_Odd : PySem.W.findIn K (.ref C_Odd) "__setattr__" = some (some (.builtin "object.__setattr__")))
    (oa_Odd : PySem.W.findIn K (.ref C_Odd) "__class__" = some (some (.builtin "object.__class__")))
    (on_Odd : PySem.W.specialIn K (.builtin "object.__class__") "__get__" = some (some (.builtin "getset_descriptor.__get__")))
    (ot_Odd : PySem.W.takesIn K (.builtin "object.__class__") = some true)
    (om_Odd : PySem.W.mroIn K C_Odd (.type "object") = some true)
    (mk_Around : PySem.W.makesIn K C_Around = true)
    (in_Around : PySem.W.findIn K (.ref C_Around) "__init__" = some (some (.builtin "object.__init__")))
    (kk_Around : PySem.W.keepIn K (.ref C_Around) = true)
    (mk_Odd : PySem.W.makesIn K C_Odd = true)
    (in_Odd : PySem.W.findIn K (.ref C_Odd) "__init__" = some (some (.builtin "object.__init__")))
    (kk_Odd : PySem.W.keepIn K (.ref C_Odd) = true)
    (fa_Around_shows : PySem.W.findIn K (.ref C_Around) "shows" = some (some (.ref f_Around_shows)))
    (fi_Around_shows : PySem.W.isFn K (.ref f_Around_shows) = true)
    (fl_Around_shows : K.lookup f_Around_shows = some ⟨oc_Around_shows, od_Around_shows, .func (PySem.W.fnOf "shows" "Around.shows" (defArgs s_Around_shows) (defBody s_Around_shows) (defScope s_Around_shows) .none kV_Around_shows dc_Around_shows pm_Around_shows an_Around_shows cd_Around_shows ct_Around_shows), sl_Around_shows⟩)
    (fc_Around_shows : PySem.W.codeIn K cd_Around_shows "Around.shows" = true)
    (fk_Around_shows : PySem.W.keepIn K (.ref f_Around_shows) = true)
    (fa_Dead_init : PySem.W.findIn K (.ref C_Dead) "__init__" = some (some (.ref f_Dead_init)))
    (fi_Dead_init : PySem.W.isFn K (.ref f_Dead_init) = true)
    (fl_Dead_init : K.lookup f_Dead_init = some ⟨oc_Dead_init, od_Dead_init, .func (PySem.W.fnOf "__init__" "Dead.__init__" (defArgs s_Dead_init) (defBody s_Dead_init) (defScope s_Dead_init) .none kV_Dead_init dc_Dead_init pm_Dead_init an_Dead_init cd_Dead_init ct_Dead_init), sl_Dead_init⟩)
    (fc_Dead_init : PySem.W.codeIn K cd_Dead_init "Dead.__init__" = true)
    (fk_Dead_init : PySem.W.keepIn K (.ref f_Dead_init) = true)
    (mk_Dead : PySem.W.makesIn K C_Dead = true)
    (kk_Dead : PySem.W.keepIn K (.ref C_Dead) = true)
    (fa_Dead_shows : PySem.W.findIn K (.ref C_Dead) "shows" = some (some (.ref f_Dead_shows)))
    (fi_Dead_shows : PySem.W.isFn K (.ref f_Dead_shows) = true)
    (fl_Dead_shows : K.lookup f_Dead_shows = some ⟨oc_Dead_shows, od_Dead_shows, .func (PySem.W.fnOf "shows" "Dead.shows" (defArgs s_Dead_shows) (defBody s_Dead_shows) (defScope s_Dead_shows) .none kV_Dead_shows dc_Dead_shows pm_Dead_shows an_Dead_shows cd_Dead_shows ct_Dead_shows), sl_Dead_shows⟩)
    (fc_Dead_shows : PySem.W.codeIn K cd_Dead_shows "Dead.shows" = true)
    (fk_Dead_shows : PySem.W.keepIn K (.ref f_Dead_shows) = true)
    (fa_Odd_shows : PySem.W.findIn K (.ref C_Odd) "shows" = some (some (.ref f_Odd_shows)))
    (fi_Odd_shows : PySem.W.isFn K (.ref f_Odd_shows) = true)
    (fl_Odd_shows : K.lookup f_Odd_shows = some ⟨oc_Odd_shows, od_Odd_shows, .func (PySem.W.fnOf "shows" "Odd.shows" (defArgs s_Odd_shows) (defBody s_Odd_shows) (defScope s_Odd_shows) .none kV_Odd_shows dc_Odd_shows pm_Odd_shows an_Odd_shows cd_Odd_shows ct_Odd_shows), sl_Odd_shows⟩)
    (fc_Odd_shows : PySem.W.codeIn K cd_Odd_shows "Odd.shows" = true)
    (fk_Odd_shows : PySem.W.keepIn K (.ref f_Odd_shows) = true)
    (m0_Around_Around : PySem.W.kitOne K (.ref C_Around) (.ref C_Around) = some true)
    (m0_Around_Dead : PySem.W.kitOne K (.ref C_Around) (.ref C_Dead) = some false)
    (m0_Around_Odd : PySem.W.kitOne K (.ref C_Around) (.ref C_Odd) = some false)
    (m0_Dead_Around : PySem.W.kitOne K (.ref C_Dead) (.ref C_Around) = some false)
    (m0_Dead_Dead : PySem.W.kitOne K (.ref C_Dead) (.ref C_Dead) = some true)
    (m0_Dead_Odd : PySem.W.kitOne K (.ref C_Dead) (.ref C_Odd) = some false)
    (m0_Odd_Around : PySem.W.kitOne K (.ref C_Odd) (.ref C_Around) = some false)
    (m0_Odd_Dead : PySem.W.kitOne K (.ref C_Odd) (.ref C_Dead) = some false)
    (m0_Odd_Odd : PySem.W.kitOne K (.ref C_Odd) (.ref C_Odd) = some true)
    (na_Dead_setting : PySem.W.findIn K (.ref C_Dead) "setting" = some none)
    (t1 : K.lookup cc = some ⟨.type "code", ddc, .fields vsc, slc⟩)
    (t2 : vsc[11]? = some (.ref PT))
    (t3 : K.lookup PT = none)
    (t4 : vsc.getD 11 .none = .ref PT)
    (t5 : vsc.getD 18 .none = .str file tf)
    (t6 : vsc.getD 7 .none = .int flags tg)
    (t7 : vsc.getD 9 .none = .bool inF)
    (t8 : vsc.getD 10 .none = .int text tt)
    (t9 : cc ≠ PT)
    (z_len : PySem.W.nsIn K mainGlobals "len" = some none)
    (z_range : PySem.W.nsIn K mainGlobals "range" = some none)
    (z_zip : PySem.W.nsIn K mainGlobals "zip" = some none)
    (z_reversed : PySem.W.nsIn K mainGlobals "reversed" = some none)
    (z_divmod : PySem.W.nsIn K mainGlobals "divmod" = some none)
    (z_enumerate : PySem.W.nsIn K mainGlobals "enumerate" = some none)
    (z_any : PySem.W.nsIn K mainGlobals "any" = some none)
    (z_all : PySem.W.nsIn K mainGlobals "all" = some none)
    (z_sum : PySem.W.nsIn K mainGlobals "sum" = some none)
    (z_abs : PySem.W.nsIn K mainGlobals "abs" = some none)
    (z_min : PySem.W.nsIn K mainGlobals "min" = some none)
    (z_list : PySem.W.nsIn K mainGlobals "list" = some none)
    (z_int : PySem.W.nsIn K mainGlobals "int" = some none)
    (z_bool : PySem.W.nsIn K mainGlobals "bool" = some none)
    (z_str : PySem.W.nsIn K mainGlobals "str" = some none)
    (z_tuple : PySem.W.nsIn K mainGlobals "tuple" = some none)
    (z_isinstance : PySem.W.nsIn K mainGlobals "isinstance" = some none)
    (z_sorted : PySem.W.nsIn K mainGlobals "sorted" = some none)
    (z_ValueError : PySem.W.nsIn K mainGlobals "ValueError" = some none)
    : LamX.LawAtS l w K CX0 16 63 "_law_script" mg fa h := by
  have e := hfa.symm.trans (PySem.W.mg_of X G a31)
  cases e
  have B : Bi mg := ⟨PySem.W.mg_none_of X G z_len, PySem.W.mg_none_of X G z_range, PySem.W.mg_none_of X G z_zip, PySem.W.mg_none_of X G z_reversed, PySem.W.mg_none_of X G z_divmod, PySem.W.mg_none_of X G z_enumerate, PySem.W.mg_none_of X G z_any, PySem.W.mg_none_of X G z_all, PySem.W.mg_none_of X G z_sum, PySem.W.mg_none_of X G z_abs, PySem.W.mg_none_of X G z_min, PySem.W.mg_none_of X G z_list, PySem.W.mg_none_of X G z_int, PySem.W.mg_none_of X G z_bool, PySem.W.mg_none_of X G z_str, PySem.W.mg_none_of X G z_tuple, PySem.W.mg_none_of X G z_isinstance, PySem.W.mg_none_of X G z_sorted⟩
  have T_WheelError : Err K mg "WheelError" C_WheelError := ⟨PySem.W.mg_of X G gc_WheelError, kc_WheelError, xc_WheelError, sc_WheelError, tc_WheelError, ⟨e1_WheelError, e2_WheelError, sc_WheelError, e4_WheelError, e5_WheelError, e6_WheelError, e7_WheelError, e8_WheelError⟩⟩
  have T_BadWheels : Err K mg "BadWheels" C_BadWheels := ⟨PySem.W.mg_of X G gc_BadWheels, kc_BadWheels, xc_BadWheels, sc_BadWheels, tc_BadWheels, ⟨e1_BadWheels, e2_BadWheels, sc_BadWheels, e4_BadWheels, e5_BadWheels, e6_BadWheels, e7_BadWheels, e8_BadWheels⟩⟩
  have T_BadSetting : Err K mg "BadSetting" C_BadSetting := ⟨PySem.W.mg_of X G gc_BadSetting, kc_BadSetting, xc_BadSetting, sc_BadSetting, tc_BadSetting, ⟨e1_BadSetting, e2_BadSetting, sc_BadSetting, e4_BadSetting, e5_BadSetting, e6_BadSetting, e7_BadSetting, e8_BadSetting⟩⟩
  have T_BadNumber : Err K mg "BadNumber" C_BadNumber := ⟨PySem.W.mg_of X G gc_BadNumber, kc_BadNumber, xc_BadNumber, sc_BadNumber, tc_BadNumber, ⟨e1_BadNumber, e2_BadNumber, sc_BadNumber, e4_BadNumber, e5_BadNumber, e6_BadNumber, e7_BadNumber, e8_BadNumber⟩⟩
  have T_NoRing : Err K mg "NoRing" C_NoRing := ⟨PySem.W.mg_of X G gc_NoRing, kc_NoRing, xc_NoRing, sc_NoRing, tc_NoRing, ⟨e1_NoRing, e2_NoRing, sc_NoRing, e4_NoRing, e5_NoRing, e6_NoRing, e7_NoRing, e8_NoRing⟩⟩
  have T_BadText : Err K mg "BadText" C_BadText := ⟨PySem.W.mg_of X G gc_BadText, kc_BadText, xc_BadText, sc_BadText, tc_BadText, ⟨e1_BadText, e2_BadText, sc_BadText, e4_BadText, e5_BadText, e6_BadText, e7_BadText, e8_BadText⟩⟩
  have K_BadWheels : KindsE K C_BadWheels C_BadWheels C_BadSetting C_BadNumber C_NoRing C_BadText C_WheelError true false false false false := ⟨⟨T_BadWheels.C, m1_BadWheels, m2_BadWheels, m3_BadWheels, m4_BadWheels, m5_BadWheels, m6_BadWheels⟩, m7_BadWheels⟩
  have K_BadSetting : KindsE K C_BadSetting C_BadWheels C_BadSetting C_BadNumber C_NoRing C_BadText C_WheelError false true false false false := ⟨⟨T_BadSetting.C, m1_BadSetting, m2_BadSetting, m3_BadSetting, m4_BadSetting, m5_BadSetting, m6_BadSetting⟩, m7_BadSetting⟩
  have K_BadNumber : KindsE K C_BadNumber C_BadWheels C_BadSetting C_BadNumber C_NoRing C_BadText C_WheelError false false true false false := ⟨⟨T_BadNumber.C, m1_BadNumber, m2_BadNumber, m3_BadNumber, m4_BadNumber, m5_BadNumber, m6_BadNumber⟩, m7_BadNumber⟩
  have K_NoRing : KindsE K C_NoRing C_BadWheels C_BadSetting C_BadNumber C_NoRing C_BadText C_WheelError false false false true false := ⟨⟨T_NoRing.C, m1_NoRing, m2_NoRing, m3_NoRing, m4_NoRing, m5_NoRing, m6_NoRing⟩, m7_NoRing⟩
  have n_ValueError := PySem.W.mg_none_of X G z_ValueError
  have F1 := fun_mk (st := s_is_whole) l1 c1 k1
  have D_is_whole : Df K mg "is_whole" s_is_whole ["thing"] := ⟨_, _, F1, PySem.W.mg_of X G a1, F1.binds (ps := ["thing"]) fun _ _ _ _ _ _ us hl => match us, hl with | [_], _ => rfl⟩
  have F2 := fun_mk (st := s_check_wheels) l2 c2 k2
  have D_check_wheels : Df K mg "check_wheels" s_check_wheels ["wheels"] := ⟨_, _, F2, PySem.W.mg_of X G a2, F2.binds (ps := ["wheels"]) fun _ _ _ _ _ _ us hl => match us, hl with | [_], _ => rfl⟩
  have F3 := fun_mk (st := s_is_setting) l3 c3 k3
  have D_is_setting : Df K mg "is_setting" s_is_setting ["wheels", "setting"] := ⟨_, _, F3, PySem.W.mg_of X G a3, F3.binds (ps := ["wheels", "setting"]) fun _ _ _ _ _ _ us hl => match us, hl with | [_, _], _ => rfl⟩
  have F4 := fun_mk (st := s_check_setting) l4 c4 k4
  have D_check_setting : Df K mg "check_setting" s_check_setting ["wheels", "setting"] := ⟨_, _, F4, PySem.W.mg_of X G a4, F4.binds (ps := ["wheels", "setting"]) fun _ _ _ _ _ _ us hl => match us, hl with | [_, _], _ => rfl⟩
  have F5 := fun_mk (st := s_check_number) l5 c5 k5
  have D_check_number : Df K mg "check_number" s_check_number ["number", "many"] := ⟨_, _, F5, PySem.W.mg_of X G a5, F5.binds (ps := ["number", "many"]) fun _ _ _ _ _ _ us hl => match us, hl with | [_, _], _ => rfl⟩
  have F6 := fun_mk (st := s_all_odd) l6 c6 k6
  have D_all_odd : DfT K mg "_all_odd" s_all_odd ["sizes"] cc := ⟨f6, oc6, od6, an6, kV6, dc6, pm6, ct6, sl6, l6, c6, k6, PySem.W.mg_of X G a6, F6.binds (ps := ["sizes"]) fun _ _ _ _ _ _ us hl => match us, hl with | [_], _ => rfl⟩
  have F7 := fun_mk (st := s_steps_from) l7 c7 k7
  have D_steps_from : Df K mg "_steps_from" s_steps_from ["wheels", "setting"] := ⟨_, _, F7, PySem.W.mg_of X G a7, F7.binds (ps := ["wheels", "setting"]) fun _ _ _ _ _ _ us hl => match us, hl with | [_, _], _ => rfl⟩
  have F8 := fun_mk (st := s_settings) l8 c8 k8
  have D_settings : Df K mg "settings" s_settings ["wheels"] := ⟨_, _, F8, PySem.W.mg_of X G a8, F8.binds (ps := ["wheels"]) fun _ _ _ _ _ _ us hl => match us, hl with | [_], _ => rfl⟩
  have F9 := fun_mk (st := s_near) l9 c9 k9
  have D_near : Df K mg "near" s_near ["wheels", "setting"] := ⟨_, _, F9, PySem.W.mg_of X G a9, F9.binds (ps := ["wheels", "setting"]) fun _ _ _ _ _ _ us hl => match us, hl with | [_, _], _ => rfl⟩
  have F10 := fun_mk (st := s_apart) l10 c10 k10
  have D_apart : Df K mg "apart" s_apart ["wheels", "one", "other"] := ⟨_, _, F10, PySem.W.mg_of X G a10, F10.binds (ps := ["wheels", "one", "other"]) fun _ _ _ _ _ _ us hl => match us, hl with | [_, _, _], _ => rfl⟩
  have F11 := fun_mk (st := s_setting_of) l11 c11 k11
  have D_setting_of : Df K mg "setting_of" s_setting_of ["wheels", "number"] := ⟨_, _, F11, PySem.W.mg_of X G a11, F11.binds (ps := ["wheels", "number"]) fun _ _ _ _ _ _ us hl => match us, hl with | [_, _], _ => rfl⟩
  have F12 := fun_mk (st := s_number_of) l12 c12 k12
  have D_number_of : Df K mg "number_of" s_number_of ["wheels", "setting"] := ⟨_, _, F12, PySem.W.mg_of X G a12, F12.binds (ps := ["wheels", "setting"]) fun _ _ _ _ _ _ us hl => match us, hl with | [_, _], _ => rfl⟩
  have F13 := fun_mk (st := s_around) l13 c13 k13
  have D_around : Df K mg "around" s_around ["wheels"] := ⟨_, _, F13, PySem.W.mg_of X G a13, F13.binds (ps := ["wheels"]) fun _ _ _ _ _ _ us hl => match us, hl with | [_], _ => rfl⟩
  have F14 := fun_mk (st := s_ring_setting) l14 c14 k14
  have D_ring_setting : Df K mg "ring_setting" s_ring_setting ["wheels", "number"] := ⟨_, _, F14, PySem.W.mg_of X G a14, F14.binds (ps := ["wheels", "number"]) fun _ _ _ _ _ _ us hl => match us, hl with | [_, _], _ => rfl⟩
  have F15 := fun_mk (st := s_ring_number) l15 c15 k15
  have D_ring_number : Df K mg "ring_number" s_ring_number ["wheels", "setting"] := ⟨_, _, F15, PySem.W.mg_of X G a15, F15.binds (ps := ["wheels", "setting"]) fun _ _ _ _ _ _ us hl => match us, hl with | [_, _], _ => rfl⟩
  have F16 := fun_mk (st := s_even_wheel) l16 c16 k16
  have D_even_wheel : Df K mg "_even_wheel" s_even_wheel ["wheels"] := ⟨_, _, F16, PySem.W.mg_of X G a16, F16.binds (ps := ["wheels"]) fun _ _ _ _ _ _ us hl => match us, hl with | [_], _ => rfl⟩
  have F17 := fun_mk (st := s_without) l17 c17 k17
  have D_without : Df K mg "_without" s_without ["numbers", "at"] := ⟨_, _, F17, PySem.W.mg_of X G a17, F17.binds (ps := ["numbers", "at"]) fun _ _ _ _ _ _ us hl => match us, hl with | [_, _], _ => rfl⟩
  have F18 := fun_mk (st := s_written) l18 c18 k18
  have D_written : Df K mg "written" s_written ["wheels", "setting"] := ⟨_, _, F18, PySem.W.mg_of X G a18, F18.binds (ps := ["wheels", "setting"]) fun _ _ _ _ _ _ us hl => match us, hl with | [_, _], _ => rfl⟩
  have F19 := fun_mk (st := s_law_cell_at) l19 c19 k19
  have D_law_cell_at : Df K mg "_law_cell_at" s_law_cell_at ["_law_script", "_law_k"] := ⟨_, _, F19, PySem.W.mg_of X G a19, F19.binds (ps := ["_law_script", "_law_k"]) fun _ _ _ _ _ _ us hl => match us, hl with | [_, _], _ => rfl⟩
  have F20 := fun_mk (st := s_law_draw) l20 c20 k20
  have D_law_draw : Df K mg "_law_draw" s_law_draw ["_law_cell", "_law_k", "_law_many"] := ⟨_, _, F20, PySem.W.mg_of X G a20, F20.binds (ps := ["_law_cell", "_law_k", "_law_many"]) fun _ _ _ _ _ _ us hl => match us, hl with | [_, _, _], _ => rfl⟩
  have F21 := fun_mk (st := s_law_wheels) l21 c21 k21
  have D_law_wheels : Df K mg "_law_wheels" s_law_wheels ["_law_script"] := ⟨_, _, F21, PySem.W.mg_of X G a21, F21.binds (ps := ["_law_script"]) fun _ _ _ _ _ _ us hl => match us, hl with | [_], _ => rfl⟩
  have F22 := fun_mk (st := s_law_setting) l22 c22 k22
  have D_law_setting : Df K mg "_law_setting" s_law_setting ["_law_script", "_law_wheels_here", "_law_by"] := ⟨_, _, F22, PySem.W.mg_of X G a22, F22.binds (ps := ["_law_script", "_law_wheels_here", "_law_by"]) fun _ _ _ _ _ _ us hl => match us, hl with | [_, _, _], _ => rfl⟩
  have F23 := fun_mk (st := s_law_count) l23 c23 k23
  have D_law_count : Df K mg "_law_count" s_law_count ["_law_wheels_here"] := ⟨_, _, F23, PySem.W.mg_of X G a23, F23.binds (ps := ["_law_wheels_here"]) fun _ _ _ _ _ _ us hl => match us, hl with | [_], _ => rfl⟩
  have F24 := fun_mk (st := s_law_kinds) l24 c24 k24
  have D_law_kinds : Df K mg "_law_kinds" s_law_kinds ["_law_error"] := ⟨_, _, F24, PySem.W.mg_of X G a24, F24.binds (ps := ["_law_error"]) fun _ _ _ _ _ _ us hl => match us, hl with | [_], _ => rfl⟩
  have F25 := fun_mk (st := s_law_with_wheels) l25 c25 k25
  have D_law_with_wheels : Df K mg "_law_with_wheels" s_law_with_wheels ["_law_door", "_law_wheels_here"] := ⟨_, _, F25, PySem.W.mg_of X G a25, F25.binds (ps := ["_law_door", "_law_wheels_here"]) fun _ _ _ _ _ _ us hl => match us, hl with | [_, _], _ => rfl⟩
  have F26 := fun_mk (st := s_law_with_setting) l26 c26 k26
  have D_law_with_setting : Df K mg "_law_with_setting" s_law_with_setting ["_law_ask", "_law_wheels_here", "_law_setting_here"] := ⟨_, _, F26, PySem.W.mg_of X G a26, F26.binds (ps := ["_law_ask", "_law_wheels_here", "_law_setting_here"]) fun _ _ _ _ _ _ us hl => match us, hl with | [_, _, _], _ => rfl⟩
  have F27 := fun_mk (st := s_law_with_number) l27 c27 k27
  have D_law_with_number : Df K mg "_law_with_number" s_law_with_number ["_law_wheels_here", "_law_number"] := ⟨_, _, F27, PySem.W.mg_of X G a27, F27.binds (ps := ["_law_wheels_here", "_law_number"]) fun _ _ _ _ _ _ us hl => match us, hl with | [_, _], _ => rfl⟩
  have F28 := fun_mk (st := s_law_told) l28 c28 k28
  have D_law_told : Df K mg "_law_told" s_law_told ["_law_ask", "_law_one", "_law_other"] := ⟨_, _, F28, PySem.W.mg_of X G a28, F28.binds (ps := ["_law_ask", "_law_one", "_law_other"]) fun _ _ _ _ _ _ us hl => match us, hl with | [_, _, _], _ => rfl⟩
  have F29 := fun_mk (st := s_law_settings_refused) l29 c29 k29
  have D_law_settings_refused : Df K mg "_law_settings_refused" s_law_settings_refused ["_law_wheels_here", "_law_setting_here", "_law_bad", "_law_due"] := ⟨_, _, F29, PySem.W.mg_of X G a29, F29.binds (ps := ["_law_wheels_here", "_law_setting_here", "_law_bad", "_law_due"]) fun _ _ _ _ _ _ us hl => match us, hl with | [_, _, _, _], _ => rfl⟩
  have F30 := fun_mk (st := s_law_rings_right) l30 c30 k30
  have D_law_rings_right : Df K mg "_law_rings_right" s_law_rings_right ["_law_due", "_law_far_here"] := ⟨_, _, F30, PySem.W.mg_of X G a30, F30.binds (ps := ["_law_due", "_law_far_here"]) fun _ _ _ _ _ _ us hl => match us, hl with | [_, _], _ => rfl⟩
  have F31 := fun_mk (st := s_law) l31 c31 k31
  have D_law : At K mg "law" s_law ["_law_script"] _ _ := ⟨F31, PySem.W.mg_of X G a31, F31.binds (ps := ["_law_script"]) fun _ _ _ _ _ _ us hl => match us, hl with | [_], _ => rfl⟩
  have O_Around : OCls K C_Around := ⟨⟨pg_Around, hd_Around, po_Around, sa_Around⟩, oa_Around, on_Around, ot_Around, om_Around⟩
  have g_Around := PySem.W.mg_of X G go_Around
  have O_Dead : OCls K C_Dead := ⟨⟨pg_Dead, hd_Dead, po_Dead, sa_Dead⟩, oa_Dead, on_Dead, ot_Dead, om_Dead⟩
  have g_Dead := PySem.W.mg_of X G go_Dead
  have O_Odd : OCls K C_Odd := ⟨⟨pg_Odd, hd_Odd, po_Odd, sa_Odd⟩, oa_Odd, on_Odd, ot_Odd, om_Odd⟩
  have g_Odd := PySem.W.mg_of X G go_Odd
  have M_Around : Mk0 K C_Around := ⟨mk_Around, in_Around, kk_Around⟩
  have M_Odd : Mk0 K C_Odd := ⟨mk_Odd, in_Odd, kk_Odd⟩
  have F_Around_shows := fun_mk (st := s_Around_shows) fl_Around_shows fc_Around_shows fk_Around_shows
  have b_Around_shows := F_Around_shows.binds (ps := ["self", "wheels"]) fun _ _ _ _ _ _ us hl => match us, hl with | [_, _], _ => rfl
  have m_Around_shows : Meth K C_Around "shows" f_Around_shows := ⟨fa_Around_shows, fi_Around_shows, fk_Around_shows⟩
  have F_Dead_init := fun_mk (st := s_Dead_init) fl_Dead_init fc_Dead_init fk_Dead_init
  have b_Dead_init := F_Dead_init.binds (ps := ["self", "setting"]) fun _ _ _ _ _ _ us hl => match us, hl with | [_, _], _ => rfl
  have M_Dead : Mk K C_Dead f_Dead_init := ⟨mk_Dead, fa_Dead_init, fi_Dead_init, kk_Dead⟩
  have F_Dead_shows := fun_mk (st := s_Dead_shows) fl_Dead_shows fc_Dead_shows fk_Dead_shows
  have b_Dead_shows := F_Dead_shows.binds (ps := ["self", "wheels"]) fun _ _ _ _ _ _ us hl => match us, hl with | [_, _], _ => rfl
  have m_Dead_shows : Meth K C_Dead "shows" f_Dead_shows := ⟨fa_Dead_shows, fi_Dead_shows, fk_Dead_shows⟩
  have F_Odd_shows := fun_mk (st := s_Odd_shows) fl_Odd_shows fc_Odd_shows fk_Odd_shows
  have b_Odd_shows := F_Odd_shows.binds (ps := ["self", "wheels"]) fun _ _ _ _ _ _ us hl => match us, hl with | [_, _], _ => rfl
  have m_Odd_shows : Meth K C_Odd "shows" f_Odd_shows := ⟨fa_Odd_shows, fi_Odd_shows, fk_Odd_shows⟩
  have hP := own _ (PySem.W.mg_of X G a6) _ _ _ _ _ _ _ _ l6 rfl rfl t1 t2
  refine ⟨PySem.W.fnOf "law" "law" (defArgs s_law) (defBody s_law) (defScope s_law) .none kV31 dc31 pm31 an31 cd31 ct31, [(cc, PT)], sp_law K PT, fun p hp => ?_, fun p hp => ?_, fun p hp => ?_, fun s v => .of_eq rfl, fun H a ns hl _ ht hS => ?_, fun base _ _ tb => ?_⟩
  · rw [List.mem_singleton.mp hp]; exact hP
  · rw [List.mem_singleton.mp hp]; exact t3
  · rw [List.mem_singleton.mp hp]; exact ⟨_, vsc, file, tf, flags, tg, inF, text, tt, X _ _ t1, rfl, rfl, t2, t4, t5, t6, t7, t8, t9⟩
  · exact ⟨a, ns, rfl, ⟨#[], ht (cc, PT) List.mem_cons_self, trivial⟩, hS, hl, fun _ => rfl⟩
  have tb0 := tb (cc, PT) List.mem_cons_self
  have TB : GxR.TabB base mg cc PT := ⟨tb0.code, tb0.bm, tb0.gP⟩
  have W_is_whole := ok_is_wholeV (P := l.prog) (w := w) (base := base) (K := K) D_is_whole B
  have G_is_whole := ok_is_whole (P := l.prog) (w := w) (base := base) D_is_whole B
  have G_check_wheels := ok_check_wheels (P := l.prog) (w := w) (base := base) D_check_wheels B G_is_whole
  have G_is_setting := ok_is_set (P := l.prog) (w := w) (base := base) D_is_setting B G_is_whole
  have G_check_setting := ok_check_setting (P := l.prog) (w := w) (base := base) D_check_setting G_is_setting
  have G_settings := ok_settings (P := l.prog) (w := w) (base := base) D_settings B G_check_wheels
  have X_check_wheels := bad_check_wheels D_check_wheels B T_BadWheels W_is_whole
  have V_is_setting := bad_is_setting D_is_setting B W_is_whole
  have X_check_setting := bad_check_setting D_check_setting T_BadSetting V_is_setting
  have X_check_number := bad_check_number D_check_number B T_BadNumber W_is_whole
  have X_settings := bad_settings D_settings X_check_wheels
  have X_near := bad_near D_near X_check_wheels
  have X_apart := bad_apart D_apart X_check_wheels
  have X_setting_of := bad_setting_of D_setting_of X_settings
  have X_number_of := bad_number_of D_number_of X_check_wheels
  have S_near := bads_near D_near G_check_wheels X_check_setting
  have S_number_of := bads_number_of D_number_of G_check_wheels X_check_setting
  have S_apart := bads_apart D_apart G_check_wheels X_check_setting
  have S_apart2 := bads_apart2 D_apart G_check_wheels G_check_setting X_check_setting
  have N_setting_of := bads_number D_setting_of G_settings X_check_number
  have T : Three K C_Around C_Dead C_Odd := ⟨O_Around, O_Dead, O_Odd, m0_Around_Around, m0_Around_Dead, m0_Around_Odd, m0_Dead_Around, m0_Dead_Dead, m0_Dead_Odd, m0_Odd_Around, m0_Odd_Dead, m0_Odd_Odd, na_Dead_setting⟩
  have G_all_odd := ok_all_odd (P := l.prog) (w := w) (base := base) D_all_odd TB B
  have G_steps_from := ok_steps_from (P := l.prog) (w := w) (base := base) (K := K) D_steps_from B
  have S : Shows l.prog w K mg base PT C_Around C_Dead C_Odd := ⟨⟨_, _, _, m_Around_shows, b_Around_shows, ok_around_shows F_Around_shows B G_all_odd⟩, ⟨_, _, _, m_Dead_shows, b_Dead_shows, ok_dead_shows F_Dead_shows T G_is_setting G_steps_from⟩, ⟨_, _, _, m_Odd_shows, b_Odd_shows, ok_odd_shows F_Odd_shows B G_all_odd⟩⟩
  have G_even_wheel := ok_even_wheel D_even_wheel T S M_Around g_Around G_check_wheels
  have G_without := ok_without (P := l.prog) (w := w) (base := base) (K := K) D_without
  have X_around := bad_around D_around X_check_wheels
  have E_even_wheel := badw_even_wheel D_even_wheel X_check_wheels
  have X_ring_setting := badw_ring_setting D_ring_setting E_even_wheel
  have X_ring_number := badw_ring_number D_ring_number E_even_wheel
  have X_written := x_written D_written B T_BadWheels G_check_wheels X_check_wheels
  have S_written := s_written_bad D_written B T_BadWheels G_check_wheels X_check_setting
  have X_even_wheel := bad_even_wheel D_even_wheel T S M_Around g_Around G_check_wheels T_NoRing
  have R1 := nor_ring_setting D_ring_setting X_even_wheel
  have R2 := nor_ring_number D_ring_number X_even_wheel
  have R3 := badn_ring_setting D_ring_setting G_even_wheel G_without G_settings X_check_number
  have R4 := bads_ring_number D_ring_number G_even_wheel X_check_setting
  have G_written := written60 (ok_written D_written B G_check_wheels G_check_setting)
  have G_law_cell_at := ok_cell_at (P := l.prog) (w := w) (base := base) D_law_cell_at B
  have G_law_draw := ok_draw (P := l.prog) (w := w) (base := base) D_law_draw B
  have G_law_wheels := ok_wheels (P := l.prog) (w := w) (base := base) D_law_wheels B G_law_cell_at G_law_draw
  have G_law_setting := ok_setting (P := l.prog) (w := w) (base := base) D_law_setting B G_law_cell_at G_law_draw
  have G_law_count := ok_count (P := l.prog) (w := w) (base := base) D_law_count B
  have G_law_kinds := ok_kinds (P := l.prog) (w := w) (base := base) (K := K) D_law_kinds B T_BadWheels.g T_BadSetting.g T_BadNumber.g T_NoRing.g T_BadText.g n_ValueError
  have G_law_told := ok_told (P := l.prog) (w := w) (base := base) (k := 13) (by decide) D_law_told T_WheelError.g G_law_kinds
  have X_law_with_number := bad_with_number D_law_with_number N_setting_of
  have X_law_with_setting := bad_with_setting D_law_with_setting B S_near S_number_of S_apart S_apart2 S_written
  have X_law_with_wheels := bad_with_wheels D_law_with_wheels X_settings X_near X_apart X_setting_of X_number_of X_around X_ring_setting X_ring_number X_written
  have G_law_settings_refused := ok_settings_refused D_law_settings_refused B T_WheelError K_BadSetting G_law_kinds X_law_with_setting
  have G_law_rings_right := ok_rings_right D_law_rings_right B K_BadSetting K_BadNumber K_NoRing R1 R2 R3 R4 G_law_told
  exact ok_law D_law B K_BadWheels K_BadNumber G_law_cell_at G_law_wheels G_law_setting G_law_count X_law_with_wheels X_law_with_number G_law_told G_law_settings_refused G_law_rings_right G_written
end Ww
open PySem PySem.W PyProof.Rows
set_option maxHeartbeats 0 in
theorem PySem.Challenge.cw_wheelways_k06_refused_holds : PySem.Challenge.rw_wheelways_k06_refused.Holds := by
  w_on; o_law; k_head; (case hw => w_witness2)
  k_fill
  refine Ww.walk_tab (l := PySem.Challenge.rw_wheelways_k06_refused) (nm := "_all_odd") (n := 63) (k := 16) (x := "_law_script") (CX := fun _ => L2.CX0) rfl (by decide) rfl ⟨rfl, by decide, by decide⟩ (by decide +kernel) (fun w h Y => PySem.W.kIn_of Y) ?F (fun _ _ _ _ _ h => h)
  case F =>
    intro w mg fa h _ KX G hmg own
    refine' Ww.all_mk KX G hmg own ?a1 ?l1 ?c1 ?k1 ?a2 ?l2 ?c2 ?k2 ?a3 ?l3 ?c3 ?k3 ?a4 ?l4 ?c4 ?k4 ?a5 ?l5 ?c5 ?k5 ?a6 ?l6 ?c6 ?k6 ?a7 ?l7 ?c7 ?k7 ?a8 ?l8 ?c8 ?k8 ?a9 ?l9 ?c9 ?k9 ?a10 ?l10 ?c10 ?k10 ?a11 ?l11 ?c11 ?k11 ?a12 ?l12 ?c12 ?k12 ?a13 ?l13 ?c13 ?k13 ?a14 ?l14 ?c14 ?k14 ?a15 ?l15 ?c15 ?k15 ?a16 ?l16 ?c16 ?k16 ?a17 ?l17 ?c17 ?k17 ?a18 ?l18 ?c18 ?k18 ?a19 ?l19 ?c19 ?k19 ?a20 ?l20 ?c20 ?k20 ?a21 ?l21 ?c21 ?k21 ?a22 ?l22 ?c22 ?k22 ?a23 ?l23 ?c23 ?k23 ?a24 ?l24 ?c24 ?k24 ?a25 ?l25 ?c25 ?k25 ?a26 ?l26 ?c26 ?k26 ?a27 ?l27 ?c27 ?k27 ?a28 ?l28 ?c28 ?k28 ?a29 ?l29 ?c29 ?k29 ?a30 ?l30 ?c30 ?k30 ?a31 ?l31 ?c31 ?k31 ?gc_WheelError ?kc_WheelError ?xc_WheelError ?sc_WheelError ?tc_WheelError ?e1_WheelError ?e2_WheelError ?e4_WheelError ?e5_WheelError ?e6_WheelError ?e7_WheelError ?e8_WheelError ?gc_BadWheels ?kc_BadWheels ?xc_BadWheels ?sc_BadWheels ?tc_BadWheels ?e1_BadWheels ?e2_BadWheels ?e4_BadWheels ?e5_BadWheels ?e6_BadWheels ?e7_BadWheels ?e8_BadWheels ?gc_BadSetting ?kc_BadSetting ?xc_BadSetting ?sc_BadSetting ?tc_BadSetting ?e1_BadSetting ?e2_BadSetting ?e4_BadSetting ?e5_BadSetting ?e6_BadSetting ?e7_BadSetting ?e8_BadSetting ?gc_BadNumber ?kc_BadNumber ?xc_BadNumber ?sc_BadNumber ?tc_BadNumber ?e1_BadNumber ?e2_BadNumber ?e4_BadNumber ?e5_BadNumber ?e6_BadNumber ?e7_BadNumber ?e8_BadNumber ?gc_NoRing ?kc_NoRing ?xc_NoRing ?sc_NoRing ?tc_NoRing ?e1_NoRing ?e2_NoRing ?e4_NoRing ?e5_NoRing ?e6_NoRing ?e7_NoRing ?e8_NoRing ?gc_BadText ?kc_BadText ?xc_BadText ?sc_BadText ?tc_BadText ?e1_BadText ?e2_BadText ?e4_BadText ?e5_BadText ?e6_BadText ?e7_BadText ?e8_BadText ?m1_BadWheels ?m2_BadWheels ?m3_BadWheels ?m4_BadWheels ?m5_BadWheels ?m6_BadWheels ?m7_BadWheels ?m1_BadSetting ?m2_BadSetting ?m3_BadSetting ?m4_BadSetting ?m5_BadSetting ?m6_BadSetting ?m7_BadSetting ?m1_BadNumber ?m2_BadNumber ?m3_BadNumber ?m4_BadNumber ?m5_BadNumber ?m6_BadNumber ?m7_BadNumber ?m1_NoRing ?m2_NoRing ?m3_NoRing ?m4_NoRing ?m5_NoRing ?m6_NoRing ?m7_NoRing ?go_Around ?pg_Around ?hd_Around ?po_Around ?sa_Around ?oa_Around ?on_Around ?ot_Around ?om_Around ?go_Dead ?pg_Dead ?hd_Dead ?po_Dead ?sa_Dead ?oa_Dead ?on_Dead ?ot_Dead ?om_Dead ?go_Odd ?pg_Odd ?hd_Odd ?po_Odd ?sa_Odd ?oa_Odd ?on_Odd ?ot_Odd ?om_Odd ?mk_Around ?in_Around ?kk_Around ?mk_Odd ?in_Odd ?kk_Odd ?fa_Around_shows ?fi_Around_shows ?fl_Around_shows ?fc_Around_shows ?fk_Around_shows ?fa_Dead_init ?fi_Dead_init ?fl_Dead_init ?fc_Dead_init ?fk_Dead_init ?mk_Dead ?kk_Dead ?fa_Dead_shows ?fi_Dead_shows ?fl_Dead_shows ?fc_Dead_shows ?fk_Dead_shows ?fa_Odd_shows ?fi_Odd_shows ?fl_Odd_shows ?fc_Odd_shows ?fk_Odd_shows ?m0_Around_Around ?m0_Around_Dead ?m0_Around_Odd ?m0_Dead_Around ?m0_Dead_Dead ?m0_Dead_Odd ?m0_Odd_Around ?m0_Odd_Dead ?m0_Odd_Odd ?na_Dead_setting ?t1 ?t2 ?t3 ?t4 ?t5 ?t6 ?t7 ?t8 ?t9 ?z_len ?z_range ?z_zip ?z_reversed ?z_divmod ?z_enumerate ?z_any ?z_all ?z_sum ?z_abs ?z_min ?z_list ?z_int ?z_bool ?z_str ?z_tuple ?z_isinstance ?z_sorted ?z_ValueError
    (case a1 => k_is)
    (case l1 => k_is)
    (case c1 => k_is)
    (case k1 => k_is)
    (case a2 => k_is)
    (case l2 => k_is)
    (case c2 => k_is)
    (case k2 => k_is)
    (case a3 => k_is)
    (case l3 => k_is)
    (case c3 => k_is)
    (case k3 => k_is)
    (case a4 => k_is)
    (case l4 => k_is)
    (case c4 => k_is)
    (case k4 => k_is)
    (case a5 => k_is)
    (case l5 => k_is)
    (case c5 => k_is)
    (case k5 => k_is)
    (case a6 => k_is)
    (case l6 => k_is)
    (case c6 => k_is)
    (case k6 => k_is)
    (case a7 => k_is)
    (case l7 => k_is)
    (case c7 => k_is)
    (case k7 => k_is)
    (case a8 => k_is)
    (case l8 => k_is)
    (case c8 => k_is)
    (case k8 => k_is)
    (case a9 => k_is)
    (case l9 => k_is)
    (case c9 => k_is)
    (case k9 => k_is)
    (case a10 => k_is)
    (case l10 => k_is)
    (case c10 => k_is)
    (case k10 => k_is)
    (case a11 => k_is)
    (case l11 => k_is)
    (case c11 => k_is)
    (case k11 => k_is)
    (case a12 => k_is)
    (case l12 => k_is)
    (case c12 => k_is)
    (case k12 => k_is)
    (case a13 => k_is)
    (case l13 => k_is)
    (case c13 => k_is)
    (case k13 => k_is)
    (case a14 => k_is)
    (case l14 => k_is)
    (case c14 => k_is)
    (case k14 => k_is)
    (case a15 => k_is)
    (case l15 => k_is)
    (case c15 => k_is)
    (case k15 => k_is)
    (case a16 => k_is)
    (case l16 => k_is)
    (case c16 => k_is)
    (case k16 => k_is)
    (case a17 => k_is)
    (case l17 => k_is)
    (case c17 => k_is)
    (case k17 => k_is)
    (case a18 => k_is)
    (case l18 => k_is)
    (case c18 => k_is)
    (case k18 => k_is)
    (case a19 => k_is)
    (case l19 => k_is)
    (case c19 => k_is)
    (case k19 => k_is)
    (case a20 => k_is)
    (case l20 => k_is)
    (case c20 => k_is)
    (case k20 => k_is)
    (case a21 => k_is)
    (case l21 => k_is)
    (case c21 => k_is)
    (case k21 => k_is)
    (case a22 => k_is)
    (case l22 => k_is)
    (case c22 => k_is)
    (case k22 => k_is)
    (case a23 => k_is)
    (case l23 => k_is)
    (case c23 => k_is)
    (case k23 => k_is)
    (case a24 => k_is)
    (case l24 => k_is)
    (case c24 => k_is)
    (case k24 => k_is)
    (case a25 => k_is)
    (case l25 => k_is)
    (case c25 => k_is)
    (case k25 => k_is)
    (case a26 => k_is)
    (case l26 => k_is)
    (case c26 => k_is)
    (case k26 => k_is)
    (case a27 => k_is)
    (case l27 => k_is)
    (case c27 => k_is)
    (case k27 => k_is)
    (case a28 => k_is)
    (case l28 => k_is)
    (case c28 => k_is)
    (case k28 => k_is)
    (case a29 => k_is)
    (case l29 => k_is)
    (case c29 => k_is)
    (case k29 => k_is)
    (case a30 => k_is)
    (case l30 => k_is)
    (case c30 => k_is)
    (case k30 => k_is)
    (case a31 => k_is)
    (case l31 => k_is)
    (case c31 => k_is)
    (case k31 => k_is)
    (case gc_WheelError => k_is)
    (case kc_WheelError => k_is)
    (case xc_WheelError => k_exc)
    (case sc_WheelError => k_is)
    (case tc_WheelError => k_is)
    (case e1_WheelError => k_is)
    (case e2_WheelError => k_is)
    (case e4_WheelError => k_is)
    (case e5_WheelError => k_is)
    (case e6_WheelError => k_is)
    (case e7_WheelError => k_is)
    (case e8_WheelError => k_is)
    (case gc_BadWheels => k_is)
    (case kc_BadWheels => k_is)
    (case xc_BadWheels => k_exc)
    (case sc_BadWheels => k_is)
    (case tc_BadWheels => k_is)
    (case e1_BadWheels => k_is)
    (case e2_BadWheels => k_is)
    (case e4_BadWheels => k_is)
    (case e5_BadWheels => k_is)
    (case e6_BadWheels => k_is)
    (case e7_BadWheels => k_is)
    (case e8_BadWheels => k_is)
    (case gc_BadSetting => k_is)
    (case kc_BadSetting => k_is)
    (case xc_BadSetting => k_exc)
    (case sc_BadSetting => k_is)
    (case tc_BadSetting => k_is)
    (case e1_BadSetting => k_is)
    (case e2_BadSetting => k_is)
    (case e4_BadSetting => k_is)
    (case e5_BadSetting => k_is)
    (case e6_BadSetting => k_is)
    (case e7_BadSetting => k_is)
    (case e8_BadSetting => k_is)
    (case gc_BadNumber => k_is)
    (case kc_BadNumber => k_is)
    (case xc_BadNumber => k_exc)
    (case sc_BadNumber => k_is)
    (case tc_BadNumber => k_is)
    (case e1_BadNumber => k_is)
    (case e2_BadNumber => k_is)
    (case e4_BadNumber => k_is)
    (case e5_BadNumber => k_is)
    (case e6_BadNumber => k_is)
    (case e7_BadNumber => k_is)
    (case e8_BadNumber => k_is)
    (case gc_NoRing => k_is)
    (case kc_NoRing => k_is)
    (case xc_NoRing => k_exc)
    (case sc_NoRing => k_is)
    (case tc_NoRing => k_is)
    (case e1_NoRing => k_is)
    (case e2_NoRing => k_is)
    (case e4_NoRing => k_is)
    (case e5_NoRing => k_is)
    (case e6_NoRing => k_is)
    (case e7_NoRing => k_is)
    (case e8_NoRing => k_is)
    (case gc_BadText => k_is)
    (case kc_BadText => k_is)
    (case xc_BadText => k_exc)
    (case sc_BadText => k_is)
    (case tc_BadText => k_is)
    (case e1_BadText => k_is)
    (case e2_BadText => k_is)
    (case e4_BadText => k_is)
    (case e5_BadText => k_is)
    (case e6_BadText => k_is)
    (case e7_BadText => k_is)
    (case e8_BadText => k_is)
    (case m1_BadWheels => kit_is)
    (case m2_BadWheels => kit_is)
    (case m3_BadWheels => kit_is)
    (case m4_BadWheels => kit_is)
    (case m5_BadWheels => kit_is)
    (case m6_BadWheels => kit_is)
    (case m7_BadWheels => kts_exm)
    (case m1_BadSetting => kit_is)
    (case m2_BadSetting => kit_is)
    (case m3_BadSetting => kit_is)
    (case m4_BadSetting => kit_is)
    (case m5_BadSetting => kit_is)
    (case m6_BadSetting => kit_is)
    (case m7_BadSetting => kts_exm)
    (case m1_BadNumber => kit_is)
    (case m2_BadNumber => kit_is)
    (case m3_BadNumber => kit_is)
    (case m4_BadNumber => kit_is)
    (case m5_BadNumber => kit_is)
    (case m6_BadNumber => kit_is)
    (case m7_BadNumber => kts_exm)
    (case m1_NoRing => kit_is)
    (case m2_NoRing => kit_is)
    (case m3_NoRing => kit_is)
    (case m4_NoRing => kit_is)
    (case m5_NoRing => kit_is)
    (case m6_NoRing => kit_is)
    (case m7_NoRing => kts_exm)
    (case go_Around => k_is)
    (case pg_Around => k_is)
    (case hd_Around => k_is)
    (case po_Around => k_is)
    (case sa_Around => k_is)
    (case oa_Around => k_is)
    (case on_Around => k_is)
    (case ot_Around => k_is)
    (case om_Around => k_is)
    (case go_Dead => k_is)
    (case pg_Dead => k_is)
    (case hd_Dead => k_is)
    (case po_Dead => k_is)
    (case sa_Dead => k_is)
    (case oa_Dead => k_is)
    (case on_Dead => k_is)
    (case ot_Dead => k_is)
    (case om_Dead => k_is)
    (case go_Odd => k_is)
    (case pg_Odd => k_is)
    (case hd_Odd => k_is)
    (case po_Odd => k_is)
    (case sa_Odd => k_is)
    (case oa_Odd => k_is)
    (case on_Odd => k_is)
    (case ot_Odd => k_is)
    (case om_Odd => k_is)
    (case mk_Around => k_is)
    (case in_Around => k_is)
    (case kk_Around => k_is)
    (case mk_Odd => k_is)
    (case in_Odd => k_is)
    (case kk_Odd => k_is)
    (case fa_Around_shows => k_is)
    (case fi_Around_shows => k_is)
    (case fl_Around_shows => k_is)
    (case fc_Around_shows => k_is)
    (case fk_Around_shows => k_is)
    (case fa_Dead_init => k_is)
    (case fi_Dead_init => k_is)
    (case fl_Dead_init => k_is)
    (case fc_Dead_init => k_is)
    (case fk_Dead_init => k_is)
    (case mk_Dead => k_is)
    (case kk_Dead => k_is)
    (case fa_Dead_shows => k_is)
    (case fi_Dead_shows => k_is)
    (case fl_Dead_shows => k_is)
    (case fc_Dead_shows => k_is)
    (case fk_Dead_shows => k_is)
    (case fa_Odd_shows => k_is)
    (case fi_Odd_shows => k_is)
    (case fl_Odd_shows => k_is)
    (case fc_Odd_shows => k_is)
    (case fk_Odd_shows => k_is)
    (case m0_Around_Around => kit_is)
    (case m0_Around_Dead => kit_is)
    (case m0_Around_Odd => kit_is)
    (case m0_Dead_Around => kit_is)
    (case m0_Dead_Dead => kit_is)
    (case m0_Dead_Odd => kit_is)
    (case m0_Odd_Around => kit_is)
    (case m0_Odd_Dead => kit_is)
    (case m0_Odd_Odd => kit_is)
    (case na_Dead_setting => k_is)
    (case t1 => k_is)
    (case t2 => rfl)
    (case t3 => rfl)
    (case t4 => rfl)
    (case t5 => rfl)
    (case t6 => rfl)
    (case t7 => rfl)
    (case t8 => rfl)
    (case t9 => decide)
    (case z_len => k_is)
    (case z_range => k_is)
    (case z_zip => k_is)
    (case z_reversed => k_is)
    (case z_divmod => k_is)
    (case z_enumerate => k_is)
    (case z_any => k_is)
    (case z_all => k_is)
    (case z_sum => k_is)
    (case z_abs => k_is)
    (case z_min => k_is)
    (case z_list => k_is)
    (case z_int => k_is)
    (case z_bool => k_is)
    (case z_str => k_is)
    (case z_tuple => k_is)
    (case z_isinstance => k_is)
    (case z_sorted => k_is)
    (case z_ValueError => k_is)
#print axioms PySem.Challenge.cw_wheelways_k06_refused_holds
