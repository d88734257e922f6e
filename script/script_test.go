package script

import (
	"fmt"
	"strings"
	"testing"

	"stopcock/api"
)

// dialog does lines, each written as "line | result"; a result's further lines follow behind "/".
func dialog(t *testing.T, d *Desk, l ...string) {
	t.Helper()
	for _, x := range l {
		line, want, _ := strings.Cut(x, " | ")
		want = strings.ReplaceAll(want, "/", "\n")
		if got, e := d.Line(line); got != want || e != api.OK {
			t.Fatalf("Line(%q) is %q, %d, not %q", line, got, e, want)
		}
	}
}

// The document's examples.
func TestExamples(t *testing.T) {
	d := New()
	dialog(t, d, "world 1 1 2 0 100 | ok", "stand 1 | ok", "send 1 1 begin query:x | ok", "queries 1 | ok 1/ 1", "serve 1 1 =y | ok",
		"told | ok 2/ 1 1 1 ready/ 1 1 1 result =y", "stand 1 | error 3")
	if s, e := d.Line("fly"); s != "" || e != api.ErrLine {
		t.Errorf("Line is %q, %d", s, e)
	}
}

// lines returns a line of each form.
func lines() []string {
	return []string{
		"world 3 1,2,3 2 100 1000", "pass 0 0", "pass 10 9 10 11", "deliver 0", "drop 1", "double 9999999999999", "stand 1", "beat 0", "squash 7", "start 9",
		"change 1 1", "change 1 3,2,1", "crash 1", "crash 1 0", "crash 1 5,0,7", "arm 1 0", "send 1 1 begin", "send 0 9 begin end query: query:a0 query:abcdefghij123456 bad", "hang 1 1",
		"serve 1 1 =", "serve 1 1 =abcdefghij123456", "round", "round 0", "round 50", "open", "told", "leaders", "clocks", "letters", "held 1", "queries 1", "judge",
	}
}

// P23.1: what is a line, and what happens without a world.
func TestLines(t *testing.T) {
	for _, line := range lines() {
		if s, e := New().Line(line); e != api.OK || s != "error 3" && !strings.HasPrefix(line, "world") {
			t.Errorf("Line(%q) is %q, %d", line, s, e)
		}
		if s, out, e := line+"\n", "error 3\n", api.OK; !strings.HasPrefix(line, "world") {
			if got, gotErr, n := Run(s); got != out || gotErr != e || n != 0 {
				t.Errorf("Run(%q) is %q, %d, %d", s, got, gotErr, n)
			}
		}
		for _, bad := range []string{" " + line, line + " ", line + " x", line + "\n", line + "\t", strings.ToUpper(line), strings.Replace(line, " ", "  ", 1), strings.Replace(line, " ", "\t", 1)} {
			if bad == line {
				continue
			}
			if s, e := New().Line(bad); s != "" || e != api.ErrLine {
				t.Errorf("Line(%q) is %q, %d", bad, s, e)
			}
		}
		if at := strings.LastIndex(line, " "); at >= 0 && strings.Count(line, " ") == 1 && line != "round 0" && line != "round 50" && line != "crash 1" {
			if s, e := New().Line(line[:at]); s != "" || e != api.ErrLine {
				t.Errorf("Line(%q) is %q, %d", line[:at], s, e)
			}
		}
	}
	for _, line := range []string{
		"", " ", "#", "# open", "fly", "world", "world 1 1 2 0", "world 1 1 2 0 1 1", "world 1 1, 2 0 1", "world 1 ,1 2 0 1", "world 1 1,,2 2 0 1", "world 1 - 2 0 1",
		"pass", "pass 1", "pass 01 1", "pass 1 -1", "pass 1 +1", "pass 1 1.0", "pass 1 10000000000000", "pass 1 a", "deliver", "deliver 0 0", "deliver 00", "deliver x", "drop", "double -1",
		"stand", "stand 1 1", "stand a", "beat", "squash 1,2", "start", "change 1", "change 1 01", "change 1 1 2", "change", "crash", "crash 1 2 3", "crash 1 1,", "crash 1 -1", "arm 1", "arm 1 -1", "arm 1 1 1",
		"send 1 1", "send 1 1 x", "send 1 1 query", "send 1 1 query:A", "send 1 1 query:abcdefghij1234567", "send 1 1 begin:x", "send 1 1 begin  end", "send 1 begin", "send 1 1 end x", "send 1 1 Bad",
		"hang 1", "hang 1 1 1", "serve 1 1", "serve 1 1 y", "serve 1 1 =Y", "serve 1 1 =a b", "serve 1 1 =abcdefghij1234567", "serve 1 =y", "serve 1 1 =é",
		"round 51", "round 1 1", "round 01", "round x", "open 1", "told 1", "leaders 1", "clocks 1", "letters 1", "held", "held 1 1", "held x", "queries", "queries -", "judge 1", "reply", "query:x",
	} {
		if s, e := New().Line(line); s != "" || e != api.ErrLine {
			t.Errorf("Line(%q) is %q, %d", line, s, e)
		}
	}
}

// P23.1: how long a line may be.
func TestLong(t *testing.T) {
	line := "send 1 1" + strings.Repeat(" begin", 41)
	line += " e" + strings.Repeat("x", 256-len(line)-2)
	if s, e := New().Line(line); s != "" || e != api.ErrLine || len(line) != 256 {
		t.Errorf("Line is %q, %d", s, e)
	}
	if s, e := New().Line(line + "x"); s != "" || e != api.ErrLong {
		t.Errorf("Line is %q, %d", s, e)
	}
	if s, e := New().Line("send 1 1" + strings.Repeat(" begin", 41)); s != "error 3" || e != api.OK {
		t.Errorf("Line is %q, %d", s, e)
	}
}

// P23.1, P23.2: the longest line, and one that is longer.
func TestLongest(t *testing.T) {
	line := "send 1 1" + strings.Repeat(" end", 62)
	longer := "send 1 1 query: begin" + strings.Repeat(" end", 59)
	if len(line) != 256 || len(longer) != 257 {
		t.Fatalf("the lines have %d and %d bytes", len(line), len(longer))
	}
	if s, e := New().Line(line); s != "error 3" || e != api.OK {
		t.Errorf("Line is %q, %d", s, e)
	}
	if s, e := New().Line(longer); s != "" || e != api.ErrLong {
		t.Errorf("Line is %q, %d", s, e)
	}
	run(t, line, "error 3\n", api.OK, 0)
	run(t, longer, "", api.ErrScript, 1)
}

// P23.1: each line does what it says.
func TestEffects(t *testing.T) {
	d := New()
	dialog(t, d, "open | error 3", "world 8 1 1 0 1 | error 1", "judge | error 3", "world 3 1,2,3 2 100 100 | ok",
		"leaders | ok 0 0 0", "clocks | ok 0 0 0", "letters | ok 0", "open | ok 0", "told | ok 0", "held 1 | ok 0", "queries 1 | ok 0", "judge | ok fine",
		"stand 1 | ok", "letters | ok 2", "drop 1 | ok", "double 0 | ok", "deliver 1 | ok", "deliver 2 | error 4", "drop 9 | error 4", "double 9 | error 4", "letters | ok 2", "round | ok", "leaders | ok 1 1 1",
		"beat 2 | error 160", "beat 1 | ok", "round 3 | ok", "pass 10 9 10 11 | ok", "pass 10 8 10 11 | error 1", "pass 10 9 10 | error 1", "clocks | ok 9 10 11",
		"send 2 1 begin | ok", "round 2 | ok", "held 3 | ok 1/ 1 2 1 1 2", "open | ok 1/ 2 1", "told | ok 1/ 2 1 1 ready",
		"send 2 1 query:hi | ok", "send 1 2 end bad | ok", "queries 2 | ok 1/ 1", "serve 2 1 =yo | ok", "serve 2 1 =yo | error 4", "send 2 1 end | ok",
		"told | ok 5/ 2 1 1 ready/ 1 2 1 wrong/ 1 2 1 broken/ 2 1 1 result =yo/ 2 1 1 done", "hang 2 1 | ok", "hang 2 1 | error 4", "hang 2 9 | error 4", "send 2 7 begin | error 1",
		"crash 2 | ok", "stand 2 | error 7", "leaders | ok 1 - 1", "open | ok 0", "held 2 | ok 0", "start 2 | ok", "start 2 | error 3", "start 4 | error 1", "leaders | ok 1 0 1", "round | ok", "leaders | ok 1 1 1",
		"change 1 1,2 | ok", "change 1 2 | error 161", "change 1 2,1 | error 40", "round 2 | ok", "squash 1 | ok", "squash 1 | error 4", "arm 3 0 | ok", "crash 3 5,0 | ok", "arm 3 0 | error 7",
		"judge | ok fine")
	dialog(t, d, "world 1 2 1 0 1 | error 1", "leaders | ok 1 1 -", "world 2 1 1 0 50 | ok", "leaders | ok 0 0", "told | ok 0")
}

// P23.1: replies of all Kinds.
func TestReplies(t *testing.T) {
	d := New()
	dialog(t, d, "world 2 1,2 1 0 100 | ok", "send 2 1 begin | ok", "send 2 2 begin | ok", "send 2 3 begin | ok", "send 2 4 begin | ok", "send 2 5 begin | ok", "told | ok 1/ 2 5 1 busy",
		"hang 2 2 | ok", "hang 2 3 | ok", "hang 2 4 | ok", "stand 1 | ok", "round | ok", "pass 1 1 1 | ok", "round | ok", "told | ok 2/ 2 5 1 busy/ 2 1 1 ready",
		"send 1 1 query:x | ok", "round 2 | ok", "told | ok 3/ 2 5 1 busy/ 2 1 1 ready/ 1 1 1 moved 2", "send 2 1 query:z | ok", "pass 99 99 99 | ok", "round | ok",
		"told | ok 4/ 2 5 1 busy/ 2 1 1 ready/ 1 1 1 moved 2/ 2 1 1 aborted", "judge | ok fine")
	if got := reply(api.Reply{Kind: api.Result}); got != "result =" {
		t.Errorf("a reply is %q", got)
	}
}

// P23.1: the judge's verdict; no world comes to a wrong one, so one is made up.
func TestJudge(t *testing.T) {
	d := New()
	dialog(t, d, "world 1 1 2 0 100 | ok", "stand 1 | ok", "send 1 1 begin | ok", "send 1 2 begin | ok", "judge | ok fine")
	d.setup.Limit = 1
	dialog(t, d, "judge | ok 1 1")
}

func run(t *testing.T, text, want string, e api.Errno, n int) {
	t.Helper()
	if got, gotErr, at := Run(text); got != want || gotErr != e || at != n {
		t.Errorf("Run of %d bytes is %q, %d, %d, not %q, %d, %d", len(text), got, gotErr, at, want, e, n)
	}
}

// P23.2
func TestRun(t *testing.T) {
	first := "world 1 1 2 0 100\nstand 1\nsend 1 1 begin\n"
	run(t, "", "", api.OK, 0)
	run(t, "\n", "", api.OK, 0)
	run(t, "\n\n# a remark\n#\n", "", api.OK, 0)
	run(t, first, "ok\nok\nok\n", api.OK, 0)
	run(t, first+"told", "ok\nok\nok\nok 1\n 1 1 1 ready\n", api.OK, 0)
	run(t, "\n#"+strings.Repeat("x", 300)+"\nopen\n\nopen", "error 3\nerror 3\n", api.OK, 0)
	run(t, "open\n\nfly\nfly\n", "", api.ErrScript, 3)
	run(t, "open\n #\n", "", api.ErrScript, 2)
	run(t, "open\r\n", "", api.ErrScript, 1)
	run(t, "open\n"+strings.Repeat("x", 257), "", api.ErrScript, 2)
	run(t, "send 1 1"+strings.Repeat(" begin", 42), "", api.ErrScript, 1)
	run(t, "send 1 1"+strings.Repeat(" begin", 41), "error 3\n", api.OK, 0)
}

// P23.2: how long a text may be.
func TestRunLong(t *testing.T) {
	run(t, strings.Repeat("open\n", 400), strings.Repeat("error 3\n", 400), api.OK, 0)
	run(t, strings.Repeat("\n", 400)+"open", "", api.ErrLong, 0)
	run(t, strings.Repeat("\n", 400), "", api.OK, 0)
	run(t, strings.Repeat("\n", 401), "", api.ErrLong, 0)
	run(t, strings.Repeat("fly\n", 401), "", api.ErrLong, 0)
	run(t, "#"+strings.Repeat("x", 65535), "", api.OK, 0)
	run(t, "#"+strings.Repeat("x", 65536), "", api.ErrLong, 0)
	run(t, "fly\n#"+strings.Repeat("x", 65536), "", api.ErrLong, 0)
}

// P23.3: what comes first does not hang on what comes later, and who looks changes nothing.
func TestConsequences(t *testing.T) {
	acts := []string{"world 3 1,2,3 2 100 100"}
	for i := range 12 {
		acts = append(acts, "stand 1", "round 2", fmt.Sprintf("send %d %d begin query:q%d", 1+i%3, 1+i%5, i), "round", fmt.Sprintf("serve %d %d =r%d", 1+i%3, 1+i%2, i), "pass 7 7 7 7", fmt.Sprintf("crash %d 3,1", 1+i%3), fmt.Sprintf("start %d", 1+i%3))
	}
	shows := []string{"open", "told", "leaders", "clocks", "letters", "held 1", "held 9", "queries 2", "judge"}
	whole, _, _ := Run(strings.Join(acts, "\n"))
	plain, looking := New(), New()
	got := ""
	for i, line := range acts {
		a, _ := plain.Line(line)
		b, _ := looking.Line(line)
		if a != b {
			t.Fatalf("%q is %q, and %q behind looks", line, a, b)
		}
		got += a + "\n"
		part, _, _ := Run(strings.Join(acts[:i+1], "\n"))
		if part != got || !strings.HasPrefix(whole, part) {
			t.Fatalf("the first %d lines are %q, and all %q", i+1, part, whole)
		}
		for _, show := range shows {
			looking.Line(show)
			looking.Line(show + " ")
		}
	}
	if got != whole {
		t.Errorf("line by line it is %q, and as a whole %q", got, whole)
	}
}

// R5: two desks know nothing of each other.
func TestTwoDesks(t *testing.T) {
	a, b := New(), New()
	dialog(t, a, "world 1 1 2 0 100 | ok")
	dialog(t, b, "open | error 3", "world 2 1,2 2 0 100 | ok")
	dialog(t, a, "stand 1 | ok", "leaders | ok 1")
	dialog(t, b, "leaders | ok 0 0")
	var none *Desk
	if s, e := none.Line("open"); s != "" || e != api.ErrLine {
		t.Errorf("Line of no desk is %q, %d", s, e)
	}
}
