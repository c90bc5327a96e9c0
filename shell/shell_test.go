package shell

import (
	"bytes"
	"slices"
	"strings"
	"testing"

	"relucert/api"
	"relucert/model"
	"relucert/testkit"
)

var rats = testkit.Rats

func file(t *testing.T, name string, m api.Model) api.File {
	t.Helper()
	b, e := model.Encode(m)
	if e != api.OK {
		t.Fatal(e)
	}
	return api.File{Name: name, Data: b}
}

func identity() api.Model {
	return api.Model{Input: []int{2}, Layers: []api.Layer{{Kind: api.LayerDense, Out: 2, Weights: rats(1, 0, 0, 1), Bias: rats(0, 0)}}}
}

// maximum has the outputs max(x0, x1) and max(x0, -x1), by rectifiers.
func maximum() api.Model {
	return api.Model{Input: []int{2}, Layers: []api.Layer{
		{Kind: api.LayerDense, Out: 4, Weights: rats(1, -1, 0, 1, 0, -1, 1, 1), Bias: rats(0, 0, 0, 0)}, {Kind: api.LayerRelu},
		{Kind: api.LayerDense, Out: 2, Weights: rats(1, 1, -1, 0, 0, -1, 1, 1), Bias: rats(0, 0)},
	}}
}

func files(t *testing.T) []api.File {
	return []api.File{file(t, "m", identity()), file(t, "relu", maximum()), {Name: "bad", Data: []byte("RLUM")}, {Name: "m", Data: []byte("second")}}
}

func expect(t *testing.T, fs []api.File, script string, want ...string) []api.File {
	t.Helper()
	out, got := Run(script, fs)
	if lines := strings.Split(strings.TrimSuffix(out, "\n"), "\n"); !slices.Equal(lines, want) || out != strings.Join(want, "\n")+"\n" {
		t.Errorf("%q\n got %q\nwant %q", script, lines, want)
	}
	return got
}

func TestExample(t *testing.T) {
	expect(t, files(t), "model m\nbox 1 0 : 2 1/2\nclaim y0 >= y1\nverify\nrange y0 - y1\nfrob\neval 1 2", "model 1 layers 6 parameters 0 units", "region 2 inputs", "claim y0 - y1 >= 0", "proved", "range 1/2 2", "error syntax", "outputs 1 2")
	if out, fs := Run(" \n\n   \n", nil); out != "" || len(fs) != 0 {
		t.Error(out)
	}
}

func TestEngine(t *testing.T) {
	expect(t, files(t), "model m\nbox 1 0 : 2 1/2\nclaim top 0 margin 1/2\nengine 8\nverify\nengine 8\nask 3/2 1/4\nask 0 0\nask 1\nask 1 x\nmargin 0\nmargin 1\nengine 1\nask 3/2 0.25\nbox 1 0 : 2 1/2\nask 1 0\nengine 25\nengine 8\nask 1 0",
		"model 1 layers 6 parameters 0 units", "region 2 inputs", "claim top 0 margin 1/2", "error state", "proved", "engine", "class 0", "outside", "invalid", "error syntax", "margin 1/2", "margin -2", "error margin", "class 0", "region 2 inputs", "error state", "error argument", "engine", "class 0")
}

func TestErrors(t *testing.T) {
	big := strings.Repeat("1", 4001)
	expect(t, files(t), strings.Join([]string{
		"model", "model a b", "model zz", "model bad", "box 1 : 2", "box", "box 1 2", "box 1/0", "box x 1/0 : 1", "box 1/0 x : 1", "box 1 : 1 :", "box 1 : " + big, "cut x0", "cut", "cut y0", "claim top 0", "claim foo", "claim top 999", "verify", "verify a", "verify 1 2 3", "verify 00", "verify 1234567890",
		"check", "check x", "trim", "trim x", "save f", "save", "load f", "load", "load m", "range y0", "range x0", "margin 0", "margin", "margin 0 0", "eval 1", "eval 1/", "engine 8", "engine", "ask 1", "ask a", "Model m", "\tmodel m",
	}, "\n"), "error syntax", "error syntax", "error none", "error form", "error state", "error syntax", "error syntax", "error divide", "error syntax", "error divide", "error syntax", "error limit", "error state", "error syntax", "error syntax", "error state", "error syntax", "error argument", "error state", "error syntax", "error syntax", "error syntax", "error syntax",
		"error state", "error syntax", "error state", "error syntax", "error state", "error syntax", "error none", "error syntax", "error form", "error state", "error syntax", "error state", "error syntax", "error syntax", "error state", "error syntax", "error state", "error syntax", "error state", "error syntax", "error syntax", "error syntax")
	expect(t, files(t), strings.Join([]string{
		"  model   m  ", "box 1 : 2", "box 1 2 : 1", "box 2 2 : 1 1", "box : ", "verify", "box 0 0 : 1 1", "verify", "claim y2 >= 0", "claim top 1 margin 0.5", "claim   y0>=-1", "verify 3", "verify 0 4", "verify 0 3", "cut x2", "cut x0 - 1/4", "cut 2*x1 -  1/2", "range y2", "range y0", "margin 2", "eval 1", "eval 1 2 3", "eval -0.5 7/2", "cut x0 - 3", "range y0", "verify", "model zz", "eval 1 1",
	}, "\n"), "model 1 layers 6 parameters 0 units", "error shape", "error argument", "error argument", "error argument", "error state", "region 2 inputs", "error state", "error argument", "error syntax", "claim y0 + 1 >= 0", "error argument", "error argument", "proved", "error argument", "region 1 rows", "region 2 rows", "error argument", "range 1/4 1", "error argument", "error shape", "error shape", "outputs -1/2 7/2", "region 3 rows", "error none", "proved", "error none", "outputs 1 1")
}

func TestVerdicts(t *testing.T) {
	fs := expect(t, files(t), "model relu\nbox -1 -1 : 1 1\nclaim y0 >= 0; y0 >= y1\nverify\nclaim y0 + y1 >= 0\nverify 0 1\ncheck\nsave cert\ntrim\ncheck\nsave small\nclaim y0 >= 0\ncheck\ntrim\nmodel relu\nbox 0 0 : 1 1\ncheck\nclaim y0 >= 0\ncheck\nload cert\ncheck",
		"model 3 layers 22 parameters 4 units", "region 2 inputs", "claim y0 >= 0; y0 - y1 >= 0", "broken 0", "claim y0 + y1 >= 0", "proved", "accepted", "saved cert", "trimmed", "accepted", "saved small", "claim y0 >= 0", "rejected", "rejected", "model 3 layers 22 parameters 4 units", "region 2 inputs", "error state", "claim y0 >= 0", "rejected", "loaded cert", "rejected")
	if len(fs) != 6 || fs[4].Name != "cert" || fs[5].Name != "small" || len(fs[5].Data) > len(fs[4].Data) || string(fs[3].Data) != "second" {
		t.Fatal(len(fs))
	}
	prefix := "model relu\nbox -1 -1 : 1 1\nclaim y0 + y1 >= 0\n"
	expect(t, fs, prefix+"check\nload cert\ncheck\nload small\ncheck\nsave m\nload m\ncheck\nmodel m", "model 3 layers 22 parameters 4 units", "region 2 inputs", "claim y0 + y1 >= 0", "error state", "loaded cert", "accepted", "loaded small", "accepted", "saved m", "loaded m", "accepted", "error form")
	for _, other := range []string{"claim y0 + y1 >= 0 margin 0\nload cert\ncheck", "claim 2*y0 + 2*y1 >= 0\nload cert\ncheck", "box -1 -1 : 1 2\nload cert\ncheck", "cut x0\nload cert\ncheck"} {
		out, _ := Run(prefix+other, fs)
		want := "rejected\n"
		if strings.HasSuffix(other, "margin 0\nload cert\ncheck") {
			want = "accepted\n"
		}
		if !strings.HasSuffix(out, want) {
			t.Error(other, out)
		}
	}
	damaged := bytes.Clone(fs[4].Data)
	damaged[50] ^= 1
	expect(t, []api.File{{Name: "d", Data: damaged}, {Name: "d", Data: fs[4].Data}}, "load d", "error sum")
}

func TestOrderAndFiles(t *testing.T) {
	given := files(t)
	script := "model m\nbox 1 0 : 2 1/2\nclaim top 0\nverify\nsave m\nmodel m\nask 1\nsave new\n"
	long, after := Run(script, given)
	for i := range script {
		if script[i] == '\n' {
			if short, _ := Run(script[:i], given); !strings.HasPrefix(long, short) {
				t.Error(i)
			}
		}
	}
	if !bytes.Equal(given[0].Data, files(t)[0].Data) || bytes.Equal(after[0].Data, given[0].Data) || !bytes.Equal(after[3].Data, given[3].Data) || len(after) != 5 || after[4].Name != "new" || !bytes.Equal(after[4].Data, after[0].Data) {
		t.Error("files")
	}
	after[1].Data[0] = 'X'
	if given[1].Data[0] != 'R' {
		t.Error("shared memory")
	}
}
