package web

import (
	"strings"
	"testing"

	"tocsin/api"
)

const oneLine = "GET / HTTP/1.1\r\n" // 16 bytes

func TestFaultsOfLines(t *testing.T) { // X1: each at its place, when it is shown
	for s, at := range map[string]int{
		// ahead of a request
		"\n": 0, "\rx": 1, "\r\r": 1, "\r\n\n": 2, "\r\n\r\r": 3, "\r\n ": 2, " ": 0, "\t": 0, "\x00": 0, "\xff": 0,
		// the method
		"G(": 1, "G\r": 1, "G\n": 1, "G\t": 1, "G\x00": 1, "G\x80": 1, "G:": 1, "G/": 1, "\"": 0, "G\x7f": 1, "{": 0, "}": 0, "@": 0, "[": 0, "]": 0,
		// the target
		"GET  ": 4, "GET a": 4, "GET *": 4, "GET h": 4, "GET \r": 4, "GET \n": 4, "GET /\r": 5, "GET /\n": 5, "GET /\t": 5, "GET /\x00": 5, "GET /\x1f": 5, "GET /\x7f": 5, "GET /\x80": 5, "GET /ab\xff": 7,
		// the version: of the eight bytes each
		"GET /  ": 6, "GET / h": 6, "GET / \r": 6, "GET / Ht": 7, "GET / HTt": 8, "GET / HTTp": 9, "GET / HTTP ": 10, "GET / HTTP/x": 11, "GET / HTTP/.": 11, "GET / HTTP/\r": 11, "GET / HTTP/1,": 12, "GET / HTTP/11": 12, "GET / HTTP/1.x": 13, "GET / HTTP/1.\r": 13, "GET / HTTP/2.x": 13,
		// the end of the line
		"GET / HTTP/1.1\n": 14, "GET / HTTP/1.1 ": 14, "GET / HTTP/1.10": 14, "GET / HTTP/1.1x": 14, "GET / HTTP/1.1\r\r": 15, "GET / HTTP/1.1\r ": 15, "GET / HTTP/1.0\n": 14,
	} {
		fails(t, s, 0, at, api.ErrRequest)
		fails(t, "\r\n\r\n"+s, 0, 4+at, api.ErrRequest)
	}
}

func TestFaultsOfHeaders(t *testing.T) { // X1: likewise of trailers
	for s, at := range map[string]int{
		" ": 0, "\t": 0, ":": 0, "\n": 0, "\x00": 0, "\xe9": 0, "(": 0, "\rx": 1, "\r\r": 1,
		"a ": 1, "a\t": 1, "a\r": 1, "a\n": 1, "a(": 1, "a\x00": 1, "a\xe9": 1, "a,": 1,
		"a:\n": 2, "a:\x00": 2, "a:\x1f": 2, "a:\x7f": 2, "a:\rb": 3, "a:\r\r": 3, "a:\r ": 3, "a: \n": 3, "a:x\n": 3, "a:x\x08": 3, "a:x \t\n": 5, "a:x \rb": 5,
		"a:\r\n ": 4, "a:\r\n\t": 4, "a:\r\n:": 4, "a:\r\n\n": 4, "a:b\r\nc\r": 6,
	} {
		fails(t, oneLine+s, 0, len(oneLine)+at, api.ErrRequest)
		fails(t, oneLine+"host: x\r\n"+s, 0, len(oneLine)+9+at, api.ErrRequest)
		fails(t, chunkedHead+"0\r\n"+s, 0, len(chunkedHead)+3+at, api.ErrRequest)
		fails(t, chunkedHead+"1\r\na\r\n0;\r\nb:c\r\n"+s, 0, len(chunkedHead)+15+at, api.ErrRequest)
	}
}

func TestFaultsOfChunks(t *testing.T) { // X1
	for s, at := range map[string]int{
		"x": 0, "g": 0, "G": 0, "\r": 0, "\n": 0, ";": 0, " ": 0, "-": 0, "+": 0, "\x00": 0,
		"1 ": 1, "1\t": 1, "1g": 1, "1x": 1, "0x": 1, "1\n": 1, "1,": 1, "1:": 1, "@": 0, "`": 0, "/": 0,
		"1\rx": 2, "1\r\r": 2, "1;\n": 2, "1;\x00": 2, "1;\x7f": 2, "1;\x1f": 2, "1;x\n": 3, "1;\rx": 3, "1;a\r\r": 4,
		"1\r\nab": 4, "1\r\na\n": 4, "1\r\na\x00": 4, "1\r\na\rb": 5, "1\r\na\r\r": 5, "a\r\n0123456789x": 13,
		"1\r\na\r\nx": 6, "1\r\na\r\n\r": 6, "1\r\na\r\n;": 6, "1\r\na\r\n0\rx": 8,
	} {
		fails(t, chunkedHead+s, 0, len(chunkedHead)+at, api.ErrRequest)
	}
}

func TestVersions(t *testing.T) { // X1: ErrVersion at the first of the eight bytes, when all have come
	for major := byte('0'); major <= '9'; major++ {
		for minor := byte('0'); minor <= '9'; minor++ {
			version := "HTTP/" + string(major) + "." + string(minor)
			if version == "HTTP/1.0" || version == "HTTP/1.1" {
				reads(t, "GET / "+version, 14)
				continue
			}
			fails(t, "GET / "+version, 0, 6, api.ErrVersion)
			fails(t, "\r\nDELETE /abc "+version, 0, 14, api.ErrVersion)
		}
	}
}

func TestLongestTarget(t *testing.T) { // X1: the 513th byte is too much
	const head = "GET "
	target := "/" + strings.Repeat("t", 511)
	reads(t, head+target+lined(" HTTP/1.1\nhost:x\n\n"), 0, asked("GET", target, "", false, "host", "x"))
	for _, c := range []string{"t", "/", "!", "~"} {
		fails(t, head+target+c, 0, 4+512, api.ErrHead)
	}
	for _, c := range []string{"\r", "\n", "\x7f", "\x80", "\x00"} {
		fails(t, head+target+c, 0, 4+512, api.ErrRequest)
	}
	fails(t, head+target+"  ", 0, 4+513, api.ErrRequest)
}

func TestMostHeaders(t *testing.T) { // X1: the 33rd header is too much, whatever its first byte is
	lines := "host:x\r\n" + strings.Repeat("a:b\r\n", 31)
	want := asked("GET", "/", "", false, "host", "x")
	for range 31 {
		want.Headers = append(want.Headers, [2]string{"a", "b"})
	}
	reads(t, oneLine+lines+"\r\n", 0, want)
	for c := range 256 {
		one := string([]byte{byte(c)})
		if one == "\r" {
			continue
		}
		fails(t, oneLine+lines+one, 0, len(oneLine+lines), api.ErrHead)
		fails(t, chunkedHead+"0\r\n"+lines+one, 0, len(chunkedHead+lines)+3, api.ErrHead)
	}
	fails(t, oneLine+lines+"\rx", 0, len(oneLine+lines)+1, api.ErrRequest)
	fails(t, oneLine+strings.Repeat("a:b\r\n", 31)+"(", 0, len(oneLine)+31*5, api.ErrRequest)
	// Trailers are counted on their own.
	head := strings.Replace(chunkedHead, "host:x\r\n", "host:x\r\n"+strings.Repeat("a:b\r\n", 30), 1)
	full := asked("POST", "/", "", false, "host", "x")
	full.Headers = append(full.Headers, want.Headers[1:31]...)
	full.Headers = append(full.Headers, [2]string{"transfer-encoding", "chunked"})
	reads(t, head+"0\r\n"+lines+"\r\nG", 1, full)
	reads(t, chunkedHead+"0\r\n"+lines+"\r\nG", 1, asked("POST", "/", "", false, "host", "x", "transfer-encoding", "chunked"))
}

func TestLongestHead(t *testing.T) { // X1: 2048 bytes; what goes on is not looked at
	const begin = "GET / HTTP/1.1\r\nhost:x\r\na:"
	for _, ahead := range []string{"", "\r\n", strings.Repeat("\r\n", 1024)} {
		value := strings.Repeat("v", 2048-len(begin)-4)
		reads(t, ahead+begin+value+"\r\n\r\n", 0, asked("GET", "/", "", false, "host", "x", "a", value))
		at := len(ahead) + 2048
		for c := range 256 {
			next := string([]byte{byte(c)})
			fails(t, ahead+begin+value+"vvvv"+next, 0, at, api.ErrHead)
			fails(t, ahead+begin+value+"vvv\r"+next, 0, at, api.ErrHead)
			fails(t, ahead+begin+value+"vv\r\n"+next, 0, at, api.ErrHead)
			fails(t, ahead+begin+value+"v\r\n\r"+next, 0, at, api.ErrHead)
		}
		fails(t, ahead+begin+value+"vvv\n", 0, at-1, api.ErrRequest) // within the bound a fault is what it is
		fails(t, ahead+begin+value+"\r\n\rx", 0, at-1, api.ErrRequest)
	}
}

func TestHeadBoundInEachPart(t *testing.T) { // X1: whatever stands at the bound of the head, and whatever it would show
	method := strings.Repeat("M", 2048)
	const rest = " / HTTP/1.1\r\nhost:x\r\n\r\n"
	for i := range len(rest) {
		s := method[:2048-i] + rest[:i]
		for _, next := range []string{rest[i : i+1], "\x00", "\n", "("} {
			fails(t, s+next, 0, 2048, api.ErrHead)
			fails(t, "\r\n"+s+next, 0, 2050, api.ErrHead)
		}
	}
	fails(t, method[:2048-10]+" / HTTP/2.0", 0, 2048, api.ErrHead)
	fails(t, method[:2048-11]+" / HTTP/2.0", 0, 2040, api.ErrVersion)
	reads(t, method[:2048-len(rest)]+rest, 0, asked(method[:2048-len(rest)], "/", "", false, "host", "x"))
	// Where a head just fits, what it says is looked at.
	const bare = " / HTTP/1.1\r\n\r\n"
	fails(t, method[:2048-len(bare)]+bare, 0, 2048, api.ErrRequest)
	fails(t, method[:2049-len(bare)]+bare, 0, 2048, api.ErrHead)
}

func TestLongestTrailers(t *testing.T) { // X1: 2048 bytes with the empty line, apart from the head's
	want := asked("POST", "/", "a", false, "host", "x", "transfer-encoding", "chunked")
	begin := chunkedHead + "1\r\na\r\n0\r\n"
	value := strings.Repeat("v", 2048-2-4)
	reads(t, begin+"a:"+value+"\r\n\r\nG", 1, want)
	for _, next := range []string{"v", "\r", "\n", "\x00", "("} {
		fails(t, begin+"a:"+value+"vvvv"+next, 0, len(begin)+2048, api.ErrHead)
		fails(t, begin+"a:"+value+"vvv\r"+next, 0, len(begin)+2048, api.ErrHead)
		fails(t, begin+"a:"+value+"vv\r\n"+next, 0, len(begin)+2048, api.ErrHead)
		fails(t, begin+"a:"+value+"v\r\n\r"+next, 0, len(begin)+2048, api.ErrHead)
		fails(t, begin+strings.Repeat("n", 2048)+next, 0, len(begin)+2048, api.ErrHead)
	}
}

func TestBodyHasNoBoundOfAHead(t *testing.T) { // X2: what stands behind the head is not counted with it
	body := strings.Repeat("b", 3000)
	value := strings.Repeat("v", 1900)
	reads(t, lined("PUT / HTTP/1.1\nhost:x\na:"+value+"\ncontent-length:3000\n\n")+body, 0, asked("PUT", "/", body, false, "host", "x", "a", value, "content-length", "3000"))
	small := strings.Repeat("1;"+strings.Repeat("x", 50)+"\r\nb\r\n", 3000)
	reads(t, lined("PUT / HTTP/1.1\nhost:x\na:"+value+"\ntransfer-encoding:chunked\n\n")+small+"0\r\na:"+value+"\r\n\r\n", 0, asked("PUT", "/", body, false, "host", "x", "a", value, "transfer-encoding", "chunked"))
}

func TestLongestSizeLine(t *testing.T) { // X1: 64 bytes ahead of its CR
	want := asked("POST", "/", "a", false, "host", "x", "transfer-encoding", "chunked")
	n := len(chunkedHead)
	zeros, signs := strings.Repeat("0", 64), strings.Repeat("x", 64)
	for _, line := range []string{zeros[:63] + "1", "1;" + signs[:62], zeros[:62] + "1;"} {
		reads(t, chunkedHead+line+"\r\na\r\n"+zeros+"\r\n\r\n", 0, want)
		for c := range 256 {
			if c != '\r' {
				fails(t, chunkedHead+line+string([]byte{byte(c)}), 0, n+64, api.ErrHead)
			}
		}
		fails(t, chunkedHead+line+"\rx", 0, n+65, api.ErrRequest)
		fails(t, chunkedHead+"1\r\na\r\n"+line+"0", 0, n+6+64, api.ErrHead)
		fails(t, chunkedHead+line[:63]+"\n", 0, n+63, api.ErrRequest)
	}
	fails(t, chunkedHead+strings.Repeat("f", 64)+"\r\n", 0, n, api.ErrBody)
	fails(t, chunkedHead+strings.Repeat("f", 65), 0, n+64, api.ErrHead)
}

func TestLongestBodyInChunks(t *testing.T) { // X1: MaxBody in all; told when the line has come, at its first byte
	n := len(chunkedHead)
	big := strings.Repeat("b", 6000)
	for _, size := range []string{"1771", "2000", "FFFF", "0001771;x", "ffffffff", "100000000", "7fffffffffffffff", "8000000000000000", "ffffffffffffffff", "10000000000000000", "10000000000000001", "ffffffffffffffffffffffffffffffff"} {
		fails(t, chunkedHead+size+"\r\n", 0, n, api.ErrBody)
		fails(t, chunkedHead+"1\r\nb\r\n"+size+"\r\n", 0, n+6, api.ErrBody)
	}
	for _, size := range []string{"1770", "000001770", "1770;ext"} {
		reads(t, chunkedHead+size+"\r\n", n+len(size)+2)
		reads(t, chunkedHead+size+"\r\n"+big+"\r\n0\r\n\r\n", 0, asked("POST", "/", big, false, "host", "x", "transfer-encoding", "chunked"))
		fails(t, chunkedHead+size+"\r\n"+big+"\r\n1\r\n", 0, n+len(size)+2+6002, api.ErrBody)
		fails(t, chunkedHead+"1\r\nb\r\n"+size+"\r\n", 0, n+6, api.ErrBody)
	}
	fails(t, chunkedHead+"176F\r\n"+big[:5999]+"\r\n2\r\n", 0, n+6+6001, api.ErrBody)
	reads(t, chunkedHead+"176F\r\n"+big[:5999]+"\r\n1\r\nb\r\n0\r\n\r\n", 0, asked("POST", "/", big, false, "host", "x", "transfer-encoding", "chunked"))
}

// behind wants a fault at the place behind a head; OK: none.
func behind(t *testing.T, version, lines string, errno api.Errno) {
	t.Helper()
	s := "POST / HTTP/" + version + "\r\n" + lined(lines) + "\r\n"
	if errno != api.OK {
		fails(t, s, 0, len(s), errno)
		fails(t, "\r\n"+s, 0, len(s)+2, errno)
		return
	}
	if _, err := NewParser().Feed([]byte(s)); err != nil {
		t.Errorf("X1: %q: %v", s, err)
	}
}

func TestRuleOfHosts(t *testing.T) { // the first rule behind a head
	behind(t, "1.1", "", api.ErrRequest)
	behind(t, "1.1", "a:b\n", api.ErrRequest)
	behind(t, "1.1", "hosts:x\nx-host:x\n", api.ErrRequest)
	behind(t, "1.1", "host:x\n", api.OK)
	behind(t, "1.1", "HOST:\n", api.OK)
	behind(t, "1.1", "host:x\nHost:x\n", api.ErrRequest)
	behind(t, "1.1", "host:x\na:b\nHOST:y\nhost:\n", api.ErrRequest)
	behind(t, "1.0", "", api.OK)
	behind(t, "1.0", "host:x\n", api.OK)
	behind(t, "1.0", "host:x\nhost:x\n", api.ErrRequest)
	// ahead of the others
	behind(t, "1.1", "transfer-encoding:gzip\n", api.ErrRequest)
	behind(t, "1.1", "content-length:6001\n", api.ErrRequest)
	behind(t, "1.0", "host:x\nhost:y\ncontent-length:6001\n", api.ErrRequest)
	behind(t, "1.1", "host:x\nhost:y\ntransfer-encoding:gzip\n", api.ErrRequest)
}

func TestRulesOfBodies(t *testing.T) { // the rules 2 to 5 behind a head
	for lines, errno := range map[string]api.Errno{
		// 2, ahead of 3, 4 and 5
		"content-length:1\ntransfer-encoding:chunked\n": api.ErrRequest, "transfer-encoding:gzip\ncontent-length:1\n": api.ErrRequest, "transfer-encoding:chunked\ncontent-length:6001\n": api.ErrRequest, "transfer-encoding:\ncontent-length:x\ncontent-length:6001\n": api.ErrRequest, "content-length:\ntransfer-encoding:chunked\ntransfer-encoding:chunked\n": api.ErrRequest,
		// 3
		"transfer-encoding:chunked\n": api.OK, "Transfer-Encoding: \tCHUNKED\t\n": api.OK, "transfer-encoding:ChunkeD\n": api.OK,
		"transfer-encoding:gzip\n": api.ErrCoding, "transfer-encoding:\n": api.ErrCoding, "transfer-encoding:chunked,\n": api.ErrCoding, "transfer-encoding:gzip, chunked\n": api.ErrCoding, "transfer-encoding:chunked, chunked\n": api.ErrCoding, "transfer-encoding:identity\n": api.ErrCoding, "transfer-encoding:chunke\n": api.ErrCoding, "transfer-encoding:chunkedd\n": api.ErrCoding, "transfer-encoding:\"chunked\"\n": api.ErrCoding, "transfer-encoding:chunked;q=1\n": api.ErrCoding, "transfer-encoding:chun\u212aed\n": api.ErrCoding, "transfer-encoding:chunked\xff\n": api.ErrCoding,
		"transfer-encoding:chunked\ntransfer-encoding:chunked\n": api.ErrCoding, "transfer-encoding:gzip\ntransfer-encoding:chunked\n": api.ErrCoding, "transfer-encoding:chunked\ntransfer-encoding:\n": api.ErrCoding,
		// 4, ahead of 5
		"content-length:1\ncontent-length:1\n": api.ErrRequest, "content-length:6001\ncontent-length:6001\n": api.ErrRequest, "content-length:0\nContent-Length:0\nCONTENT-LENGTH:0\n": api.ErrRequest, "content-length:\n": api.ErrRequest, "content-length: \t\n": api.ErrRequest,
		"content-length:+1\n": api.ErrRequest, "content-length:-1\n": api.ErrRequest, "content-length:-0\n": api.ErrRequest, "content-length:1 1\n": api.ErrRequest, "content-length:1,1\n": api.ErrRequest, "content-length:0x1\n": api.ErrRequest, "content-length:a\n": api.ErrRequest, "content-length:1.0\n": api.ErrRequest, "content-length:1e1\n": api.ErrRequest, "content-length:1_0\n": api.ErrRequest, "content-length:/\n": api.ErrRequest, "content-length:1:\n": api.ErrRequest, "content-length:\u0661\n": api.ErrRequest, "content-length:99999x\n": api.ErrRequest,
		// 5
		"content-length:0\n": api.OK, "content-length:6000\n": api.OK, "content-length:00000000000000000000006000\n": api.OK, "content-length:6001\n": api.ErrBody, "content-length:0006001\n": api.ErrBody, "content-length:60000\n": api.ErrBody, "content-length:2147483648\n": api.ErrBody, "content-length:4294967297\n": api.ErrBody, "content-length:9223372036854775807\n": api.ErrBody, "content-length:9223372036854775808\n": api.ErrBody, "content-length:18446744073709551616\n": api.ErrBody, "content-length:18446744073709551617\n": api.ErrBody, "content-length:184467440737095516160\n": api.ErrBody, "content-length:" + strings.Repeat("9", 500) + "\n": api.ErrBody, "content-length:1" + strings.Repeat("0", 64) + "\n": api.ErrBody,
		// what only looks like it
		"x-content-length:x\ntransfer-encodings:x\n": api.OK,
	} {
		behind(t, "1.1", "host:x\n"+lines, errno)
		behind(t, "1.1", lines+"a:b\nhost:x\n", errno)
		if strings.Contains(lines, "transfer-encoding:") || strings.Contains(lines, "Transfer-Encoding:") {
			errno = api.ErrRequest
		}
		behind(t, "1.0", lines, errno)
		behind(t, "1.0", "host:x\n"+lines, errno)
	}
}

func TestFaultIsItsOwners(t *testing.T) { // P3, X3: who writes into a fault changes no later one
	p := NewParser()
	var first error
	for range 4 {
		_, err := p.Feed([]byte("G("))
		f, ok := err.(*api.Fault)
		if !ok || f.At != 1 || f.Err != api.ErrRequest || err == first {
			t.Fatalf("%v", err)
		}
		f.At, f.Err, first = 77, api.ErrBody, err
	}
	for range 2 {
		_, _, err := ParseResponse([]byte("x"))
		f, ok := err.(*api.Fault)
		if !ok || f.At != 0 || f.Err != api.ErrRequest {
			t.Fatalf("%v", err)
		}
		f.At, f.Err = 77, api.ErrBody
	}
}
