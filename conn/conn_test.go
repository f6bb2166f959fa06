package conn

import (
	"testing"

	"wigwag/api"
)

// R1: a nil end refuses each call that has an error to answer.
func TestNilRefuses(t *testing.T) {
	var c *Conn
	id, opened := c.Open()
	data, over, read := c.Read(0, 9)
	if id != 0 || len(data) != 0 || over {
		t.Errorf("beside an error stand %d, %v, %v", id, data, over)
	}
	for i, err := range []api.Errno{opened, read, c.Write(0, []byte("hi")), c.Finish(0), c.Reset(0, 0), c.Stop(0, 0)} {
		if err != api.ErrArg {
			t.Errorf("%d: %d, want ErrArg", i, int(err))
		}
	}
}

// R1: a nil end answers zero values where there is no error to answer, and does not panic.
func TestNilAnswersZero(t *testing.T) {
	var c *Conn
	c.Recv(5, []byte{64}, true)
	c.Tick(5)
	c.Close(3)
	out, more := c.Send(5)
	if out.Bytes != nil || out.Number != 0 || out.Asks || out.Probe || out.ECT || out.Flight != 0 || out.Window != 0 || more {
		t.Errorf("Send tells %v, %v", out, more)
	}
	if len(c.Streams()) != 0 || c.State() != 0 || c.Code() != 0 || c.Window() != 0 || c.Rate() != 0 || c.Quiet() {
		t.Error("a nil end tells something")
	}
}
