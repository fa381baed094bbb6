"""The tests of blindslots; run them with `.ci/run`."""
