"""The tests of samereading."""
