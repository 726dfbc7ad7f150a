"""Latewell: streams of things that come late, and what of them is settled."""
