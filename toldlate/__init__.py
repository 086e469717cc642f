"""Toldlate: jobs that make jobs, and ends that are told late."""
