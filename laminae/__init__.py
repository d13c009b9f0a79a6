"""Laminae: a copy-on-write file system with snapshots, quotas and a checker."""
